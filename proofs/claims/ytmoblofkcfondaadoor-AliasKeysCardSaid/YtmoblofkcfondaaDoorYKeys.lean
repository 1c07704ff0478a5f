/-
  AliasKeys: what the law asks of a kind and two texts.
-/
import Derived.Test.YtmoblofkcfondaaDoorYKit
import Derived.Test.YtmoblofkcfondaaDoorYRefA
import Derived.Deep.RegionHeld3
import Derived.Deep.RegionWith
namespace Go.Proofs.YtmoblofkcfondaaDoor
open Go Go.RowKit

theorem conv_oneK (c : UInt8) (W w2 : World) (h : w2.cell? ⟨W.heap.size, 0, none⟩ = some (.int .u8 (c.toNat : Int))) : (convert 35 9 (.slice (some ⟨W.heap.size, 0, none⟩) 1 1)).run Tryd.prog w2 = .ok (.string (ofL [c])) w2 :=
  run_convert_bytes_back (P := Tryd.prog) w2 35 9 5 ⟨W.heap.size, 0, none⟩ 1 [c] Tryd.underlying35 Tryd.underlying5 Tryd.underlying9 (fun j hj => by
    obtain rfl : j = 0 := by simpa using hj
    rw [Addr.add_lit]
    exact h)
theorem keep_newK {W w5 : World} {v : Value} {t : TypeId} {B : Nat} (hb : Below B (W.alloc (.cells #[v] t)) w5) (hB : W.heap.size < B) : w5.cell? ⟨W.heap.size, 0, none⟩ = some v :=
  (hb.cell (p := ⟨W.heap.size, 0, none⟩) hB).trans (cellAtY (World.alloc_heap_new W _) 0 v rfl)
theorem lt_of_cellK {W : World} {a : Addr} {v : Value} (h : W.cell? a = some v) : a.block < W.heap.size := World.block_lt_of_cell? _ _ h
theorem cell_newK (W : World) (v : Value) (t : TypeId) : (W.alloc (.cells #[v] t)).cell? ⟨W.heap.size, 0, none⟩ = some v := cellAtY (World.alloc_heap_new W _) 0 v rfl
theorem held_shellU {P : Program} {md : Region.Mode} {ops : Array Oper} {S : World → Prop} {Q : Exit → Act → World → Prop} {n : Nat} {l : Array Bool} {a : Act} {w : World} {aF : Nat → Act} (h1 : ∀ c (a : Act) d v w, Q (.panic c) (a.put d v) w → Q (.panic c) a w) (h2 : ∀ u w, S w → Q .normal (aF u) w)
    (h3 : ∀ K : Exit → Act → World → Prop, (∀ c (a : Act) d v w, K (.panic c) (a.put d v) w → K (.panic c) a w) → (∀ u w, S w → K .normal (aF u) w) → wpAnyH P md ops K S n l a w) : wpAnyH P md ops Q S n l a w := h3 Q h1 h2
/-- What is asked of each order may be asked under a stronger condition from here on. -/
theorem wpAnyH_strong {P : Program} {md : Region.Mode} {ops : Array Oper} {Q : Exit → Act → World → Prop} {S S' : World → Prop} (h : ∀ w, S' w → S w) : ∀ (fuel : Nat) (l : Array Bool) (a : Act) (w : World), wpAnyH P md ops Q S' fuel l a w → wpAnyH P md ops Q S fuel l a w
  | 0, _, _, _, hh => hh
  | fuel + 1, _, _, _, hh => ⟨hh.1, fun i hi => wpOp_mono (fun a' w' h' => ⟨h _ h'.1, wpAnyH_strong h fuel _ a' w' h'.2⟩) (hh.2 i hi)⟩
theorem key_right {k : Int} {a b : ByteArray} (h : keyOk k a b = true) : keyS k a b = ofL [UInt8.ofNat k.toNat] ++ ofL (putL (packN a) 8) ++ ofL (putL (packN b) 8) := by
  unfold keyS
  rw [h, if_pos rfl, ofL_append, ofL_append]
  unfold keyL keyAl put8L
  rw [show putL k.toNat 1 = [UInt8.ofNat k.toNat] by unfold putL putL byteAt; simp]
  simp
theorem key_wrong {k : Int} {a b : ByteArray} (h : keyOk k a b = false) : keyS k a b = ⟨#[]⟩ := by
  unfold keyS
  rw [h]; rfl
theorem cells2K {W : World} {B : Nat} {a b : Value} {t : TypeId} (h : W.heap[B]? = some (.cells #[a, b] t (0, 0))) :
    W.cell? ⟨B, 0, none⟩ = some a ∧ W.cell? ⟨B, 1, none⟩ = some b := ⟨cellAtY h 0 a rfl, cellAtY h 1 b rfl⟩

set_option maxRecDepth 1000000 in
set_option maxHeartbeats 16000000 in
theorem keys_any (k : Int) (a b : ByteArray) (w : World) (za : a.size ≤ 1000) (zb : b.size ≤ 1000) :
    Calls Tryd.prog 20 #[.int .i64 k, .string a, .string b] w fun e w' => e = .returned (.bool true) ∧ Below w.heap.size w w' := by
  have HK := Lib.hid (fun w' => key_al k a b w' za zb)
  have HA := Lib.hid (fun w' => packR_any a w' (by omega))
  have HBp := Lib.hid (fun w' => packR_any b w' (by omega))
  have PA := Lib.hid (fun w' => putR_any (packN a) w' (packN_lt a))
  have PB := Lib.hid (fun w' => putR_any (packN b) w' (packN_lt b))
  have hkr := key_right (k := k) (a := a) (b := b)
  have hkw := key_wrong (k := k) (a := a) (b := b)
  have hko : keyOk k a b = (decide (1 ≤ k) && (decide (k ≤ 7) && (packT (lowS a) && packT (lowS b)))) := by
    unfold keyOk
    by_cases h1 : 1 ≤ k
    · by_cases h7 : k ≤ 7
      · rw [decide_eq_true (show 1 ≤ k ∧ k ≤ 7 from ⟨h1, h7⟩), decide_eq_true h1, decide_eq_true h7]; simp
      · rw [decide_eq_false (show ¬ (1 ≤ k ∧ k ≤ 7) from fun h => h7 h.2), decide_eq_false h7]; simp
    · rw [decide_eq_false (show ¬ (1 ≤ k ∧ k ≤ 7) from fun h => h1 h.1), decide_eq_false h1]; simp
  have hs1 : (ofL [UInt8.ofNat k.toNat]).size = 1 := rfl
  have hs2 : (ofL (putL (packN a) 8)).size = 8 := by rw [size_ofL, length_putL]
  have hs3 : (ofL (putL (packN b) 8)).size = 8 := by rw [size_ofL, length_putL]
  generalize keyOk k a b = ok at *
  generalize keyS k a b = key at *
  generalize packT (lowS a) = oa at *
  generalize packT (lowS b) = ob at *
  generalize ofL (putL (packN a) 8) = ka at *
  generalize ofL (putL (packN b) 8) = kb at *
  generalize packN a = na at *
  generalize packN b = nb at *
  clear za zb
  cases ok with
  | false =>
    obtain rfl := hkw rfl
    have hcase : (k < 1) ∨ (¬ k < 1 ∧ 7 < k) ∨ (¬ k < 1 ∧ ¬ 7 < k ∧ oa = false) ∨ (¬ k < 1 ∧ ¬ 7 < k ∧ oa = true ∧ ob = false) := by
      by_cases h1 : 1 ≤ k
      · by_cases h7 : k ≤ 7
        · cases oa
          · exact .inr (.inr (.inl ⟨by omega, by omega, rfl⟩))
          · cases ob
            · exact .inr (.inr (.inr ⟨by omega, by omega, rfl, rfl⟩))
            · rw [decide_eq_true h1, decide_eq_true h7] at hko
              exact absurd hko (by decide)
        · omega
      · omega
    clear hko hkr hkw hs1 hs2 hs3 PA PB
    rcases hcase with h1 | ⟨h1, h7⟩ | ⟨h1, h7, rfl⟩ | ⟨h1, h7, rfl, rfl⟩
    · go_enter Tryd.func20, Tryd.ntmps20
      go_upto_region 2 with (go_at_call 19; (with_reducible refine (HK.out _).mono ?_); rintro e w2 ⟨rfl, hb2⟩)
      go_upto_region 3 with (go_at_call 36; (with_reducible refine (HA.out _).mono ?_); rintro e w3 ⟨rfl, hb3⟩)
      obtain ⟨W3, hW3⟩ : ∃ W3, w3.alloc (.cells #[.int .u64 (na : Int), .bool oa] 61) = W3 := ⟨_, rfl⟩
      have hN3 : W3.heap[w3.heap.size]? = some (.cells #[.int .u64 (na : Int), .bool oa] 61 (0, 0)) := by rw [← hW3]; exact World.alloc_heap_new w3 _
      have hb3' : Below w.heap.size w W3 := by rw [← hW3]; exact (hb2.trans (hb3.mono hb2.size)).alloc (Nat.le_trans hb2.size hb3.size) _
      rw [hW3]
      generalize w3.heap.size = N3 at *
      clear hW3 hb2 hb3
      go_upto_region 4 with (go_at_call 36; (with_reducible refine (HBp.out _).mono ?_); rintro e w4 ⟨rfl, hb4⟩)
      obtain ⟨W4, hW4⟩ : ∃ W4, w4.alloc (.cells #[.int .u64 (nb : Int), .bool ob] 61) = W4 := ⟨_, rfl⟩
      have hN4 : W4.heap[w4.heap.size]? = some (.cells #[.int .u64 (nb : Int), .bool ob] 61 (0, 0)) := by rw [← hW4]; exact World.alloc_heap_new w4 _
      have hb34 : Below W3.heap.size W3 W4 := by rw [← hW4]; exact hb4.alloc hb4.size _
      rw [hW4]
      generalize w4.heap.size = N4 at *
      clear hW4 hb4
      have hM4 := (hb34.block _ (lt_of_block hN3)).trans hN3
      have hb4' := hb3'.trans (hb34.mono hb3'.size)
      obtain ⟨p0, p1⟩ := cells2K hM4
      obtain ⟨q0, q1⟩ := cells2K hN4
      clear hM4 hb34 hN3 hN4 hb3'
      go_wp2
      go_ret
      exact ⟨rfl, hb4'⟩
    · go_enter Tryd.func20, Tryd.ntmps20
      go_upto_region 2 with (go_at_call 19; (with_reducible refine (HK.out _).mono ?_); rintro e w2 ⟨rfl, hb2⟩)
      go_upto_region 3 with (go_at_call 36; (with_reducible refine (HA.out _).mono ?_); rintro e w3 ⟨rfl, hb3⟩)
      obtain ⟨W3, hW3⟩ : ∃ W3, w3.alloc (.cells #[.int .u64 (na : Int), .bool oa] 61) = W3 := ⟨_, rfl⟩
      have hN3 : W3.heap[w3.heap.size]? = some (.cells #[.int .u64 (na : Int), .bool oa] 61 (0, 0)) := by rw [← hW3]; exact World.alloc_heap_new w3 _
      have hb3' : Below w.heap.size w W3 := by rw [← hW3]; exact (hb2.trans (hb3.mono hb2.size)).alloc (Nat.le_trans hb2.size hb3.size) _
      rw [hW3]
      generalize w3.heap.size = N3 at *
      clear hW3 hb2 hb3
      go_upto_region 4 with (go_at_call 36; (with_reducible refine (HBp.out _).mono ?_); rintro e w4 ⟨rfl, hb4⟩)
      obtain ⟨W4, hW4⟩ : ∃ W4, w4.alloc (.cells #[.int .u64 (nb : Int), .bool ob] 61) = W4 := ⟨_, rfl⟩
      have hN4 : W4.heap[w4.heap.size]? = some (.cells #[.int .u64 (nb : Int), .bool ob] 61 (0, 0)) := by rw [← hW4]; exact World.alloc_heap_new w4 _
      have hb34 : Below W3.heap.size W3 W4 := by rw [← hW4]; exact hb4.alloc hb4.size _
      rw [hW4]
      generalize w4.heap.size = N4 at *
      clear hW4 hb4
      have hM4 := (hb34.block _ (lt_of_block hN3)).trans hN3
      have hb4' := hb3'.trans (hb34.mono hb3'.size)
      obtain ⟨p0, p1⟩ := cells2K hM4
      obtain ⟨q0, q1⟩ := cells2K hN4
      clear hM4 hb34 hN3 hN4 hb3'
      go_wp2
      go_ret
      exact ⟨rfl, hb4'⟩
    · go_enter Tryd.func20, Tryd.ntmps20
      go_upto_region 2 with (go_at_call 19; (with_reducible refine (HK.out _).mono ?_); rintro e w2 ⟨rfl, hb2⟩)
      go_upto_region 3 with (go_at_call 36; (with_reducible refine (HA.out _).mono ?_); rintro e w3 ⟨rfl, hb3⟩)
      obtain ⟨W3, hW3⟩ : ∃ W3, w3.alloc (.cells #[.int .u64 (na : Int), .bool false] 61) = W3 := ⟨_, rfl⟩
      have hN3 : W3.heap[w3.heap.size]? = some (.cells #[.int .u64 (na : Int), .bool false] 61 (0, 0)) := by rw [← hW3]; exact World.alloc_heap_new w3 _
      have hb3' : Below w.heap.size w W3 := by rw [← hW3]; exact (hb2.trans (hb3.mono hb2.size)).alloc (Nat.le_trans hb2.size hb3.size) _
      rw [hW3]
      generalize w3.heap.size = N3 at *
      clear hW3 hb2 hb3
      go_upto_region 4 with (go_at_call 36; (with_reducible refine (HBp.out _).mono ?_); rintro e w4 ⟨rfl, hb4⟩)
      obtain ⟨W4, hW4⟩ : ∃ W4, w4.alloc (.cells #[.int .u64 (nb : Int), .bool ob] 61) = W4 := ⟨_, rfl⟩
      have hN4 : W4.heap[w4.heap.size]? = some (.cells #[.int .u64 (nb : Int), .bool ob] 61 (0, 0)) := by rw [← hW4]; exact World.alloc_heap_new w4 _
      have hb34 : Below W3.heap.size W3 W4 := by rw [← hW4]; exact hb4.alloc hb4.size _
      rw [hW4]
      generalize w4.heap.size = N4 at *
      clear hW4 hb4
      have hM4 := (hb34.block _ (lt_of_block hN3)).trans hN3
      have hb4' := hb3'.trans (hb34.mono hb3'.size)
      obtain ⟨p0, p1⟩ := cells2K hM4
      obtain ⟨q0, q1⟩ := cells2K hN4
      clear hM4 hb34 hN3 hN4 hb3'
      go_wp2
      go_ret
      exact ⟨rfl, hb4'⟩
    · go_enter Tryd.func20, Tryd.ntmps20
      go_upto_region 2 with (go_at_call 19; (with_reducible refine (HK.out _).mono ?_); rintro e w2 ⟨rfl, hb2⟩)
      go_upto_region 3 with (go_at_call 36; (with_reducible refine (HA.out _).mono ?_); rintro e w3 ⟨rfl, hb3⟩)
      obtain ⟨W3, hW3⟩ : ∃ W3, w3.alloc (.cells #[.int .u64 (na : Int), .bool true] 61) = W3 := ⟨_, rfl⟩
      have hN3 : W3.heap[w3.heap.size]? = some (.cells #[.int .u64 (na : Int), .bool true] 61 (0, 0)) := by rw [← hW3]; exact World.alloc_heap_new w3 _
      have hb3' : Below w.heap.size w W3 := by rw [← hW3]; exact (hb2.trans (hb3.mono hb2.size)).alloc (Nat.le_trans hb2.size hb3.size) _
      rw [hW3]
      generalize w3.heap.size = N3 at *
      clear hW3 hb2 hb3
      go_upto_region 4 with (go_at_call 36; (with_reducible refine (HBp.out _).mono ?_); rintro e w4 ⟨rfl, hb4⟩)
      obtain ⟨W4, hW4⟩ : ∃ W4, w4.alloc (.cells #[.int .u64 (nb : Int), .bool false] 61) = W4 := ⟨_, rfl⟩
      have hN4 : W4.heap[w4.heap.size]? = some (.cells #[.int .u64 (nb : Int), .bool false] 61 (0, 0)) := by rw [← hW4]; exact World.alloc_heap_new w4 _
      have hb34 : Below W3.heap.size W3 W4 := by rw [← hW4]; exact hb4.alloc hb4.size _
      rw [hW4]
      generalize w4.heap.size = N4 at *
      clear hW4 hb4
      have hM4 := (hb34.block _ (lt_of_block hN3)).trans hN3
      have hb4' := hb3'.trans (hb34.mono hb3'.size)
      obtain ⟨p0, p1⟩ := cells2K hM4
      obtain ⟨q0, q1⟩ := cells2K hN4
      clear hM4 hb34 hN3 hN4 hb3'
      go_wp2
      go_ret
      exact ⟨rfl, hb4'⟩
  | true =>
    obtain rfl := hkr rfl
    have hcase : ¬ k < 1 ∧ ¬ 7 < k ∧ oa = true ∧ ob = true := by
      by_cases h1 : 1 ≤ k
      · by_cases h7 : k ≤ 7
        · rw [decide_eq_true h1, decide_eq_true h7] at hko
          cases oa <;> cases ob
          · exact absurd hko (by decide)
          · exact absurd hko (by decide)
          · exact absurd hko (by decide)
          · exact ⟨by omega, by omega, rfl, rfl⟩
        · rw [decide_eq_false h7, Bool.false_and, Bool.and_false] at hko; exact Bool.noConfusion hko
      · rw [decide_eq_false h1, Bool.false_and] at hko; exact Bool.noConfusion hko
    obtain ⟨h1, h7, rfl, rfl⟩ := hcase
    obtain ⟨c, hc⟩ : ∃ c, UInt8.ofNat k.toNat = c := ⟨_, rfl⟩
    have hkc : IntKind.u8.wrap k = (c.toNat : Int) := by
      rw [wraps_u8 _ (by omega) (by omega), ← hc, UInt8.toNat_ofNat']
      omega
    rw [hc] at HK hs1
    have hcv := fun (W w2 : World) => conv_oneK c W w2
    generalize ofL [c] = kc at *
    clear hko hkr hkw hc
    have h1' : 1 ≤ k := by omega
    have h7' : k ≤ 7 := by omega
    · go_enter Tryd.func20, Tryd.ntmps20
      go_upto_region 2 with (go_at_call 19; (with_reducible refine (HK.out _).mono ?_); rintro e w2 ⟨rfl, hb2⟩)
      go_upto_region 3 with (go_at_call 36; (with_reducible refine (HA.out _).mono ?_); rintro e w3 ⟨rfl, hb3⟩)
      obtain ⟨W3, hW3⟩ : ∃ W3, w3.alloc (.cells #[.int .u64 (na : Int), .bool true] 61) = W3 := ⟨_, rfl⟩
      have hN3 : W3.heap[w3.heap.size]? = some (.cells #[.int .u64 (na : Int), .bool true] 61 (0, 0)) := by rw [← hW3]; exact World.alloc_heap_new w3 _
      have hb3' : Below w.heap.size w W3 := by rw [← hW3]; exact (hb2.trans (hb3.mono hb2.size)).alloc (Nat.le_trans hb2.size hb3.size) _
      rw [hW3]
      generalize w3.heap.size = N3 at *
      clear hW3 hb2 hb3
      go_upto_region 4 with (go_at_call 36; (with_reducible refine (HBp.out _).mono ?_); rintro e w4 ⟨rfl, hb4⟩)
      obtain ⟨W4, hW4⟩ : ∃ W4, w4.alloc (.cells #[.int .u64 (nb : Int), .bool true] 61) = W4 := ⟨_, rfl⟩
      have hN4 : W4.heap[w4.heap.size]? = some (.cells #[.int .u64 (nb : Int), .bool true] 61 (0, 0)) := by rw [← hW4]; exact World.alloc_heap_new w4 _
      have hb34 : Below W3.heap.size W3 W4 := by rw [← hW4]; exact hb4.alloc hb4.size _
      rw [hW4]
      generalize w4.heap.size = N4 at *
      clear hW4 hb4
      have hM4 := (hb34.block _ (lt_of_block hN3)).trans hN3
      have hb4' := hb3'.trans (hb34.mono hb3'.size)
      obtain ⟨p0, p1⟩ := cells2K hM4
      obtain ⟨q0, q1⟩ := cells2K hN4
      go_upto_region 7 with fail
      have hn1 : ¬ 9223372036854775807 < kc.size + ka.size := by omega
      have hn2 : ¬ 9223372036854775807 < kc.size + ka.size + kb.size := by omega
      have HC := Lib.hid (fun w' (hb : Below W4.heap.size W4 w') => (show Below W4.heap.size W4 w' ∧ (w'.cell? ⟨N3, 0, none⟩ = some (.int .u64 (na : Int)) ∧ w'.cell? ⟨N4, 0, none⟩ = some (.int .u64 (nb : Int))) from ⟨hb, (hb.cell (p := ⟨N3, 0, none⟩) (lt_of_cellK p0)).trans p0, (hb.cell (p := ⟨N4, 0, none⟩) (lt_of_cellK q0)).trans q0⟩))
      have HB4 := Lib.hid (fun w' (hb : Below W4.heap.size W4 w') => hb4'.trans (hb.mono hb4'.size))
      clear h1 h7 h1' h7' HK HA HBp p0 p1 q0 q1 hb4' hM4 hb34 hN3 hN4 hb3' hs1 hs2 hs3
      refine wp_region_held_drew (S := fun w' => Below W4.heap.size W4 w' ∧ (w'.cell? ⟨N3, 0, none⟩ = some (.int .u64 (na : Int)) ∧ w'.cell? ⟨N4, 0, none⟩ = some (.int .u64 (nb : Int)))) (by kernel_rfl) (HC.out _ (Below.drew (Below.refl _ _))) (fun hHeld => ?_)
      apply held_shellU
      exact fun _ _ d _ _ h => by cases d <;> exact h
      rotate_left 1
      intro KK hKp hfin
      refine wpAnyH_take (i := 0) (v := .bool true) rfl (by kernel_rfl) (by kernel_rfl) (by kernel_rfl) (fun c a w h => hKp c a _ _ w h) (Or.inl ⟨by kernel_rfl, fun w hSw => by dsimp only at hSw; obtain ⟨-, c1, c2⟩ := hSw; go_simp⟩) (by assumption) ?_
      simp only [Act.put, List.getElem_toArray, List.getElem_cons_zero, List.setIfInBounds_toArray, List.set_cons_zero, List.set_cons_succ]
      refine wpAnyH_take (i := 1) (v := .bool true) rfl (by kernel_rfl) (by kernel_rfl) (by kernel_rfl) (fun c a w h => hKp c a _ _ w h) (Or.inl ⟨by kernel_rfl, fun w hSw => by dsimp only at hSw; obtain ⟨-, c1, c2⟩ := hSw; go_simp⟩) (by assumption) ?_
      simp only [Act.put, List.getElem_toArray, List.getElem_cons_zero, List.getElem_cons_succ, List.setIfInBounds_toArray, List.set_cons_zero, List.set_cons_succ]
      refine wpAnyH_take (i := 2) (v := .string (kc ++ ka ++ kb)) rfl (by kernel_rfl) (by kernel_rfl) (by kernel_rfl) (fun c a w h => hKp c a _ _ w h) (Or.inl ⟨by kernel_rfl, fun w hSw => by dsimp only at hSw; obtain ⟨-, c1, c2⟩ := hSw; go_simp⟩) (by assumption) ?_
      simp only [Act.put, List.getElem_toArray, List.getElem_cons_zero, List.getElem_cons_succ, List.setIfInBounds_toArray, List.set_cons_zero, List.set_cons_succ]
      refine wpAnyH_take (i := 3) (v := .int .i64 k) rfl (by kernel_rfl) (by kernel_rfl) (by kernel_rfl) (fun c a w h => hKp c a _ _ w h) (Or.inl ⟨by kernel_rfl, fun w hSw => by dsimp only at hSw; obtain ⟨-, c1, c2⟩ := hSw; go_simp⟩) (by assumption) ?_
      simp only [Act.put, List.getElem_toArray, List.getElem_cons_zero, List.getElem_cons_succ, List.setIfInBounds_toArray, List.set_cons_zero, List.set_cons_succ]
      refine wpAnyH_take (i := 4) (v := .int .u8 (c.toNat : Int)) rfl (by kernel_rfl) (by kernel_rfl) (by kernel_rfl) (fun c a w h => hKp c a _ _ w h) (Or.inl ⟨by kernel_rfl, fun w hSw => by dsimp only at hSw; obtain ⟨-, c1, c2⟩ := hSw; go_simp⟩) (by assumption) ?_
      simp only [Act.put, List.getElem_toArray, List.getElem_cons_zero, List.getElem_cons_succ, List.setIfInBounds_toArray, List.set_cons_zero, List.set_cons_succ]
      refine wpAnyH_take (i := 7) (v := .pointer (some ⟨N3, 0, none⟩)) rfl (by kernel_rfl) (by kernel_rfl) (by kernel_rfl) (fun c a w h => hKp c a _ _ w h) (Or.inl ⟨by kernel_rfl, fun w hSw => by dsimp only at hSw; obtain ⟨-, c1, c2⟩ := hSw; go_simp⟩) (by assumption) ?_
      simp only [Act.put, List.getElem_toArray, List.getElem_cons_zero, List.getElem_cons_succ, List.setIfInBounds_toArray, List.set_cons_zero, List.set_cons_succ]
      refine wpAnyH_take (i := 8) (v := .int .u64 (na : Int)) rfl (by kernel_rfl) (by kernel_rfl) (by kernel_rfl) (fun c a w h => hKp c a _ _ w h) (Or.inl ⟨by kernel_rfl, fun w hSw => by dsimp only at hSw; obtain ⟨-, c1, c2⟩ := hSw; go_simp⟩) (by assumption) ?_
      simp only [Act.put, List.getElem_toArray, List.getElem_cons_zero, List.getElem_cons_succ, List.setIfInBounds_toArray, List.set_cons_zero, List.set_cons_succ]
      refine wpAnyH_take (i := 11) (v := .pointer (some ⟨N4, 0, none⟩)) rfl (by kernel_rfl) (by kernel_rfl) (by kernel_rfl) (fun c a w h => hKp c a _ _ w h) (Or.inl ⟨by kernel_rfl, fun w hSw => by dsimp only at hSw; obtain ⟨-, c1, c2⟩ := hSw; go_simp⟩) (by assumption) ?_
      simp only [Act.put, List.getElem_toArray, List.getElem_cons_zero, List.getElem_cons_succ, List.setIfInBounds_toArray, List.set_cons_zero, List.set_cons_succ]
      refine wpAnyH_take (i := 12) (v := .int .u64 (nb : Int)) rfl (by kernel_rfl) (by kernel_rfl) (by kernel_rfl) (fun c a w h => hKp c a _ _ w h) (Or.inl ⟨by kernel_rfl, fun w hSw => by dsimp only at hSw; obtain ⟨-, c1, c2⟩ := hSw; go_simp⟩) (by assumption) ?_
      simp only [Act.put, List.getElem_toArray, List.getElem_cons_zero, List.getElem_cons_succ, List.setIfInBounds_toArray, List.set_cons_zero, List.set_cons_succ]
      refine wpAnyH_ready (rs := [5, 9]) (by kernel_rfl) (by simp) ?_
      refine AllReadyH.cons rfl (fun Kx hKx => ?_) (AllReadyH.cons rfl (fun Kx hKx => ?_) AllReadyH.nil)
      · rw [if_pos (by kernel_rfl)]
        go_simp
        refine hKx.out _ _ (HC.out _ (hHeld.1.alloc hHeld.1.size _)) (fun hHeld => ?_)
        clear hKx Kx
        try simp only [Act.put, List.getElem_toArray, List.getElem_cons_zero, List.getElem_cons_succ, List.setIfInBounds_toArray, List.set_cons_zero, List.set_cons_succ]
        refine wpAnyH_strong (S' := fun w' => (Below W4.heap.size W4 w' ∧ (w'.cell? ⟨N3, 0, none⟩ = some (.int .u64 (na : Int)) ∧ w'.cell? ⟨N4, 0, none⟩ = some (.int .u64 (nb : Int)))) ∧ w'.cell? ⟨W4.drew.heap.size, 0, none⟩ = some (.int .u8 (c.toNat : Int))) (fun _ h => h.1) _ _ _ _ ?_
        have hHeldB := And.intro hHeld (cell_newK W4.drew (.int .u8 (c.toNat : Int)) 5)
        refine wpAnyH_take (i := 6) (v := .string kc) rfl (by kernel_rfl) (by kernel_rfl) (by kernel_rfl) (fun c a w h => hKp c a _ _ w h) (Or.inl ⟨by kernel_rfl, fun w hSw => by dsimp only at hSw; obtain ⟨⟨-, c1, c2⟩, c3⟩ := hSw; have hcw := hcv W4 _ c3; go_simp⟩) (by assumption) ?_
        simp only [Act.put, List.getElem_toArray, List.getElem_cons_zero, List.getElem_cons_succ, List.setIfInBounds_toArray, List.set_cons_zero, List.set_cons_succ]
        refine wpAnyH_ready (rs := [9]) (by kernel_rfl) (by simp) ?_
        refine AllReadyH.cons rfl (fun Kx hKx => ?_) AllReadyH.nil
        rw [if_pos (by kernel_rfl)]
        go_simp
        (with_reducible refine (PA.out _).mono ?_)
        rintro e w5 ⟨rfl, hb⟩
        refine hKx.out _ _ (⟨HC.out _ (hHeldB.1.1.trans (hb.mono hHeldB.1.1.size)), (hb.cell (lt_of_cellK hHeldB.2)).trans hHeldB.2⟩) (fun hHeld => ?_)
        clear hKx Kx
        try simp only [Act.put, List.getElem_toArray, List.getElem_cons_zero, List.getElem_cons_succ, List.setIfInBounds_toArray, List.set_cons_zero, List.set_cons_succ]
        clear hHeldB
        have hHeldB := hHeld
        refine wpAnyH_take (i := 10) (v := .string (kc ++ ka)) rfl (by kernel_rfl) (by kernel_rfl) (by kernel_rfl) (fun c a w h => hKp c a _ _ w h) (Or.inl ⟨by kernel_rfl, fun w hSw => by dsimp only at hSw; obtain ⟨⟨-, c1, c2⟩, c3⟩ := hSw; go_simp⟩) (by assumption) ?_
        simp only [Act.put, List.getElem_toArray, List.getElem_cons_zero, List.getElem_cons_succ, List.setIfInBounds_toArray, List.set_cons_zero, List.set_cons_succ]
        refine wpAnyH_ready (rs := [13]) (by kernel_rfl) (by simp) ?_
        refine AllReadyH.cons rfl (fun Kx hKx => ?_) AllReadyH.nil
        rw [if_pos (by kernel_rfl)]
        go_simp
        (with_reducible refine (PB.out _).mono ?_)
        rintro e w6 ⟨rfl, hb⟩
        refine hKx.out _ _ (⟨HC.out _ (hHeldB.1.1.trans (hb.mono hHeldB.1.1.size)), (hb.cell (lt_of_cellK hHeldB.2)).trans hHeldB.2⟩) (fun hHeld => ?_)
        clear hKx Kx
        try simp only [Act.put, List.getElem_toArray, List.getElem_cons_zero, List.getElem_cons_succ, List.setIfInBounds_toArray, List.set_cons_zero, List.set_cons_succ]
        clear hHeldB
        have hHeldB := hHeld
        refine wpAnyH_take (i := 14) (v := .string (kc ++ ka ++ kb)) rfl (by kernel_rfl) (by kernel_rfl) (by kernel_rfl) (fun c a w h => hKp c a _ _ w h) (Or.inl ⟨by kernel_rfl, fun w hSw => by dsimp only at hSw; obtain ⟨⟨-, c1, c2⟩, c3⟩ := hSw; go_simp⟩) (by assumption) ?_
        simp only [Act.put, List.getElem_toArray, List.getElem_cons_zero, List.getElem_cons_succ, List.setIfInBounds_toArray, List.set_cons_zero, List.set_cons_succ]
        refine wpAnyH_take (i := 15) (v := .bool true) rfl (by kernel_rfl) (by kernel_rfl) (by kernel_rfl) (fun c a w h => hKp c a _ _ w h) (Or.inl ⟨by kernel_rfl, fun w hSw => by dsimp only at hSw; obtain ⟨⟨-, c1, c2⟩, c3⟩ := hSw; go_simp⟩) (by assumption) ?_
        simp only [Act.put, List.getElem_toArray, List.getElem_cons_zero, List.getElem_cons_succ, List.setIfInBounds_toArray, List.set_cons_zero, List.set_cons_succ]
        refine wpAnyH_take (i := 16) (v := .bool true) rfl (by kernel_rfl) (by kernel_rfl) (by kernel_rfl) (fun c a w h => hKp c a _ _ w h) (Or.inl ⟨by kernel_rfl, fun w hSw => by dsimp only at hSw; obtain ⟨⟨-, c1, c2⟩, c3⟩ := hSw; go_simp⟩) (by assumption) ?_
        simp only [Act.put, List.getElem_toArray, List.getElem_cons_zero, List.getElem_cons_succ, List.setIfInBounds_toArray, List.set_cons_zero, List.set_cons_succ]
        refine wpAnyH_take (i := 17) (v := .bool true) rfl (by kernel_rfl) (by kernel_rfl) (by kernel_rfl) (fun c a w h => hKp c a _ _ w h) (Or.inl ⟨by kernel_rfl, fun w hSw => by dsimp only at hSw; obtain ⟨⟨-, c1, c2⟩, c3⟩ := hSw; go_simp⟩) (by assumption) ?_
        simp only [Act.put, List.getElem_toArray, List.getElem_cons_zero, List.getElem_cons_succ, List.setIfInBounds_toArray, List.set_cons_zero, List.set_cons_succ]
        refine wpAnyH_done (by kernel_rfl) ?_ _
        generalize W4.heap.size = u0
        exact hfin u0 _ hHeldB.1
      · rw [if_pos (by kernel_rfl)]
        go_simp
        (with_reducible refine (PA.out _).mono ?_)
        rintro e w5 ⟨rfl, hb⟩
        refine hKx.out _ _ (HC.out _ (hHeld.1.trans (hb.mono hHeld.1.size))) (fun hHeld => ?_)
        clear hKx Kx
        try simp only [Act.put, List.getElem_toArray, List.getElem_cons_zero, List.getElem_cons_succ, List.setIfInBounds_toArray, List.set_cons_zero, List.set_cons_succ]
        refine wpAnyH_ready (rs := [5, 13]) (by kernel_rfl) (by simp) ?_
        refine AllReadyH.cons rfl (fun Kx hKx => ?_) (AllReadyH.cons rfl (fun Kx hKx => ?_) AllReadyH.nil)
        · rw [if_pos (by kernel_rfl)]
          go_simp
          refine hKx.out _ _ (HC.out _ (hHeld.1.alloc hHeld.1.size _)) (fun hHeld => ?_)
          clear hKx Kx
          try simp only [Act.put, List.getElem_toArray, List.getElem_cons_zero, List.getElem_cons_succ, List.setIfInBounds_toArray, List.set_cons_zero, List.set_cons_succ]
          refine wpAnyH_strong (S' := fun w' => (Below W4.heap.size W4 w' ∧ (w'.cell? ⟨N3, 0, none⟩ = some (.int .u64 (na : Int)) ∧ w'.cell? ⟨N4, 0, none⟩ = some (.int .u64 (nb : Int)))) ∧ w'.cell? ⟨w5.heap.size, 0, none⟩ = some (.int .u8 (c.toNat : Int))) (fun _ h => h.1) _ _ _ _ ?_
          have hHeldB := And.intro hHeld (cell_newK w5 (.int .u8 (c.toNat : Int)) 5)
          refine wpAnyH_take (i := 6) (v := .string kc) rfl (by kernel_rfl) (by kernel_rfl) (by kernel_rfl) (fun c a w h => hKp c a _ _ w h) (Or.inl ⟨by kernel_rfl, fun w hSw => by dsimp only at hSw; obtain ⟨⟨-, c1, c2⟩, c3⟩ := hSw; have hcw := hcv w5 _ c3; go_simp⟩) (by assumption) ?_
          simp only [Act.put, List.getElem_toArray, List.getElem_cons_zero, List.getElem_cons_succ, List.setIfInBounds_toArray, List.set_cons_zero, List.set_cons_succ]
          refine wpAnyH_take (i := 10) (v := .string (kc ++ ka)) rfl (by kernel_rfl) (by kernel_rfl) (by kernel_rfl) (fun c a w h => hKp c a _ _ w h) (Or.inl ⟨by kernel_rfl, fun w hSw => by dsimp only at hSw; obtain ⟨⟨-, c1, c2⟩, c3⟩ := hSw; go_simp⟩) (by assumption) ?_
          simp only [Act.put, List.getElem_toArray, List.getElem_cons_zero, List.getElem_cons_succ, List.setIfInBounds_toArray, List.set_cons_zero, List.set_cons_succ]
          refine wpAnyH_ready (rs := [13]) (by kernel_rfl) (by simp) ?_
          refine AllReadyH.cons rfl (fun Kx hKx => ?_) AllReadyH.nil
          rw [if_pos (by kernel_rfl)]
          go_simp
          (with_reducible refine (PB.out _).mono ?_)
          rintro e w6 ⟨rfl, hb⟩
          refine hKx.out _ _ (⟨HC.out _ (hHeldB.1.1.trans (hb.mono hHeldB.1.1.size)), (hb.cell (lt_of_cellK hHeldB.2)).trans hHeldB.2⟩) (fun hHeld => ?_)
          clear hKx Kx
          try simp only [Act.put, List.getElem_toArray, List.getElem_cons_zero, List.getElem_cons_succ, List.setIfInBounds_toArray, List.set_cons_zero, List.set_cons_succ]
          clear hHeldB
          have hHeldB := hHeld
          refine wpAnyH_take (i := 14) (v := .string (kc ++ ka ++ kb)) rfl (by kernel_rfl) (by kernel_rfl) (by kernel_rfl) (fun c a w h => hKp c a _ _ w h) (Or.inl ⟨by kernel_rfl, fun w hSw => by dsimp only at hSw; obtain ⟨⟨-, c1, c2⟩, c3⟩ := hSw; go_simp⟩) (by assumption) ?_
          simp only [Act.put, List.getElem_toArray, List.getElem_cons_zero, List.getElem_cons_succ, List.setIfInBounds_toArray, List.set_cons_zero, List.set_cons_succ]
          refine wpAnyH_take (i := 15) (v := .bool true) rfl (by kernel_rfl) (by kernel_rfl) (by kernel_rfl) (fun c a w h => hKp c a _ _ w h) (Or.inl ⟨by kernel_rfl, fun w hSw => by dsimp only at hSw; obtain ⟨⟨-, c1, c2⟩, c3⟩ := hSw; go_simp⟩) (by assumption) ?_
          simp only [Act.put, List.getElem_toArray, List.getElem_cons_zero, List.getElem_cons_succ, List.setIfInBounds_toArray, List.set_cons_zero, List.set_cons_succ]
          refine wpAnyH_take (i := 16) (v := .bool true) rfl (by kernel_rfl) (by kernel_rfl) (by kernel_rfl) (fun c a w h => hKp c a _ _ w h) (Or.inl ⟨by kernel_rfl, fun w hSw => by dsimp only at hSw; obtain ⟨⟨-, c1, c2⟩, c3⟩ := hSw; go_simp⟩) (by assumption) ?_
          simp only [Act.put, List.getElem_toArray, List.getElem_cons_zero, List.getElem_cons_succ, List.setIfInBounds_toArray, List.set_cons_zero, List.set_cons_succ]
          refine wpAnyH_take (i := 17) (v := .bool true) rfl (by kernel_rfl) (by kernel_rfl) (by kernel_rfl) (fun c a w h => hKp c a _ _ w h) (Or.inl ⟨by kernel_rfl, fun w hSw => by dsimp only at hSw; obtain ⟨⟨-, c1, c2⟩, c3⟩ := hSw; go_simp⟩) (by assumption) ?_
          simp only [Act.put, List.getElem_toArray, List.getElem_cons_zero, List.getElem_cons_succ, List.setIfInBounds_toArray, List.set_cons_zero, List.set_cons_succ]
          refine wpAnyH_done (by kernel_rfl) ?_ _
          generalize w5.heap.size = u0
          exact hfin u0 _ hHeldB.1
        · rw [if_pos (by kernel_rfl)]
          go_simp
          (with_reducible refine (PB.out _).mono ?_)
          rintro e w6 ⟨rfl, hb⟩
          refine hKx.out _ _ (HC.out _ (hHeld.1.trans (hb.mono hHeld.1.size))) (fun hHeld => ?_)
          clear hKx Kx
          try simp only [Act.put, List.getElem_toArray, List.getElem_cons_zero, List.getElem_cons_succ, List.setIfInBounds_toArray, List.set_cons_zero, List.set_cons_succ]
          refine wpAnyH_ready (rs := [5]) (by kernel_rfl) (by simp) ?_
          refine AllReadyH.cons rfl (fun Kx hKx => ?_) AllReadyH.nil
          rw [if_pos (by kernel_rfl)]
          go_simp
          refine hKx.out _ _ (HC.out _ (hHeld.1.alloc hHeld.1.size _)) (fun hHeld => ?_)
          clear hKx Kx
          try simp only [Act.put, List.getElem_toArray, List.getElem_cons_zero, List.getElem_cons_succ, List.setIfInBounds_toArray, List.set_cons_zero, List.set_cons_succ]
          refine wpAnyH_strong (S' := fun w' => (Below W4.heap.size W4 w' ∧ (w'.cell? ⟨N3, 0, none⟩ = some (.int .u64 (na : Int)) ∧ w'.cell? ⟨N4, 0, none⟩ = some (.int .u64 (nb : Int)))) ∧ w'.cell? ⟨w6.heap.size, 0, none⟩ = some (.int .u8 (c.toNat : Int))) (fun _ h => h.1) _ _ _ _ ?_
          have hHeldB := And.intro hHeld (cell_newK w6 (.int .u8 (c.toNat : Int)) 5)
          refine wpAnyH_take (i := 6) (v := .string kc) rfl (by kernel_rfl) (by kernel_rfl) (by kernel_rfl) (fun c a w h => hKp c a _ _ w h) (Or.inl ⟨by kernel_rfl, fun w hSw => by dsimp only at hSw; obtain ⟨⟨-, c1, c2⟩, c3⟩ := hSw; have hcw := hcv w6 _ c3; go_simp⟩) (by assumption) ?_
          simp only [Act.put, List.getElem_toArray, List.getElem_cons_zero, List.getElem_cons_succ, List.setIfInBounds_toArray, List.set_cons_zero, List.set_cons_succ]
          refine wpAnyH_take (i := 10) (v := .string (kc ++ ka)) rfl (by kernel_rfl) (by kernel_rfl) (by kernel_rfl) (fun c a w h => hKp c a _ _ w h) (Or.inl ⟨by kernel_rfl, fun w hSw => by dsimp only at hSw; obtain ⟨⟨-, c1, c2⟩, c3⟩ := hSw; go_simp⟩) (by assumption) ?_
          simp only [Act.put, List.getElem_toArray, List.getElem_cons_zero, List.getElem_cons_succ, List.setIfInBounds_toArray, List.set_cons_zero, List.set_cons_succ]
          refine wpAnyH_take (i := 14) (v := .string (kc ++ ka ++ kb)) rfl (by kernel_rfl) (by kernel_rfl) (by kernel_rfl) (fun c a w h => hKp c a _ _ w h) (Or.inl ⟨by kernel_rfl, fun w hSw => by dsimp only at hSw; obtain ⟨⟨-, c1, c2⟩, c3⟩ := hSw; go_simp⟩) (by assumption) ?_
          simp only [Act.put, List.getElem_toArray, List.getElem_cons_zero, List.getElem_cons_succ, List.setIfInBounds_toArray, List.set_cons_zero, List.set_cons_succ]
          refine wpAnyH_take (i := 15) (v := .bool true) rfl (by kernel_rfl) (by kernel_rfl) (by kernel_rfl) (fun c a w h => hKp c a _ _ w h) (Or.inl ⟨by kernel_rfl, fun w hSw => by dsimp only at hSw; obtain ⟨⟨-, c1, c2⟩, c3⟩ := hSw; go_simp⟩) (by assumption) ?_
          simp only [Act.put, List.getElem_toArray, List.getElem_cons_zero, List.getElem_cons_succ, List.setIfInBounds_toArray, List.set_cons_zero, List.set_cons_succ]
          refine wpAnyH_take (i := 16) (v := .bool true) rfl (by kernel_rfl) (by kernel_rfl) (by kernel_rfl) (fun c a w h => hKp c a _ _ w h) (Or.inl ⟨by kernel_rfl, fun w hSw => by dsimp only at hSw; obtain ⟨⟨-, c1, c2⟩, c3⟩ := hSw; go_simp⟩) (by assumption) ?_
          simp only [Act.put, List.getElem_toArray, List.getElem_cons_zero, List.getElem_cons_succ, List.setIfInBounds_toArray, List.set_cons_zero, List.set_cons_succ]
          refine wpAnyH_take (i := 17) (v := .bool true) rfl (by kernel_rfl) (by kernel_rfl) (by kernel_rfl) (fun c a w h => hKp c a _ _ w h) (Or.inl ⟨by kernel_rfl, fun w hSw => by dsimp only at hSw; obtain ⟨⟨-, c1, c2⟩, c3⟩ := hSw; go_simp⟩) (by assumption) ?_
          simp only [Act.put, List.getElem_toArray, List.getElem_cons_zero, List.getElem_cons_succ, List.setIfInBounds_toArray, List.set_cons_zero, List.set_cons_succ]
          refine wpAnyH_done (by kernel_rfl) ?_ _
          generalize w6.heap.size = u0
          exact hfin u0 _ hHeldB.1
      intro u w9 hS9
      rcases hS9 with ⟨hb9, -⟩
      go_wp2
      go_ret
      exact ⟨rfl, HB4.out _ hb9⟩
end Go.Proofs.YtmoblofkcfondaaDoor
