/-
  The document's rest and likely of layer 13: what they give, as far as memory and sizes go. (Printed by wip/gen_zseed.py.)
-/
import Derived.Test.YthjfcfhibdpbnaaZMk
import Derived.Deep.RegionHeld3
namespace Go.Proofs.Ythjfcfhibdpbnaa
open Go Go.RowKit

theorem rest_numZ (x : Int) (n : Nat) (hn : 1 ≤ n) (hn2 : n ≤ 1000) : (wrap64 (x.tmod n + n)).tmod n = (restV x n : Int) := by
  have h := Int.natAbs_tmod x n
  have hm := Nat.mod_lt x.natAbs (show 0 < n by omega)
  unfold restV
  rw [Int.natAbs_natCast] at h
  generalize x.tmod n = z at *
  have hz : z.natAbs < n := by omega
  have hw : wrap64 (z + n) = z + n := IntWalk.wrap64_in _ ⟨by omega, by omega⟩
  rw [hw, Int.tmod_eq_emod_of_nonneg (by omega)]
  have h2 := Int.emod_nonneg (z + n) (show (n : Int) ≠ 0 by omega)
  omega
set_option maxRecDepth 100000 in
theorem restD_any (x : Int) (n : Nat) (w : World) (hn : 1 ≤ n) (hn2 : n ≤ 1000) :
    Calls Try.prog 15 #[.int .i64 x, .int .i64 (n : Int)] w fun e w' => ∃ r : Nat, r < n ∧ e = .returned (.int .i64 (r : Int)) ∧ w = w' := by
  have HE := Lib.hid (rest_numZ x n hn hn2)
  have HLT := Lib.hid (restV_lt x n hn)
  have h0 : ((n : Int) == 0) = false := by rw [beq_eq_false_iff_ne]; omega
  have h1 : (n : Int) ≠ 0 := by omega
  clear hn hn2
  generalize hm : (n : Int) = m at *
  go_enter Try.func15, Try.ntmps15
  go_wp2
  go_ret
  exact ⟨_, HLT.out, ret_int HE.out, rfl⟩
theorem rowC_block {W : World} {g sz n : Nat} {t : TypeId} {L : List (List Value)} (h : W.heap[g]? = some (.cells (L.flatMap id).toArray t (0, 0))) (_hn : n = L.length) (hs : ∀ c ∈ L, c.length = sz) : RowC W (.slice (some ⟨g, 0, none⟩) L.length n) sz L :=
  ⟨_, _, rfl, fun i c hc => ⟨g, 0, rfl, fun k x hk => by rw [Nat.zero_add]; exact cellAtY h (i * sz + k) x (by rw [List.getElem?_toArray]; exact flat_getZ hs hc hk)⟩⟩
theorem held_shellR {P : Program} {md : Region.Mode} {ops : Array Oper} {S R : World → Prop} {Q : Exit → Act → World → Prop} {n : Nat} {l : Array Bool} {a : Act} {w : World} {aF : Act} (h1 : ∀ c (a : Act) d v w, Q (.panic c) (a.put d v) w → Q (.panic c) a w) (h2 : ∀ w, R w → Q .normal aF w)
    (h3 : ∀ K : Exit → Act → World → Prop, (∀ c (a : Act) d v w, K (.panic c) (a.put d v) w → K (.panic c) a w) → (∀ w, R w → K .normal aF w) → wpAnyH P md ops K S n l a w) : wpAnyH P md ops Q S n l a w := h3 Q h1 h2
theorem tblZ {W : World} {g : Nat} {t : TypeId} (l : List ByteArray) (k : Nat) (h : W.heap[g]? = some (.cells (l.map Value.string).toArray t (0, 0))) (hk : k < l.length) (hl : ∀ x ∈ l, x.size ≤ 1000) : ∃ s : ByteArray, s.size ≤ 1000 ∧ W.cell? ⟨g, k, none⟩ = some (.string s) :=
  ⟨l[k], hl _ (List.getElem_mem hk), cellAtY h k _ (by simp [hk])⟩
theorem tblP {W : World} {g : Nat} {t : TypeId} (l : List ByteArray) (k : Nat) (h : W.heap[g]? = some (.cells (l.map Value.string).toArray t (0, 0))) (hk : k < l.length) (hl : ∀ x ∈ l, x.size ≤ 1000) (hp : ∀ x ∈ l, 0 < x.size) : ∃ s : ByteArray, s.size ≤ 1000 ∧ 0 < s.size ∧ W.cell? ⟨g, k, none⟩ = some (.string s) :=
  ⟨l[k], hl _ (List.getElem_mem hk), hp _ (List.getElem_mem hk), cellAtY h k _ (by simp [hk])⟩
set_option maxRecDepth 1000000 in
set_option maxHeartbeats 16000000 in
theorem likely_any (n : Int) (w : World) :
    Calls Try.prog 18 #[.int .i64 n] w fun e w' => ∃ (l : List Lk) (g cap : Nat), e = .returned (.slice (some ⟨g, 0, none⟩) l.length cap) ∧ RowC w' (.slice (some ⟨g, 0, none⟩) l.length cap) 6 (l.map lkC) ∧ l.length ≤ 2 ∧ (∀ x ∈ l, LkS x) ∧ (∀ x ∈ l, 0 < x.l.size) ∧ w.heap.size ≤ g ∧ Below w.heap.size w w' := by
  have HR8 := Lib.hid (fun w' => show Calls Try.prog 15 #[.int .i64 n, .int .i64 8] w' fun e w'' => ∃ r : Nat, r < 8 ∧ e = .returned (.int .i64 (r : Int)) ∧ w' = w'' from restD_any n 8 w' (by decide) (by decide))
  have HR6 := Lib.hid (fun x w' => show Calls Try.prog 15 #[.int .i64 x, .int .i64 6] w' fun e w'' => ∃ r : Nat, r < 6 ∧ e = .returned (.int .i64 (r : Int)) ∧ w' = w'' from restD_any x 6 w' (by decide) (by decide))
  go_enter Try.func18, Try.ntmps18
  go_upto_region 2 with fail
  obtain ⟨W1, hW1⟩ : ∃ W1, w.alloc (.cells #[.string { data := #[101, 110] }, .string { data := #[122, 104] }, .string { data := #[115, 114] }, .string { data := #[104, 101] }, .string { data := #[100, 101] }, .string { data := #[114, 117] }, .string { data := #[102, 105, 108] }, .string { data := #[114, 111] }] 9) = W1 := ⟨_, rfl⟩
  have hA := World.alloc_heap_new w (.cells #[.string { data := #[101, 110] }, .string { data := #[122, 104] }, .string { data := #[115, 114] }, .string { data := #[104, 101] }, .string { data := #[100, 101] }, .string { data := #[114, 117] }, .string { data := #[102, 105, 108] }, .string { data := #[114, 111] }] 9)
  have hb1 : Below w.heap.size w W1 := by rw [← hW1]; exact (Below.refl _ w).alloc (Nat.le_refl _) _
  rw [hW1] at hA ⊢
  clear hW1
  go_upto_region 3 with (go_at_call 15; (with_reducible refine (HR8.out _).mono ?_); rintro e w2 ⟨k, hk, rfl, rfl⟩)
  have hk8 : (k : Int) < 8 := by omega
  have hk0 : (0 : Int) ≤ (k : Int) := by omega
  obtain ⟨L, zL, pzL, cL⟩ := tblP [({ data := #[101, 110] } : ByteArray), ({ data := #[122, 104] } : ByteArray), ({ data := #[115, 114] } : ByteArray), ({ data := #[104, 101] } : ByteArray), ({ data := #[100, 101] } : ByteArray), ({ data := #[114, 117] } : ByteArray), ({ data := #[102, 105, 108] } : ByteArray), ({ data := #[114, 111] } : ByteArray)] k hA hk (by decide) (by decide)
  have HPL := Lib.hid pzL
  clear pzL
  obtain ⟨S, zS, cS⟩ := tblZ (W := W1.alloc (.cells #[.string { data := #[108, 97, 116, 110] }, .string { data := #[104, 97, 110, 115] }, .string { data := #[99, 121, 114, 108] }, .string { data := #[104, 101, 98, 114] }, .string { data := #[108, 97, 116, 110] }, .string { data := #[99, 121, 114, 108] }, .string { data := #[108, 97, 116, 110] }, .string { data := #[108, 97, 116, 110] }] 9)) [({ data := #[108, 97, 116, 110] } : ByteArray), ({ data := #[104, 97, 110, 115] } : ByteArray), ({ data := #[99, 121, 114, 108] } : ByteArray), ({ data := #[104, 101, 98, 114] } : ByteArray), ({ data := #[108, 97, 116, 110] } : ByteArray), ({ data := #[99, 121, 114, 108] } : ByteArray), ({ data := #[108, 97, 116, 110] } : ByteArray), ({ data := #[108, 97, 116, 110] } : ByteArray)] k (World.alloc_heap_new _ _) hk (by decide)
  have hlt := lt_of_block hA
  go_upto_region 4 with fail
  obtain ⟨W2, hW2⟩ : ∃ W2, W1.alloc (.cells #[.string { data := #[108, 97, 116, 110] }, .string { data := #[104, 97, 110, 115] }, .string { data := #[99, 121, 114, 108] }, .string { data := #[104, 101, 98, 114] }, .string { data := #[108, 97, 116, 110] }, .string { data := #[99, 121, 114, 108] }, .string { data := #[108, 97, 116, 110] }, .string { data := #[108, 97, 116, 110] }] 9) = W2 := ⟨_, rfl⟩
  have hb2 : Below W1.heap.size W1 W2 := by rw [← hW2]; exact (Below.refl _ W1).alloc (Nat.le_refl _) _
  rw [hW2]
  clear hW2 cS
  obtain ⟨R, zR, cR⟩ := tblZ (W := W2.alloc (.cells #[.string { data := #[117, 115] }, .string { data := #[99, 110] }, .string { data := #[114, 115] }, .string { data := #[105, 108] }, .string { data := #[100, 101] }, .string { data := #[114, 117] }, .string { data := #[112, 104] }, .string { data := #[114, 111] }] 9)) [({ data := #[117, 115] } : ByteArray), ({ data := #[99, 110] } : ByteArray), ({ data := #[114, 115] } : ByteArray), ({ data := #[105, 108] } : ByteArray), ({ data := #[100, 101] } : ByteArray), ({ data := #[114, 117] } : ByteArray), ({ data := #[112, 104] } : ByteArray), ({ data := #[114, 111] } : ByteArray)] k (World.alloc_heap_new _ _) hk (by decide)
  go_upto_region 5 with fail
  obtain ⟨W3, hW3⟩ : ∃ W3, W2.alloc (.cells #[.string { data := #[117, 115] }, .string { data := #[99, 110] }, .string { data := #[114, 115] }, .string { data := #[105, 108] }, .string { data := #[100, 101] }, .string { data := #[114, 117] }, .string { data := #[112, 104] }, .string { data := #[114, 111] }] 9) = W3 := ⟨_, rfl⟩
  have hb3 : Below W2.heap.size W2 W3 := by rw [← hW3]; exact (Below.refl _ W2).alloc (Nat.le_refl _) _
  rw [hW3]
  clear hW3 cR
  have hb13 := hb2.trans (hb3.mono hb2.size)
  have HC3 := Lib.hid (fun w' (h : Below W3.heap.size W3 w') => (show Below W3.heap.size W3 w' ∧ w'.cell? ⟨w.heap.size, k, none⟩ = some (.string L) from ⟨h, ((hb13.trans (h.mono hb13.size)).cell (p := ⟨w.heap.size, k, none⟩) hlt).trans cL⟩))
  have HB3 := Lib.hid (hb1.trans (hb13.mono hb1.size))
  clear hb1 hb2 hb3 hb13 hA cL hlt
  refine wp_region_held_drew (S := fun w' => Below W3.heap.size W3 w' ∧ w'.cell? ⟨w.heap.size, k, none⟩ = some (.string L)) (by kernel_rfl) (HC3.out _ (Below.drew (Below.refl _ _))) (fun hHeld => ?_)
  apply held_shellR (R := fun w' => Below W3.heap.size W3 w' ∧ w'.heap[W3.heap.size]? = some (.cells #[.string L, .string ⟨#[]⟩, .string ⟨#[]⟩, .string L, .string S, .string R] 61 (0, 0)))
  exact fun _ _ d _ _ h => by cases d <;> exact h
  rotate_left 1
  intro KK hKp hfin
  refine wpAnyH_take (i := 0) (v := .slice (some ⟨w.heap.size, 0, none⟩) 8 8) rfl (by kernel_rfl) (by kernel_rfl) (by kernel_rfl) (fun c a w h => hKp c a _ _ w h) (Or.inl ⟨by kernel_rfl, fun w hSw => by dsimp only at hSw; obtain ⟨-, g0⟩ := hSw; go_simp⟩) (by assumption) ?_
  simp only [Act.put, List.getElem_toArray, List.getElem_cons_zero, List.setIfInBounds_toArray, List.set_cons_zero, List.set_cons_succ]
  refine wpAnyH_take (i := 1) (v := .int .i64 (k : Int)) rfl (by kernel_rfl) (by kernel_rfl) (by kernel_rfl) (fun c a w h => hKp c a _ _ w h) (Or.inl ⟨by kernel_rfl, fun w hSw => by dsimp only at hSw; obtain ⟨-, g0⟩ := hSw; go_simp⟩) (by assumption) ?_
  simp only [Act.put, List.getElem_toArray, List.getElem_cons_zero, List.getElem_cons_succ, List.setIfInBounds_toArray, List.set_cons_zero, List.set_cons_succ]
  refine wpAnyH_take (i := 2) (v := .pointer (some ⟨w.heap.size, k, none⟩)) rfl (by kernel_rfl) (by kernel_rfl) (by kernel_rfl) (fun c a w h => hKp c a _ _ w h) (Or.inl ⟨by kernel_rfl, fun w hSw => by dsimp only at hSw; obtain ⟨-, g0⟩ := hSw; go_simp⟩) (by assumption) ?_
  simp only [Act.put, List.getElem_toArray, List.getElem_cons_zero, List.getElem_cons_succ, List.setIfInBounds_toArray, List.set_cons_zero, List.set_cons_succ]
  refine wpAnyH_take (i := 3) (v := .string L) rfl (by kernel_rfl) (by kernel_rfl) (by kernel_rfl) (fun c a w h => hKp c a _ _ w h) (Or.inl ⟨by kernel_rfl, fun w hSw => by dsimp only at hSw; obtain ⟨-, g0⟩ := hSw; go_simp⟩) (by assumption) ?_
  simp only [Act.put, List.getElem_toArray, List.getElem_cons_zero, List.getElem_cons_succ, List.setIfInBounds_toArray, List.set_cons_zero, List.set_cons_succ]
  refine wpAnyH_take (i := 4) (v := .slice (some ⟨w.heap.size, 0, none⟩) 8 8) rfl (by kernel_rfl) (by kernel_rfl) (by kernel_rfl) (fun c a w h => hKp c a _ _ w h) (Or.inl ⟨by kernel_rfl, fun w hSw => by dsimp only at hSw; obtain ⟨-, g0⟩ := hSw; go_simp⟩) (by assumption) ?_
  simp only [Act.put, List.getElem_toArray, List.getElem_cons_zero, List.getElem_cons_succ, List.setIfInBounds_toArray, List.set_cons_zero, List.set_cons_succ]
  refine wpAnyH_take (i := 5) (v := .int .i64 (k : Int)) rfl (by kernel_rfl) (by kernel_rfl) (by kernel_rfl) (fun c a w h => hKp c a _ _ w h) (Or.inl ⟨by kernel_rfl, fun w hSw => by dsimp only at hSw; obtain ⟨-, g0⟩ := hSw; go_simp⟩) (by assumption) ?_
  simp only [Act.put, List.getElem_toArray, List.getElem_cons_zero, List.getElem_cons_succ, List.setIfInBounds_toArray, List.set_cons_zero, List.set_cons_succ]
  refine wpAnyH_take (i := 6) (v := .pointer (some ⟨w.heap.size, k, none⟩)) rfl (by kernel_rfl) (by kernel_rfl) (by kernel_rfl) (fun c a w h => hKp c a _ _ w h) (Or.inl ⟨by kernel_rfl, fun w hSw => by dsimp only at hSw; obtain ⟨-, g0⟩ := hSw; go_simp⟩) (by assumption) ?_
  simp only [Act.put, List.getElem_toArray, List.getElem_cons_zero, List.getElem_cons_succ, List.setIfInBounds_toArray, List.set_cons_zero, List.set_cons_succ]
  refine wpAnyH_take (i := 7) (v := .string L) rfl (by kernel_rfl) (by kernel_rfl) (by kernel_rfl) (fun c a w h => hKp c a _ _ w h) (Or.inl ⟨by kernel_rfl, fun w hSw => by dsimp only at hSw; obtain ⟨-, g0⟩ := hSw; go_simp⟩) (by assumption) ?_
  simp only [Act.put, List.getElem_toArray, List.getElem_cons_zero, List.getElem_cons_succ, List.setIfInBounds_toArray, List.set_cons_zero, List.set_cons_succ]
  refine wpAnyH_take (i := 8) (v := .string S) rfl (by kernel_rfl) (by kernel_rfl) (by kernel_rfl) (fun c a w h => hKp c a _ _ w h) (Or.inl ⟨by kernel_rfl, fun w hSw => by dsimp only at hSw; obtain ⟨-, g0⟩ := hSw; go_simp⟩) (by assumption) ?_
  simp only [Act.put, List.getElem_toArray, List.getElem_cons_zero, List.getElem_cons_succ, List.setIfInBounds_toArray, List.set_cons_zero, List.set_cons_succ]
  refine wpAnyH_take (i := 9) (v := .string R) rfl (by kernel_rfl) (by kernel_rfl) (by kernel_rfl) (fun c a w h => hKp c a _ _ w h) (Or.inl ⟨by kernel_rfl, fun w hSw => by dsimp only at hSw; obtain ⟨-, g0⟩ := hSw; go_simp⟩) (by assumption) ?_
  simp only [Act.put, List.getElem_toArray, List.getElem_cons_zero, List.getElem_cons_succ, List.setIfInBounds_toArray, List.set_cons_zero, List.set_cons_succ]
  refine wpAnyH_take (i := 10) (v := .agg #[.string L, .string ⟨#[]⟩, .string ⟨#[]⟩, .string L, .string S, .string R]) rfl (by kernel_rfl) (by kernel_rfl) (by kernel_rfl) (fun c a w h => hKp c a _ _ w h) (Or.inl ⟨by kernel_rfl, fun w hSw => by dsimp only at hSw; obtain ⟨-, g0⟩ := hSw; go_simp⟩) (by assumption) ?_
  simp only [Act.put, List.getElem_toArray, List.getElem_cons_zero, List.getElem_cons_succ, List.setIfInBounds_toArray, List.set_cons_zero, List.set_cons_succ]
  refine wpAnyH_ready (rs := [11]) (by kernel_rfl) (by simp) ?_
  refine AllReadyH.cons rfl (fun Kx hKx => ?_) AllReadyH.nil
  try rw [if_pos (by kernel_rfl)]
  go_simp
  refine hKx.out _ _ (HC3.out _ ((Below.drew (Below.refl _ _)).alloc (Nat.le_refl _) _)) (fun hHeld => ?_)
  clear hKx Kx
  try simp only [Act.put, List.getElem_toArray, List.getElem_cons_zero, List.getElem_cons_succ, List.setIfInBounds_toArray, List.set_cons_zero, List.set_cons_succ]
  refine wpAnyH_ready (rs := [12]) (by kernel_rfl) (by simp) ?_
  refine AllReadyH.cons rfl (fun Kx hKx => ?_) AllReadyH.nil
  try rw [if_pos (by kernel_rfl)]
  go_simp
  refine hKx.out _ _ (HC3.out _ ((Below.drew (Below.refl _ _)).alloc (Nat.le_refl _) _)) (fun hHeld => ?_)
  clear hKx Kx
  try simp only [Act.put, List.getElem_toArray, List.getElem_cons_zero, List.getElem_cons_succ, List.setIfInBounds_toArray, List.set_cons_zero, List.set_cons_succ]
  refine wpAnyH_done (by kernel_rfl) ?_ _
  exact hfin _ ⟨hHeld.1, World.alloc_heap_new _ _⟩
  rintro W4 ⟨hb34, hN4⟩
  have HC4 := Lib.hid (fun w' (h : Below W4.heap.size W4 w') => (show Below W4.heap.size W4 w' ∧ w'.cell? ⟨w.heap.size, k, none⟩ = some (.string L) ∧ _ from ⟨h, (HC3.out w' (hb34.trans (h.mono hb34.size))).2, cells6 ((h.block _ (lt_of_block hN4)).trans hN4)⟩))
  have hb4 : Below w.heap.size w W4 := HB3.out.trans (hb34.mono HB3.out.size)
  have HB := Lib.hid (fun w' (h : Below w.heap.size w w') => h)
  generalize W3.heap.size = N4 at *
  clear HC3 HB3 hb34
  go_upto_region 7 with (go_at_call 15; (with_reducible refine (HR6.out _ _).mono ?_); rintro e w9 ⟨r6, hr6, rfl, rfl⟩)
  have h6 : r6 = 0 ∨ r6 = 1 ∨ r6 = 2 ∨ r6 = 3 ∨ r6 = 4 ∨ r6 = 5 := by omega
  clear hr6
  rcases h6 with rfl | rfl | rfl | rfl | rfl | rfl
  · -- the case 0
    obtain ⟨g1, g2, g3, g4, g5, g6⟩ := cells6 hN4
    go_wp2
    go_ret
    exact ⟨[⟨L, ⟨#[]⟩, ⟨#[]⟩, L, S, R⟩], _, 1, rfl, rowC_block (L := [lkC ⟨L, ⟨#[]⟩, ⟨#[]⟩, L, S, R⟩]) (World.alloc_heap_new _ _) rfl (by intro c hc; simp only [List.mem_cons, List.not_mem_nil, or_false] at hc; subst hc; rfl), by simp, (by intro x hx; simp only [List.mem_cons, List.not_mem_nil, or_false] at hx; subst hx; intro t ht; simp only [lkT, List.mem_cons, List.not_mem_nil, or_false] at ht; rcases ht with rfl | rfl | rfl | rfl | rfl | rfl <;> first | assumption | decide), (by intro x hx; simp only [List.mem_cons, List.not_mem_nil, or_false] at hx; first | (subst hx; exact HPL.out) | (rcases hx with rfl | rfl <;> first | exact HPL.out | exact (show (0 : Nat) < 3 by decide))), hb4.size, HB.out _ (hb4.alloc hb4.size _)⟩
  · -- the case 1
    go_upto_region 8 with fail
    refine wp_region_held_drew (S := fun w' => Below W4.heap.size W4 w' ∧ w'.cell? ⟨w.heap.size, k, none⟩ = some (.string L) ∧ w'.cell? ⟨N4, 0, none⟩ = some (.string L) ∧ w'.cell? ⟨N4, 1, none⟩ = some (.string ⟨#[]⟩) ∧ w'.cell? ⟨N4, 2, none⟩ = some (.string ⟨#[]⟩) ∧ w'.cell? ⟨N4, 3, none⟩ = some (.string L) ∧ w'.cell? ⟨N4, 4, none⟩ = some (.string S) ∧ w'.cell? ⟨N4, 5, none⟩ = some (.string R)) (by kernel_rfl) (HC4.out _ (Below.drew (Below.refl _ _))) (fun hHeld => ?_)
    apply held_shellR (R := fun w' => Below W4.heap.size W4 w' ∧ w'.heap[W4.heap.size]? = some (.cells #[.string L, .string ⟨#[]⟩, .string ⟨#[]⟩, .string L, .string S, .string R, .string L, .string ⟨#[]⟩, .string { data := #[52, 49, 57] }, .string L, .string { data := #[108, 97, 116, 110] }, .string { data := #[52, 49, 57] }] 61 (0, 0)))
    exact fun _ _ d _ _ h => by cases d <;> exact h
    rotate_left 1
    intro KK hKp hfin
    refine wpAnyH_take (i := 0) (v := .agg #[.string L, .string ⟨#[]⟩, .string ⟨#[]⟩, .string L, .string S, .string R]) rfl (by kernel_rfl) (by kernel_rfl) (by kernel_rfl) (fun c a w h => hKp c a _ _ w h) (Or.inl ⟨by kernel_rfl, fun w hSw => by dsimp only at hSw; obtain ⟨-, g0, g1, g2, g3, g4, g5, g6⟩ := hSw; go_simp⟩) (by assumption) ?_
    simp only [Act.put, List.getElem_toArray, List.getElem_cons_zero, List.setIfInBounds_toArray, List.set_cons_zero, List.set_cons_succ]
    refine wpAnyH_take (i := 1) (v := .slice (some ⟨w.heap.size, 0, none⟩) 8 8) rfl (by kernel_rfl) (by kernel_rfl) (by kernel_rfl) (fun c a w h => hKp c a _ _ w h) (Or.inl ⟨by kernel_rfl, fun w hSw => by dsimp only at hSw; obtain ⟨-, g0, g1, g2, g3, g4, g5, g6⟩ := hSw; go_simp⟩) (by assumption) ?_
    simp only [Act.put, List.getElem_toArray, List.getElem_cons_zero, List.getElem_cons_succ, List.setIfInBounds_toArray, List.set_cons_zero, List.set_cons_succ]
    refine wpAnyH_take (i := 2) (v := .int .i64 (k : Int)) rfl (by kernel_rfl) (by kernel_rfl) (by kernel_rfl) (fun c a w h => hKp c a _ _ w h) (Or.inl ⟨by kernel_rfl, fun w hSw => by dsimp only at hSw; obtain ⟨-, g0, g1, g2, g3, g4, g5, g6⟩ := hSw; go_simp⟩) (by assumption) ?_
    simp only [Act.put, List.getElem_toArray, List.getElem_cons_zero, List.getElem_cons_succ, List.setIfInBounds_toArray, List.set_cons_zero, List.set_cons_succ]
    refine wpAnyH_take (i := 3) (v := .pointer (some ⟨w.heap.size, k, none⟩)) rfl (by kernel_rfl) (by kernel_rfl) (by kernel_rfl) (fun c a w h => hKp c a _ _ w h) (Or.inl ⟨by kernel_rfl, fun w hSw => by dsimp only at hSw; obtain ⟨-, g0, g1, g2, g3, g4, g5, g6⟩ := hSw; go_simp⟩) (by assumption) ?_
    simp only [Act.put, List.getElem_toArray, List.getElem_cons_zero, List.getElem_cons_succ, List.setIfInBounds_toArray, List.set_cons_zero, List.set_cons_succ]
    refine wpAnyH_take (i := 4) (v := .string L) rfl (by kernel_rfl) (by kernel_rfl) (by kernel_rfl) (fun c a w h => hKp c a _ _ w h) (Or.inl ⟨by kernel_rfl, fun w hSw => by dsimp only at hSw; obtain ⟨-, g0, g1, g2, g3, g4, g5, g6⟩ := hSw; go_simp⟩) (by assumption) ?_
    simp only [Act.put, List.getElem_toArray, List.getElem_cons_zero, List.getElem_cons_succ, List.setIfInBounds_toArray, List.set_cons_zero, List.set_cons_succ]
    refine wpAnyH_take (i := 5) (v := .slice (some ⟨w.heap.size, 0, none⟩) 8 8) rfl (by kernel_rfl) (by kernel_rfl) (by kernel_rfl) (fun c a w h => hKp c a _ _ w h) (Or.inl ⟨by kernel_rfl, fun w hSw => by dsimp only at hSw; obtain ⟨-, g0, g1, g2, g3, g4, g5, g6⟩ := hSw; go_simp⟩) (by assumption) ?_
    simp only [Act.put, List.getElem_toArray, List.getElem_cons_zero, List.getElem_cons_succ, List.setIfInBounds_toArray, List.set_cons_zero, List.set_cons_succ]
    refine wpAnyH_take (i := 6) (v := .int .i64 (k : Int)) rfl (by kernel_rfl) (by kernel_rfl) (by kernel_rfl) (fun c a w h => hKp c a _ _ w h) (Or.inl ⟨by kernel_rfl, fun w hSw => by dsimp only at hSw; obtain ⟨-, g0, g1, g2, g3, g4, g5, g6⟩ := hSw; go_simp⟩) (by assumption) ?_
    simp only [Act.put, List.getElem_toArray, List.getElem_cons_zero, List.getElem_cons_succ, List.setIfInBounds_toArray, List.set_cons_zero, List.set_cons_succ]
    refine wpAnyH_take (i := 7) (v := .pointer (some ⟨w.heap.size, k, none⟩)) rfl (by kernel_rfl) (by kernel_rfl) (by kernel_rfl) (fun c a w h => hKp c a _ _ w h) (Or.inl ⟨by kernel_rfl, fun w hSw => by dsimp only at hSw; obtain ⟨-, g0, g1, g2, g3, g4, g5, g6⟩ := hSw; go_simp⟩) (by assumption) ?_
    simp only [Act.put, List.getElem_toArray, List.getElem_cons_zero, List.getElem_cons_succ, List.setIfInBounds_toArray, List.set_cons_zero, List.set_cons_succ]
    refine wpAnyH_take (i := 8) (v := .string L) rfl (by kernel_rfl) (by kernel_rfl) (by kernel_rfl) (fun c a w h => hKp c a _ _ w h) (Or.inl ⟨by kernel_rfl, fun w hSw => by dsimp only at hSw; obtain ⟨-, g0, g1, g2, g3, g4, g5, g6⟩ := hSw; go_simp⟩) (by assumption) ?_
    simp only [Act.put, List.getElem_toArray, List.getElem_cons_zero, List.getElem_cons_succ, List.setIfInBounds_toArray, List.set_cons_zero, List.set_cons_succ]
    refine wpAnyH_take (i := 9) (v := .agg #[.string L, .string ⟨#[]⟩, .string { data := #[52, 49, 57] }, .string L, .string { data := #[108, 97, 116, 110] }, .string { data := #[52, 49, 57] }]) rfl (by kernel_rfl) (by kernel_rfl) (by kernel_rfl) (fun c a w h => hKp c a _ _ w h) (Or.inl ⟨by kernel_rfl, fun w hSw => by dsimp only at hSw; obtain ⟨-, g0, g1, g2, g3, g4, g5, g6⟩ := hSw; go_simp⟩) (by assumption) ?_
    simp only [Act.put, List.getElem_toArray, List.getElem_cons_zero, List.getElem_cons_succ, List.setIfInBounds_toArray, List.set_cons_zero, List.set_cons_succ]
    refine wpAnyH_ready (rs := [10]) (by kernel_rfl) (by simp) ?_
    refine AllReadyH.cons rfl (fun Kx hKx => ?_) AllReadyH.nil
    try rw [if_pos (by kernel_rfl)]
    go_simp
    refine hKx.out _ _ (HC4.out _ ((Below.drew (Below.refl _ _)).alloc (Nat.le_refl _) _)) (fun hHeld => ?_)
    clear hKx Kx
    try simp only [Act.put, List.getElem_toArray, List.getElem_cons_zero, List.getElem_cons_succ, List.setIfInBounds_toArray, List.set_cons_zero, List.set_cons_succ]
    refine wpAnyH_take (i := 11) (v := .slice (some ⟨W4.heap.size, 0, none⟩) 2 2) rfl (by kernel_rfl) (by kernel_rfl) (by kernel_rfl) (fun c a w h => hKp c a _ _ w h) (Or.inl ⟨by kernel_rfl, fun w hSw => by dsimp only at hSw; obtain ⟨-, g0, g1, g2, g3, g4, g5, g6⟩ := hSw; go_simp⟩) (by assumption) ?_
    simp only [Act.put, List.getElem_toArray, List.getElem_cons_zero, List.getElem_cons_succ, List.setIfInBounds_toArray, List.set_cons_zero, List.set_cons_succ]
    refine wpAnyH_done (by kernel_rfl) ?_ _
    exact hfin _ ⟨hHeld.1, World.alloc_heap_new _ _⟩
    rintro Z ⟨hbz, hz⟩
    go_wp2
    go_ret
    exact ⟨[⟨L, ⟨#[]⟩, ⟨#[]⟩, L, S, R⟩, ⟨L, ⟨#[]⟩, { data := #[52, 49, 57] }, L, { data := #[108, 97, 116, 110] }, { data := #[52, 49, 57] }⟩], _, 2, rfl, rowC_block (L := [lkC ⟨L, ⟨#[]⟩, ⟨#[]⟩, L, S, R⟩, lkC ⟨L, ⟨#[]⟩, { data := #[52, 49, 57] }, L, { data := #[108, 97, 116, 110] }, { data := #[52, 49, 57] }⟩]) hz rfl (by intro c hc; simp only [List.mem_cons, List.not_mem_nil, or_false] at hc; rcases hc with rfl | rfl <;> rfl), by simp, (by intro x hx; simp only [List.mem_cons, List.not_mem_nil, or_false] at hx; rcases hx with rfl | rfl <;> (intro t ht; simp only [lkT, List.mem_cons, List.not_mem_nil, or_false] at ht; rcases ht with rfl | rfl | rfl | rfl | rfl | rfl <;> first | assumption | decide)), (by intro x hx; simp only [List.mem_cons, List.not_mem_nil, or_false] at hx; first | (subst hx; exact HPL.out) | (rcases hx with rfl | rfl <;> first | exact HPL.out | exact (show (0 : Nat) < 3 by decide))), hb4.size, HB.out _ (hb4.trans (hbz.mono hb4.size))⟩
  · -- the case 2
    go_upto_region 10 with fail
    refine wp_region_held_drew (S := fun w' => Below W4.heap.size W4 w' ∧ w'.cell? ⟨w.heap.size, k, none⟩ = some (.string L) ∧ w'.cell? ⟨N4, 0, none⟩ = some (.string L) ∧ w'.cell? ⟨N4, 1, none⟩ = some (.string ⟨#[]⟩) ∧ w'.cell? ⟨N4, 2, none⟩ = some (.string ⟨#[]⟩) ∧ w'.cell? ⟨N4, 3, none⟩ = some (.string L) ∧ w'.cell? ⟨N4, 4, none⟩ = some (.string S) ∧ w'.cell? ⟨N4, 5, none⟩ = some (.string R)) (by kernel_rfl) (HC4.out _ (Below.drew (Below.refl _ _))) (fun hHeld => ?_)
    apply held_shellR (R := fun w' => Below W4.heap.size W4 w' ∧ w'.heap[W4.heap.size]? = some (.cells #[.string L, .string ⟨#[]⟩, .string ⟨#[]⟩, .string L, .string S, .string R, .string { data := #[117, 110, 100] }, .string S, .string ⟨#[]⟩, .string L, .string S, .string R] 61 (0, 0)))
    exact fun _ _ d _ _ h => by cases d <;> exact h
    rotate_left 1
    intro KK hKp hfin
    refine wpAnyH_take (i := 0) (v := .agg #[.string L, .string ⟨#[]⟩, .string ⟨#[]⟩, .string L, .string S, .string R]) rfl (by kernel_rfl) (by kernel_rfl) (by kernel_rfl) (fun c a w h => hKp c a _ _ w h) (Or.inl ⟨by kernel_rfl, fun w hSw => by dsimp only at hSw; obtain ⟨-, g0, g1, g2, g3, g4, g5, g6⟩ := hSw; go_simp⟩) (by assumption) ?_
    simp only [Act.put, List.getElem_toArray, List.getElem_cons_zero, List.setIfInBounds_toArray, List.set_cons_zero, List.set_cons_succ]
    refine wpAnyH_take (i := 1) (v := .string S) rfl (by kernel_rfl) (by kernel_rfl) (by kernel_rfl) (fun c a w h => hKp c a _ _ w h) (Or.inl ⟨by kernel_rfl, fun w hSw => by dsimp only at hSw; obtain ⟨-, g0, g1, g2, g3, g4, g5, g6⟩ := hSw; go_simp⟩) (by assumption) ?_
    simp only [Act.put, List.getElem_toArray, List.getElem_cons_zero, List.getElem_cons_succ, List.setIfInBounds_toArray, List.set_cons_zero, List.set_cons_succ]
    refine wpAnyH_take (i := 2) (v := .slice (some ⟨w.heap.size, 0, none⟩) 8 8) rfl (by kernel_rfl) (by kernel_rfl) (by kernel_rfl) (fun c a w h => hKp c a _ _ w h) (Or.inl ⟨by kernel_rfl, fun w hSw => by dsimp only at hSw; obtain ⟨-, g0, g1, g2, g3, g4, g5, g6⟩ := hSw; go_simp⟩) (by assumption) ?_
    simp only [Act.put, List.getElem_toArray, List.getElem_cons_zero, List.getElem_cons_succ, List.setIfInBounds_toArray, List.set_cons_zero, List.set_cons_succ]
    refine wpAnyH_take (i := 3) (v := .int .i64 (k : Int)) rfl (by kernel_rfl) (by kernel_rfl) (by kernel_rfl) (fun c a w h => hKp c a _ _ w h) (Or.inl ⟨by kernel_rfl, fun w hSw => by dsimp only at hSw; obtain ⟨-, g0, g1, g2, g3, g4, g5, g6⟩ := hSw; go_simp⟩) (by assumption) ?_
    simp only [Act.put, List.getElem_toArray, List.getElem_cons_zero, List.getElem_cons_succ, List.setIfInBounds_toArray, List.set_cons_zero, List.set_cons_succ]
    refine wpAnyH_take (i := 4) (v := .pointer (some ⟨w.heap.size, k, none⟩)) rfl (by kernel_rfl) (by kernel_rfl) (by kernel_rfl) (fun c a w h => hKp c a _ _ w h) (Or.inl ⟨by kernel_rfl, fun w hSw => by dsimp only at hSw; obtain ⟨-, g0, g1, g2, g3, g4, g5, g6⟩ := hSw; go_simp⟩) (by assumption) ?_
    simp only [Act.put, List.getElem_toArray, List.getElem_cons_zero, List.getElem_cons_succ, List.setIfInBounds_toArray, List.set_cons_zero, List.set_cons_succ]
    refine wpAnyH_take (i := 5) (v := .string L) rfl (by kernel_rfl) (by kernel_rfl) (by kernel_rfl) (fun c a w h => hKp c a _ _ w h) (Or.inl ⟨by kernel_rfl, fun w hSw => by dsimp only at hSw; obtain ⟨-, g0, g1, g2, g3, g4, g5, g6⟩ := hSw; go_simp⟩) (by assumption) ?_
    simp only [Act.put, List.getElem_toArray, List.getElem_cons_zero, List.getElem_cons_succ, List.setIfInBounds_toArray, List.set_cons_zero, List.set_cons_succ]
    refine wpAnyH_take (i := 6) (v := .string S) rfl (by kernel_rfl) (by kernel_rfl) (by kernel_rfl) (fun c a w h => hKp c a _ _ w h) (Or.inl ⟨by kernel_rfl, fun w hSw => by dsimp only at hSw; obtain ⟨-, g0, g1, g2, g3, g4, g5, g6⟩ := hSw; go_simp⟩) (by assumption) ?_
    simp only [Act.put, List.getElem_toArray, List.getElem_cons_zero, List.getElem_cons_succ, List.setIfInBounds_toArray, List.set_cons_zero, List.set_cons_succ]
    refine wpAnyH_take (i := 7) (v := .string R) rfl (by kernel_rfl) (by kernel_rfl) (by kernel_rfl) (fun c a w h => hKp c a _ _ w h) (Or.inl ⟨by kernel_rfl, fun w hSw => by dsimp only at hSw; obtain ⟨-, g0, g1, g2, g3, g4, g5, g6⟩ := hSw; go_simp⟩) (by assumption) ?_
    simp only [Act.put, List.getElem_toArray, List.getElem_cons_zero, List.getElem_cons_succ, List.setIfInBounds_toArray, List.set_cons_zero, List.set_cons_succ]
    refine wpAnyH_take (i := 8) (v := .agg #[.string { data := #[117, 110, 100] }, .string S, .string ⟨#[]⟩, .string L, .string S, .string R]) rfl (by kernel_rfl) (by kernel_rfl) (by kernel_rfl) (fun c a w h => hKp c a _ _ w h) (Or.inl ⟨by kernel_rfl, fun w hSw => by dsimp only at hSw; obtain ⟨-, g0, g1, g2, g3, g4, g5, g6⟩ := hSw; go_simp⟩) (by assumption) ?_
    simp only [Act.put, List.getElem_toArray, List.getElem_cons_zero, List.getElem_cons_succ, List.setIfInBounds_toArray, List.set_cons_zero, List.set_cons_succ]
    refine wpAnyH_ready (rs := [9]) (by kernel_rfl) (by simp) ?_
    refine AllReadyH.cons rfl (fun Kx hKx => ?_) AllReadyH.nil
    try rw [if_pos (by kernel_rfl)]
    go_simp
    refine hKx.out _ _ (HC4.out _ ((Below.drew (Below.refl _ _)).alloc (Nat.le_refl _) _)) (fun hHeld => ?_)
    clear hKx Kx
    try simp only [Act.put, List.getElem_toArray, List.getElem_cons_zero, List.getElem_cons_succ, List.setIfInBounds_toArray, List.set_cons_zero, List.set_cons_succ]
    refine wpAnyH_take (i := 10) (v := .slice (some ⟨W4.heap.size, 0, none⟩) 2 2) rfl (by kernel_rfl) (by kernel_rfl) (by kernel_rfl) (fun c a w h => hKp c a _ _ w h) (Or.inl ⟨by kernel_rfl, fun w hSw => by dsimp only at hSw; obtain ⟨-, g0, g1, g2, g3, g4, g5, g6⟩ := hSw; go_simp⟩) (by assumption) ?_
    simp only [Act.put, List.getElem_toArray, List.getElem_cons_zero, List.getElem_cons_succ, List.setIfInBounds_toArray, List.set_cons_zero, List.set_cons_succ]
    refine wpAnyH_done (by kernel_rfl) ?_ _
    exact hfin _ ⟨hHeld.1, World.alloc_heap_new _ _⟩
    rintro Z ⟨hbz, hz⟩
    go_wp2
    go_ret
    exact ⟨[⟨L, ⟨#[]⟩, ⟨#[]⟩, L, S, R⟩, ⟨{ data := #[117, 110, 100] }, S, ⟨#[]⟩, L, S, R⟩], _, 2, rfl, rowC_block (L := [lkC ⟨L, ⟨#[]⟩, ⟨#[]⟩, L, S, R⟩, lkC ⟨{ data := #[117, 110, 100] }, S, ⟨#[]⟩, L, S, R⟩]) hz rfl (by intro c hc; simp only [List.mem_cons, List.not_mem_nil, or_false] at hc; rcases hc with rfl | rfl <;> rfl), by simp, (by intro x hx; simp only [List.mem_cons, List.not_mem_nil, or_false] at hx; rcases hx with rfl | rfl <;> (intro t ht; simp only [lkT, List.mem_cons, List.not_mem_nil, or_false] at ht; rcases ht with rfl | rfl | rfl | rfl | rfl | rfl <;> first | assumption | decide)), (by intro x hx; simp only [List.mem_cons, List.not_mem_nil, or_false] at hx; first | (subst hx; exact HPL.out) | (rcases hx with rfl | rfl <;> first | exact HPL.out | exact (show (0 : Nat) < 3 by decide))), hb4.size, HB.out _ (hb4.trans (hbz.mono hb4.size))⟩
  · -- the case 3
    go_upto_region 12 with fail
    refine wp_region_held_drew (S := fun w' => Below W4.heap.size W4 w' ∧ w'.cell? ⟨w.heap.size, k, none⟩ = some (.string L) ∧ w'.cell? ⟨N4, 0, none⟩ = some (.string L) ∧ w'.cell? ⟨N4, 1, none⟩ = some (.string ⟨#[]⟩) ∧ w'.cell? ⟨N4, 2, none⟩ = some (.string ⟨#[]⟩) ∧ w'.cell? ⟨N4, 3, none⟩ = some (.string L) ∧ w'.cell? ⟨N4, 4, none⟩ = some (.string S) ∧ w'.cell? ⟨N4, 5, none⟩ = some (.string R)) (by kernel_rfl) (HC4.out _ (Below.drew (Below.refl _ _))) (fun hHeld => ?_)
    apply held_shellR (R := fun w' => Below W4.heap.size W4 w' ∧ w'.heap[W4.heap.size]? = some (.cells #[.string L, .string ⟨#[]⟩, .string ⟨#[]⟩, .string L, .string S, .string R, .string L, .string { data := #[104, 97, 110, 116] }, .string ⟨#[]⟩, .string L, .string { data := #[104, 97, 110, 116] }, .string { data := #[116, 119] }] 61 (0, 0)))
    exact fun _ _ d _ _ h => by cases d <;> exact h
    rotate_left 1
    intro KK hKp hfin
    refine wpAnyH_take (i := 0) (v := .agg #[.string L, .string ⟨#[]⟩, .string ⟨#[]⟩, .string L, .string S, .string R]) rfl (by kernel_rfl) (by kernel_rfl) (by kernel_rfl) (fun c a w h => hKp c a _ _ w h) (Or.inl ⟨by kernel_rfl, fun w hSw => by dsimp only at hSw; obtain ⟨-, g0, g1, g2, g3, g4, g5, g6⟩ := hSw; go_simp⟩) (by assumption) ?_
    simp only [Act.put, List.getElem_toArray, List.getElem_cons_zero, List.setIfInBounds_toArray, List.set_cons_zero, List.set_cons_succ]
    refine wpAnyH_take (i := 1) (v := .slice (some ⟨w.heap.size, 0, none⟩) 8 8) rfl (by kernel_rfl) (by kernel_rfl) (by kernel_rfl) (fun c a w h => hKp c a _ _ w h) (Or.inl ⟨by kernel_rfl, fun w hSw => by dsimp only at hSw; obtain ⟨-, g0, g1, g2, g3, g4, g5, g6⟩ := hSw; go_simp⟩) (by assumption) ?_
    simp only [Act.put, List.getElem_toArray, List.getElem_cons_zero, List.getElem_cons_succ, List.setIfInBounds_toArray, List.set_cons_zero, List.set_cons_succ]
    refine wpAnyH_take (i := 2) (v := .int .i64 (k : Int)) rfl (by kernel_rfl) (by kernel_rfl) (by kernel_rfl) (fun c a w h => hKp c a _ _ w h) (Or.inl ⟨by kernel_rfl, fun w hSw => by dsimp only at hSw; obtain ⟨-, g0, g1, g2, g3, g4, g5, g6⟩ := hSw; go_simp⟩) (by assumption) ?_
    simp only [Act.put, List.getElem_toArray, List.getElem_cons_zero, List.getElem_cons_succ, List.setIfInBounds_toArray, List.set_cons_zero, List.set_cons_succ]
    refine wpAnyH_take (i := 3) (v := .pointer (some ⟨w.heap.size, k, none⟩)) rfl (by kernel_rfl) (by kernel_rfl) (by kernel_rfl) (fun c a w h => hKp c a _ _ w h) (Or.inl ⟨by kernel_rfl, fun w hSw => by dsimp only at hSw; obtain ⟨-, g0, g1, g2, g3, g4, g5, g6⟩ := hSw; go_simp⟩) (by assumption) ?_
    simp only [Act.put, List.getElem_toArray, List.getElem_cons_zero, List.getElem_cons_succ, List.setIfInBounds_toArray, List.set_cons_zero, List.set_cons_succ]
    refine wpAnyH_take (i := 4) (v := .string L) rfl (by kernel_rfl) (by kernel_rfl) (by kernel_rfl) (fun c a w h => hKp c a _ _ w h) (Or.inl ⟨by kernel_rfl, fun w hSw => by dsimp only at hSw; obtain ⟨-, g0, g1, g2, g3, g4, g5, g6⟩ := hSw; go_simp⟩) (by assumption) ?_
    simp only [Act.put, List.getElem_toArray, List.getElem_cons_zero, List.getElem_cons_succ, List.setIfInBounds_toArray, List.set_cons_zero, List.set_cons_succ]
    refine wpAnyH_take (i := 5) (v := .slice (some ⟨w.heap.size, 0, none⟩) 8 8) rfl (by kernel_rfl) (by kernel_rfl) (by kernel_rfl) (fun c a w h => hKp c a _ _ w h) (Or.inl ⟨by kernel_rfl, fun w hSw => by dsimp only at hSw; obtain ⟨-, g0, g1, g2, g3, g4, g5, g6⟩ := hSw; go_simp⟩) (by assumption) ?_
    simp only [Act.put, List.getElem_toArray, List.getElem_cons_zero, List.getElem_cons_succ, List.setIfInBounds_toArray, List.set_cons_zero, List.set_cons_succ]
    refine wpAnyH_take (i := 6) (v := .int .i64 (k : Int)) rfl (by kernel_rfl) (by kernel_rfl) (by kernel_rfl) (fun c a w h => hKp c a _ _ w h) (Or.inl ⟨by kernel_rfl, fun w hSw => by dsimp only at hSw; obtain ⟨-, g0, g1, g2, g3, g4, g5, g6⟩ := hSw; go_simp⟩) (by assumption) ?_
    simp only [Act.put, List.getElem_toArray, List.getElem_cons_zero, List.getElem_cons_succ, List.setIfInBounds_toArray, List.set_cons_zero, List.set_cons_succ]
    refine wpAnyH_take (i := 7) (v := .pointer (some ⟨w.heap.size, k, none⟩)) rfl (by kernel_rfl) (by kernel_rfl) (by kernel_rfl) (fun c a w h => hKp c a _ _ w h) (Or.inl ⟨by kernel_rfl, fun w hSw => by dsimp only at hSw; obtain ⟨-, g0, g1, g2, g3, g4, g5, g6⟩ := hSw; go_simp⟩) (by assumption) ?_
    simp only [Act.put, List.getElem_toArray, List.getElem_cons_zero, List.getElem_cons_succ, List.setIfInBounds_toArray, List.set_cons_zero, List.set_cons_succ]
    refine wpAnyH_take (i := 8) (v := .string L) rfl (by kernel_rfl) (by kernel_rfl) (by kernel_rfl) (fun c a w h => hKp c a _ _ w h) (Or.inl ⟨by kernel_rfl, fun w hSw => by dsimp only at hSw; obtain ⟨-, g0, g1, g2, g3, g4, g5, g6⟩ := hSw; go_simp⟩) (by assumption) ?_
    simp only [Act.put, List.getElem_toArray, List.getElem_cons_zero, List.getElem_cons_succ, List.setIfInBounds_toArray, List.set_cons_zero, List.set_cons_succ]
    refine wpAnyH_take (i := 9) (v := .agg #[.string L, .string { data := #[104, 97, 110, 116] }, .string ⟨#[]⟩, .string L, .string { data := #[104, 97, 110, 116] }, .string { data := #[116, 119] }]) rfl (by kernel_rfl) (by kernel_rfl) (by kernel_rfl) (fun c a w h => hKp c a _ _ w h) (Or.inl ⟨by kernel_rfl, fun w hSw => by dsimp only at hSw; obtain ⟨-, g0, g1, g2, g3, g4, g5, g6⟩ := hSw; go_simp⟩) (by assumption) ?_
    simp only [Act.put, List.getElem_toArray, List.getElem_cons_zero, List.getElem_cons_succ, List.setIfInBounds_toArray, List.set_cons_zero, List.set_cons_succ]
    refine wpAnyH_ready (rs := [10]) (by kernel_rfl) (by simp) ?_
    refine AllReadyH.cons rfl (fun Kx hKx => ?_) AllReadyH.nil
    try rw [if_pos (by kernel_rfl)]
    go_simp
    refine hKx.out _ _ (HC4.out _ ((Below.drew (Below.refl _ _)).alloc (Nat.le_refl _) _)) (fun hHeld => ?_)
    clear hKx Kx
    try simp only [Act.put, List.getElem_toArray, List.getElem_cons_zero, List.getElem_cons_succ, List.setIfInBounds_toArray, List.set_cons_zero, List.set_cons_succ]
    refine wpAnyH_take (i := 11) (v := .slice (some ⟨W4.heap.size, 0, none⟩) 2 2) rfl (by kernel_rfl) (by kernel_rfl) (by kernel_rfl) (fun c a w h => hKp c a _ _ w h) (Or.inl ⟨by kernel_rfl, fun w hSw => by dsimp only at hSw; obtain ⟨-, g0, g1, g2, g3, g4, g5, g6⟩ := hSw; go_simp⟩) (by assumption) ?_
    simp only [Act.put, List.getElem_toArray, List.getElem_cons_zero, List.getElem_cons_succ, List.setIfInBounds_toArray, List.set_cons_zero, List.set_cons_succ]
    refine wpAnyH_done (by kernel_rfl) ?_ _
    exact hfin _ ⟨hHeld.1, World.alloc_heap_new _ _⟩
    rintro Z ⟨hbz, hz⟩
    go_wp2
    go_ret
    exact ⟨[⟨L, ⟨#[]⟩, ⟨#[]⟩, L, S, R⟩, ⟨L, { data := #[104, 97, 110, 116] }, ⟨#[]⟩, L, { data := #[104, 97, 110, 116] }, { data := #[116, 119] }⟩], _, 2, rfl, rowC_block (L := [lkC ⟨L, ⟨#[]⟩, ⟨#[]⟩, L, S, R⟩, lkC ⟨L, { data := #[104, 97, 110, 116] }, ⟨#[]⟩, L, { data := #[104, 97, 110, 116] }, { data := #[116, 119] }⟩]) hz rfl (by intro c hc; simp only [List.mem_cons, List.not_mem_nil, or_false] at hc; rcases hc with rfl | rfl <;> rfl), by simp, (by intro x hx; simp only [List.mem_cons, List.not_mem_nil, or_false] at hx; rcases hx with rfl | rfl <;> (intro t ht; simp only [lkT, List.mem_cons, List.not_mem_nil, or_false] at ht; rcases ht with rfl | rfl | rfl | rfl | rfl | rfl <;> first | assumption | decide)), (by intro x hx; simp only [List.mem_cons, List.not_mem_nil, or_false] at hx; first | (subst hx; exact HPL.out) | (rcases hx with rfl | rfl <;> first | exact HPL.out | exact (show (0 : Nat) < 3 by decide))), hb4.size, HB.out _ (hb4.trans (hbz.mono hb4.size))⟩
  · -- the case 4
    go_upto_region 14 with fail
    refine wp_region_held_drew (S := fun w' => Below W4.heap.size W4 w' ∧ w'.cell? ⟨w.heap.size, k, none⟩ = some (.string L) ∧ w'.cell? ⟨N4, 0, none⟩ = some (.string L) ∧ w'.cell? ⟨N4, 1, none⟩ = some (.string ⟨#[]⟩) ∧ w'.cell? ⟨N4, 2, none⟩ = some (.string ⟨#[]⟩) ∧ w'.cell? ⟨N4, 3, none⟩ = some (.string L) ∧ w'.cell? ⟨N4, 4, none⟩ = some (.string S) ∧ w'.cell? ⟨N4, 5, none⟩ = some (.string R)) (by kernel_rfl) (HC4.out _ (Below.drew (Below.refl _ _))) (fun hHeld => ?_)
    apply held_shellR (R := fun w' => Below W4.heap.size W4 w' ∧ w'.heap[W4.heap.size]? = some (.cells #[.string L, .string ⟨#[]⟩, .string ⟨#[]⟩, .string L, .string S, .string R, .string { data := #[117, 110, 100] }, .string ⟨#[]⟩, .string R, .string L, .string S, .string R] 61 (0, 0)))
    exact fun _ _ d _ _ h => by cases d <;> exact h
    rotate_left 1
    intro KK hKp hfin
    refine wpAnyH_take (i := 0) (v := .agg #[.string L, .string ⟨#[]⟩, .string ⟨#[]⟩, .string L, .string S, .string R]) rfl (by kernel_rfl) (by kernel_rfl) (by kernel_rfl) (fun c a w h => hKp c a _ _ w h) (Or.inl ⟨by kernel_rfl, fun w hSw => by dsimp only at hSw; obtain ⟨-, g0, g1, g2, g3, g4, g5, g6⟩ := hSw; go_simp⟩) (by assumption) ?_
    simp only [Act.put, List.getElem_toArray, List.getElem_cons_zero, List.setIfInBounds_toArray, List.set_cons_zero, List.set_cons_succ]
    refine wpAnyH_take (i := 1) (v := .string R) rfl (by kernel_rfl) (by kernel_rfl) (by kernel_rfl) (fun c a w h => hKp c a _ _ w h) (Or.inl ⟨by kernel_rfl, fun w hSw => by dsimp only at hSw; obtain ⟨-, g0, g1, g2, g3, g4, g5, g6⟩ := hSw; go_simp⟩) (by assumption) ?_
    simp only [Act.put, List.getElem_toArray, List.getElem_cons_zero, List.getElem_cons_succ, List.setIfInBounds_toArray, List.set_cons_zero, List.set_cons_succ]
    refine wpAnyH_take (i := 2) (v := .slice (some ⟨w.heap.size, 0, none⟩) 8 8) rfl (by kernel_rfl) (by kernel_rfl) (by kernel_rfl) (fun c a w h => hKp c a _ _ w h) (Or.inl ⟨by kernel_rfl, fun w hSw => by dsimp only at hSw; obtain ⟨-, g0, g1, g2, g3, g4, g5, g6⟩ := hSw; go_simp⟩) (by assumption) ?_
    simp only [Act.put, List.getElem_toArray, List.getElem_cons_zero, List.getElem_cons_succ, List.setIfInBounds_toArray, List.set_cons_zero, List.set_cons_succ]
    refine wpAnyH_take (i := 3) (v := .int .i64 (k : Int)) rfl (by kernel_rfl) (by kernel_rfl) (by kernel_rfl) (fun c a w h => hKp c a _ _ w h) (Or.inl ⟨by kernel_rfl, fun w hSw => by dsimp only at hSw; obtain ⟨-, g0, g1, g2, g3, g4, g5, g6⟩ := hSw; go_simp⟩) (by assumption) ?_
    simp only [Act.put, List.getElem_toArray, List.getElem_cons_zero, List.getElem_cons_succ, List.setIfInBounds_toArray, List.set_cons_zero, List.set_cons_succ]
    refine wpAnyH_take (i := 4) (v := .pointer (some ⟨w.heap.size, k, none⟩)) rfl (by kernel_rfl) (by kernel_rfl) (by kernel_rfl) (fun c a w h => hKp c a _ _ w h) (Or.inl ⟨by kernel_rfl, fun w hSw => by dsimp only at hSw; obtain ⟨-, g0, g1, g2, g3, g4, g5, g6⟩ := hSw; go_simp⟩) (by assumption) ?_
    simp only [Act.put, List.getElem_toArray, List.getElem_cons_zero, List.getElem_cons_succ, List.setIfInBounds_toArray, List.set_cons_zero, List.set_cons_succ]
    refine wpAnyH_take (i := 5) (v := .string L) rfl (by kernel_rfl) (by kernel_rfl) (by kernel_rfl) (fun c a w h => hKp c a _ _ w h) (Or.inl ⟨by kernel_rfl, fun w hSw => by dsimp only at hSw; obtain ⟨-, g0, g1, g2, g3, g4, g5, g6⟩ := hSw; go_simp⟩) (by assumption) ?_
    simp only [Act.put, List.getElem_toArray, List.getElem_cons_zero, List.getElem_cons_succ, List.setIfInBounds_toArray, List.set_cons_zero, List.set_cons_succ]
    refine wpAnyH_take (i := 6) (v := .string S) rfl (by kernel_rfl) (by kernel_rfl) (by kernel_rfl) (fun c a w h => hKp c a _ _ w h) (Or.inl ⟨by kernel_rfl, fun w hSw => by dsimp only at hSw; obtain ⟨-, g0, g1, g2, g3, g4, g5, g6⟩ := hSw; go_simp⟩) (by assumption) ?_
    simp only [Act.put, List.getElem_toArray, List.getElem_cons_zero, List.getElem_cons_succ, List.setIfInBounds_toArray, List.set_cons_zero, List.set_cons_succ]
    refine wpAnyH_take (i := 7) (v := .string R) rfl (by kernel_rfl) (by kernel_rfl) (by kernel_rfl) (fun c a w h => hKp c a _ _ w h) (Or.inl ⟨by kernel_rfl, fun w hSw => by dsimp only at hSw; obtain ⟨-, g0, g1, g2, g3, g4, g5, g6⟩ := hSw; go_simp⟩) (by assumption) ?_
    simp only [Act.put, List.getElem_toArray, List.getElem_cons_zero, List.getElem_cons_succ, List.setIfInBounds_toArray, List.set_cons_zero, List.set_cons_succ]
    refine wpAnyH_take (i := 8) (v := .agg #[.string { data := #[117, 110, 100] }, .string ⟨#[]⟩, .string R, .string L, .string S, .string R]) rfl (by kernel_rfl) (by kernel_rfl) (by kernel_rfl) (fun c a w h => hKp c a _ _ w h) (Or.inl ⟨by kernel_rfl, fun w hSw => by dsimp only at hSw; obtain ⟨-, g0, g1, g2, g3, g4, g5, g6⟩ := hSw; go_simp⟩) (by assumption) ?_
    simp only [Act.put, List.getElem_toArray, List.getElem_cons_zero, List.getElem_cons_succ, List.setIfInBounds_toArray, List.set_cons_zero, List.set_cons_succ]
    refine wpAnyH_ready (rs := [9]) (by kernel_rfl) (by simp) ?_
    refine AllReadyH.cons rfl (fun Kx hKx => ?_) AllReadyH.nil
    try rw [if_pos (by kernel_rfl)]
    go_simp
    refine hKx.out _ _ (HC4.out _ ((Below.drew (Below.refl _ _)).alloc (Nat.le_refl _) _)) (fun hHeld => ?_)
    clear hKx Kx
    try simp only [Act.put, List.getElem_toArray, List.getElem_cons_zero, List.getElem_cons_succ, List.setIfInBounds_toArray, List.set_cons_zero, List.set_cons_succ]
    refine wpAnyH_take (i := 10) (v := .slice (some ⟨W4.heap.size, 0, none⟩) 2 2) rfl (by kernel_rfl) (by kernel_rfl) (by kernel_rfl) (fun c a w h => hKp c a _ _ w h) (Or.inl ⟨by kernel_rfl, fun w hSw => by dsimp only at hSw; obtain ⟨-, g0, g1, g2, g3, g4, g5, g6⟩ := hSw; go_simp⟩) (by assumption) ?_
    simp only [Act.put, List.getElem_toArray, List.getElem_cons_zero, List.getElem_cons_succ, List.setIfInBounds_toArray, List.set_cons_zero, List.set_cons_succ]
    refine wpAnyH_done (by kernel_rfl) ?_ _
    exact hfin _ ⟨hHeld.1, World.alloc_heap_new _ _⟩
    rintro Z ⟨hbz, hz⟩
    go_wp2
    go_ret
    exact ⟨[⟨L, ⟨#[]⟩, ⟨#[]⟩, L, S, R⟩, ⟨{ data := #[117, 110, 100] }, ⟨#[]⟩, R, L, S, R⟩], _, 2, rfl, rowC_block (L := [lkC ⟨L, ⟨#[]⟩, ⟨#[]⟩, L, S, R⟩, lkC ⟨{ data := #[117, 110, 100] }, ⟨#[]⟩, R, L, S, R⟩]) hz rfl (by intro c hc; simp only [List.mem_cons, List.not_mem_nil, or_false] at hc; rcases hc with rfl | rfl <;> rfl), by simp, (by intro x hx; simp only [List.mem_cons, List.not_mem_nil, or_false] at hx; rcases hx with rfl | rfl <;> (intro t ht; simp only [lkT, List.mem_cons, List.not_mem_nil, or_false] at ht; rcases ht with rfl | rfl | rfl | rfl | rfl | rfl <;> first | assumption | decide)), (by intro x hx; simp only [List.mem_cons, List.not_mem_nil, or_false] at hx; first | (subst hx; exact HPL.out) | (rcases hx with rfl | rfl <;> first | exact HPL.out | exact (show (0 : Nat) < 3 by decide))), hb4.size, HB.out _ (hb4.trans (hbz.mono hb4.size))⟩
  · -- the case 5
    go_upto_region 16 with fail
    refine wp_region_held_drew (S := fun w' => Below W4.heap.size W4 w' ∧ w'.cell? ⟨w.heap.size, k, none⟩ = some (.string L) ∧ w'.cell? ⟨N4, 0, none⟩ = some (.string L) ∧ w'.cell? ⟨N4, 1, none⟩ = some (.string ⟨#[]⟩) ∧ w'.cell? ⟨N4, 2, none⟩ = some (.string ⟨#[]⟩) ∧ w'.cell? ⟨N4, 3, none⟩ = some (.string L) ∧ w'.cell? ⟨N4, 4, none⟩ = some (.string S) ∧ w'.cell? ⟨N4, 5, none⟩ = some (.string R)) (by kernel_rfl) (HC4.out _ (Below.drew (Below.refl _ _))) (fun hHeld => ?_)
    apply held_shellR (R := fun w' => Below W4.heap.size W4 w' ∧ w'.heap[W4.heap.size]? = some (.cells #[.string L, .string ⟨#[]⟩, .string ⟨#[]⟩, .string L, .string S, .string R, .string L, .string { data := #[108, 97, 116, 110] }, .string { data := #[103, 98] }, .string L, .string { data := #[108, 97, 116, 110] }, .string { data := #[103, 98] }] 61 (0, 0)))
    exact fun _ _ d _ _ h => by cases d <;> exact h
    rotate_left 1
    intro KK hKp hfin
    refine wpAnyH_take (i := 0) (v := .agg #[.string L, .string ⟨#[]⟩, .string ⟨#[]⟩, .string L, .string S, .string R]) rfl (by kernel_rfl) (by kernel_rfl) (by kernel_rfl) (fun c a w h => hKp c a _ _ w h) (Or.inl ⟨by kernel_rfl, fun w hSw => by dsimp only at hSw; obtain ⟨-, g0, g1, g2, g3, g4, g5, g6⟩ := hSw; go_simp⟩) (by assumption) ?_
    simp only [Act.put, List.getElem_toArray, List.getElem_cons_zero, List.setIfInBounds_toArray, List.set_cons_zero, List.set_cons_succ]
    refine wpAnyH_take (i := 1) (v := .slice (some ⟨w.heap.size, 0, none⟩) 8 8) rfl (by kernel_rfl) (by kernel_rfl) (by kernel_rfl) (fun c a w h => hKp c a _ _ w h) (Or.inl ⟨by kernel_rfl, fun w hSw => by dsimp only at hSw; obtain ⟨-, g0, g1, g2, g3, g4, g5, g6⟩ := hSw; go_simp⟩) (by assumption) ?_
    simp only [Act.put, List.getElem_toArray, List.getElem_cons_zero, List.getElem_cons_succ, List.setIfInBounds_toArray, List.set_cons_zero, List.set_cons_succ]
    refine wpAnyH_take (i := 2) (v := .int .i64 (k : Int)) rfl (by kernel_rfl) (by kernel_rfl) (by kernel_rfl) (fun c a w h => hKp c a _ _ w h) (Or.inl ⟨by kernel_rfl, fun w hSw => by dsimp only at hSw; obtain ⟨-, g0, g1, g2, g3, g4, g5, g6⟩ := hSw; go_simp⟩) (by assumption) ?_
    simp only [Act.put, List.getElem_toArray, List.getElem_cons_zero, List.getElem_cons_succ, List.setIfInBounds_toArray, List.set_cons_zero, List.set_cons_succ]
    refine wpAnyH_take (i := 3) (v := .pointer (some ⟨w.heap.size, k, none⟩)) rfl (by kernel_rfl) (by kernel_rfl) (by kernel_rfl) (fun c a w h => hKp c a _ _ w h) (Or.inl ⟨by kernel_rfl, fun w hSw => by dsimp only at hSw; obtain ⟨-, g0, g1, g2, g3, g4, g5, g6⟩ := hSw; go_simp⟩) (by assumption) ?_
    simp only [Act.put, List.getElem_toArray, List.getElem_cons_zero, List.getElem_cons_succ, List.setIfInBounds_toArray, List.set_cons_zero, List.set_cons_succ]
    refine wpAnyH_take (i := 4) (v := .string L) rfl (by kernel_rfl) (by kernel_rfl) (by kernel_rfl) (fun c a w h => hKp c a _ _ w h) (Or.inl ⟨by kernel_rfl, fun w hSw => by dsimp only at hSw; obtain ⟨-, g0, g1, g2, g3, g4, g5, g6⟩ := hSw; go_simp⟩) (by assumption) ?_
    simp only [Act.put, List.getElem_toArray, List.getElem_cons_zero, List.getElem_cons_succ, List.setIfInBounds_toArray, List.set_cons_zero, List.set_cons_succ]
    refine wpAnyH_take (i := 5) (v := .slice (some ⟨w.heap.size, 0, none⟩) 8 8) rfl (by kernel_rfl) (by kernel_rfl) (by kernel_rfl) (fun c a w h => hKp c a _ _ w h) (Or.inl ⟨by kernel_rfl, fun w hSw => by dsimp only at hSw; obtain ⟨-, g0, g1, g2, g3, g4, g5, g6⟩ := hSw; go_simp⟩) (by assumption) ?_
    simp only [Act.put, List.getElem_toArray, List.getElem_cons_zero, List.getElem_cons_succ, List.setIfInBounds_toArray, List.set_cons_zero, List.set_cons_succ]
    refine wpAnyH_take (i := 6) (v := .int .i64 (k : Int)) rfl (by kernel_rfl) (by kernel_rfl) (by kernel_rfl) (fun c a w h => hKp c a _ _ w h) (Or.inl ⟨by kernel_rfl, fun w hSw => by dsimp only at hSw; obtain ⟨-, g0, g1, g2, g3, g4, g5, g6⟩ := hSw; go_simp⟩) (by assumption) ?_
    simp only [Act.put, List.getElem_toArray, List.getElem_cons_zero, List.getElem_cons_succ, List.setIfInBounds_toArray, List.set_cons_zero, List.set_cons_succ]
    refine wpAnyH_take (i := 7) (v := .pointer (some ⟨w.heap.size, k, none⟩)) rfl (by kernel_rfl) (by kernel_rfl) (by kernel_rfl) (fun c a w h => hKp c a _ _ w h) (Or.inl ⟨by kernel_rfl, fun w hSw => by dsimp only at hSw; obtain ⟨-, g0, g1, g2, g3, g4, g5, g6⟩ := hSw; go_simp⟩) (by assumption) ?_
    simp only [Act.put, List.getElem_toArray, List.getElem_cons_zero, List.getElem_cons_succ, List.setIfInBounds_toArray, List.set_cons_zero, List.set_cons_succ]
    refine wpAnyH_take (i := 8) (v := .string L) rfl (by kernel_rfl) (by kernel_rfl) (by kernel_rfl) (fun c a w h => hKp c a _ _ w h) (Or.inl ⟨by kernel_rfl, fun w hSw => by dsimp only at hSw; obtain ⟨-, g0, g1, g2, g3, g4, g5, g6⟩ := hSw; go_simp⟩) (by assumption) ?_
    simp only [Act.put, List.getElem_toArray, List.getElem_cons_zero, List.getElem_cons_succ, List.setIfInBounds_toArray, List.set_cons_zero, List.set_cons_succ]
    refine wpAnyH_take (i := 9) (v := .agg #[.string L, .string { data := #[108, 97, 116, 110] }, .string { data := #[103, 98] }, .string L, .string { data := #[108, 97, 116, 110] }, .string { data := #[103, 98] }]) rfl (by kernel_rfl) (by kernel_rfl) (by kernel_rfl) (fun c a w h => hKp c a _ _ w h) (Or.inl ⟨by kernel_rfl, fun w hSw => by dsimp only at hSw; obtain ⟨-, g0, g1, g2, g3, g4, g5, g6⟩ := hSw; go_simp⟩) (by assumption) ?_
    simp only [Act.put, List.getElem_toArray, List.getElem_cons_zero, List.getElem_cons_succ, List.setIfInBounds_toArray, List.set_cons_zero, List.set_cons_succ]
    refine wpAnyH_ready (rs := [10]) (by kernel_rfl) (by simp) ?_
    refine AllReadyH.cons rfl (fun Kx hKx => ?_) AllReadyH.nil
    try rw [if_pos (by kernel_rfl)]
    go_simp
    refine hKx.out _ _ (HC4.out _ ((Below.drew (Below.refl _ _)).alloc (Nat.le_refl _) _)) (fun hHeld => ?_)
    clear hKx Kx
    try simp only [Act.put, List.getElem_toArray, List.getElem_cons_zero, List.getElem_cons_succ, List.setIfInBounds_toArray, List.set_cons_zero, List.set_cons_succ]
    refine wpAnyH_take (i := 11) (v := .slice (some ⟨W4.heap.size, 0, none⟩) 2 2) rfl (by kernel_rfl) (by kernel_rfl) (by kernel_rfl) (fun c a w h => hKp c a _ _ w h) (Or.inl ⟨by kernel_rfl, fun w hSw => by dsimp only at hSw; obtain ⟨-, g0, g1, g2, g3, g4, g5, g6⟩ := hSw; go_simp⟩) (by assumption) ?_
    simp only [Act.put, List.getElem_toArray, List.getElem_cons_zero, List.getElem_cons_succ, List.setIfInBounds_toArray, List.set_cons_zero, List.set_cons_succ]
    refine wpAnyH_done (by kernel_rfl) ?_ _
    exact hfin _ ⟨hHeld.1, World.alloc_heap_new _ _⟩
    rintro Z ⟨hbz, hz⟩
    go_wp2
    go_ret
    exact ⟨[⟨L, ⟨#[]⟩, ⟨#[]⟩, L, S, R⟩, ⟨L, { data := #[108, 97, 116, 110] }, { data := #[103, 98] }, L, { data := #[108, 97, 116, 110] }, { data := #[103, 98] }⟩], _, 2, rfl, rowC_block (L := [lkC ⟨L, ⟨#[]⟩, ⟨#[]⟩, L, S, R⟩, lkC ⟨L, { data := #[108, 97, 116, 110] }, { data := #[103, 98] }, L, { data := #[108, 97, 116, 110] }, { data := #[103, 98] }⟩]) hz rfl (by intro c hc; simp only [List.mem_cons, List.not_mem_nil, or_false] at hc; rcases hc with rfl | rfl <;> rfl), by simp, (by intro x hx; simp only [List.mem_cons, List.not_mem_nil, or_false] at hx; rcases hx with rfl | rfl <;> (intro t ht; simp only [lkT, List.mem_cons, List.not_mem_nil, or_false] at ht; rcases ht with rfl | rfl | rfl | rfl | rfl | rfl <;> first | assumption | decide)), (by intro x hx; simp only [List.mem_cons, List.not_mem_nil, or_false] at hx; first | (subst hx; exact HPL.out) | (rcases hx with rfl | rfl <;> first | exact HPL.out | exact (show (0 : Nat) < 3 by decide))), hb4.size, HB.out _ (hb4.trans (hbz.mono hb4.size))⟩
end Go.Proofs.Ythjfcfhibdpbnaa
