/-
  Package image: what may be: texts in small letters, names of sets, places, sides of rules, rules, members. (Printed by wip/gen_zright.py.)
-/
import Derived.Test.YtlpjdknmnomdlaaGreatDoorZMath
import Derived.Test.YtlpjdknmnomdlaaGreatDoorYRight
namespace Go.Proofs.YtlpjdknmnomdlaaGreatDoor
open Go Go.RowKit

theorem inSmall_any (s : ByteArray) (w : World) (hs : s.size ≤ 1048576) :
    Calls Tryz.prog 28 #[.string s] w fun e w' => e = .returned (.bool (smallS s)) ∧ Below w.heap.size w w' := by
  have HL := Lib.hid (fun w5 => lower_text s w5 (by omega))
  have HE := Lib.hid (same_bool s (lowS s))
  go_enter Tryz.func28, Tryz.ntmps28
  go_wp2_with (go_at_call 66; (with_reducible refine (HL.out _).mono ?_); rintro e w5 ⟨rfl, hb5⟩)
  go_ret
  exact ⟨ret_bool HE.out, by assumption⟩

set_option maxRecDepth 100000 in
theorem setName_any (s : ByteArray) (w : World) (hs : s.size ≤ 1048576) :
    Calls Tryz.prog 37 #[.string s] w fun e w' => e = .returned (.bool (nameS s)) ∧ Below w.heap.size w w' := by
  have hB0 : Below w.heap.size w w := Below.refl _ _
  have HA := onward w (fun w5 => alnum_any s w5 (by unfold maxLen; omega))
  have HS := onward w (fun w5 => inSmall_any s w5 hs)
  have HM := Lib.hid (show nameS s = (decide (s.size ≤ 7) && (alnumS s && smallS s)) from rfl)
  generalize alnumS s = q at *
  generalize smallS s = r at *
  by_cases h1 : s.size ≤ 7
  · have h1' : (s.size : Int) ≤ 7 := by omega
    rw [decide_eq_true h1] at HM
    clear h1 hs
    cases q <;>
    · go_enter Tryz.func37, Tryz.ntmps37
      go_wp2_with (first | (go_at_call 75; (with_reducible refine (HA.out _ (by assumption)).mono ?_); rintro e w5 ⟨rfl, hb5⟩) | (go_at_call 28; (with_reducible refine (HS.out _ (by assumption)).mono ?_); rintro e w6 ⟨rfl, hb6⟩))
      go_ret
      exact ⟨ret_bool HM.out.symm, by assumption⟩
  · have h1' : ¬ (s.size : Int) ≤ 7 := by omega
    rw [decide_eq_false h1] at HM
    clear h1 hs
    go_enter Tryz.func37, Tryz.ntmps37
    go_wp2
    go_ret
    exact ⟨ret_bool HM.out.symm, hB0⟩

theorem markS_pos {s : ByteArray} (h : 0 < s.size) : markS s = (decide (s[0].toNat = 36) || decide (s[0].toNat = 33)) := by unfold markS; rw [dif_pos h]
set_option maxRecDepth 100000 in
theorem place_any (s : ByteArray) (w : World) (hs : s.size ≤ 1048576) :
    Calls Tryz.prog 74 #[.string s] w fun e w' => e = .returned (.bool (placeS s)) ∧ Below w.heap.size w w' := by
  have hB0 : Below w.heap.size w w := Below.refl _ _
  have HR := onward w (fun w5 => region_own s w5 (by unfold maxLen; omega))
  have HN := onward w (fun w5 => setName_any (s.extract 1 s.size) w5 (by rw [ByteArray.size_extract]; omega))
  have HM := Lib.hid (show placeS s = if markS s then nameS (s.extract 1 s.size) else regionS s from rfl)
  by_cases h0 : s.size = 0
  · have he := empty_true h0
    have hk : markS s = false := by unfold markS; rw [dif_neg (by omega)]
    rw [hk] at HM
    clear h0 hs hk
    go_enter Tryz.func74, Tryz.ntmps74
    go_wp2_with (go_at_call 31; (with_reducible refine (HR.out _ (by assumption)).mono ?_); rintro e w5 ⟨rfl, hb5⟩)
    go_ret
    exact ⟨ret_bool HM.out.symm, by assumption⟩
  · have h0' : 0 < s.size := by omega
    have he := empty_false h0'
    have h1 : (1 : Int) ≤ (s.size : Int) := by omega
    have hp := markS_pos h0'
    by_cases hc : s[0].toNat = 36
    · have hk : markS s = true := by rw [hp, decide_eq_true hc]; rfl
      have hq : ((s[0].toNat : Int) == 36) = true := by rw [beq_iff_eq]; omega
      rw [hk] at HM
      clear h0 hs hk hp hc
      go_enter Tryz.func74, Tryz.ntmps74
      go_wp2_with (go_at_call 37; (with_reducible refine (HN.out _ (by assumption)).mono ?_); rintro e w5 ⟨rfl, hb5⟩)
      go_ret
      exact ⟨ret_bool HM.out.symm, by assumption⟩
    · have hq : ((s[0].toNat : Int) == 36) = false := by rw [beq_eq_false_iff_ne]; omega
      by_cases hd : s[0].toNat = 33
      · have hk : markS s = true := by rw [hp, decide_eq_true hd, Bool.or_true]
        have hr : ((s[0].toNat : Int) == 33) = true := by rw [beq_iff_eq]; omega
        rw [hk] at HM
        clear h0 hs hk hp hc hd
        go_enter Tryz.func74, Tryz.ntmps74
        go_wp2_with (go_at_call 37; (with_reducible refine (HN.out _ (by assumption)).mono ?_); rintro e w5 ⟨rfl, hb5⟩)
        go_ret
        exact ⟨ret_bool HM.out.symm, by assumption⟩
      · have hk : markS s = false := by rw [hp, decide_eq_false hc, decide_eq_false hd]; rfl
        have hr : ((s[0].toNat : Int) == 33) = false := by rw [beq_eq_false_iff_ne]; omega
        rw [hk] at HM
        clear h0 hs hk hp hc hd
        go_enter Tryz.func74, Tryz.ntmps74
        go_wp2_with (go_at_call 31; (with_reducible refine (HR.out _ (by assumption)).mono ?_); rintro e w5 ⟨rfl, hb5⟩)
        go_ret
        exact ⟨ret_bool HM.out.symm, by assumption⟩

/-! The sides of a rule. -/
def upZ (lv : Int) (a b c : ByteArray) : Nat → Bool
  | 0 => true
  | 1 => sideOne lv 0 a
  | 2 => sideOne lv 0 a && sideOne lv 1 b
  | _ => sideOne lv 0 a && (sideOne lv 1 b && sideOne lv 2 c)
def sdT (a b c : ByteArray) : Nat → ByteArray
  | 0 => a
  | 1 => b
  | _ => c
theorem upZ_false {lv : Int} {a b c : ByteArray} {k : Nat} (hk : k < 3) (h : sideOne lv k (sdT a b c k) = false) : sideS lv a b c = false := by
  unfold sideS
  have h3 : k = 0 ∨ k = 1 ∨ k = 2 := by omega
  rcases h3 with rfl | rfl | rfl
  · rw [show sideOne lv 0 a = false from h]; rfl
  · rw [show sideOne lv 1 b = false from h]; simp
  · rw [show sideOne lv 2 c = false from h]; simp
theorem upZ_true {lv : Int} {a b c : ByteArray} {k : Nat} (hk : k < 3) (hu : upZ lv a b c k = true) (h : sideOne lv k (sdT a b c k) = true) : upZ lv a b c (k + 1) = true := by
  have h3 : k = 0 ∨ k = 1 ∨ k = 2 := by omega
  rcases h3 with rfl | rfl | rfl
  · exact h
  · show (sideOne lv 0 a && sideOne lv 1 b) = true
    rw [show sideOne lv 0 a = true from hu, show sideOne lv 1 b = true from h]; rfl
  · have hu' : (sideOne lv 0 a && sideOne lv 1 b) = true := hu
    rw [Bool.and_eq_true] at hu'
    show (sideOne lv 0 a && (sideOne lv 1 b && sideOne lv 2 c)) = true
    rw [hu'.1, hu'.2, show sideOne lv 2 c = true from h]; rfl
theorem side_out {lv : Int} {k : Nat} (s : ByteArray) (h : lv ≤ (k : Int)) : sideOne lv k s = decide (s.size = 0) := by unfold sideOne; rw [if_pos h]
theorem side_in {lv : Int} {k : Nat} (s : ByteArray) (h : ¬ lv ≤ (k : Int)) : sideOne lv k s = (decide (s = STAR) || (fitK k s && smallS s)) := by unfold sideOne; rw [if_neg h]
def fitF : Nat → FuncId
  | 0 => 29
  | 1 => 30
  | _ => 74
theorem fit_call (k : Nat) (hk : k < 3) : Enters Tryz.prog (fitF k) ∧ ∀ s : ByteArray, s.size ≤ 1000 → ∀ w, Calls Tryz.prog (fitF k) #[.string s] w fun e w' => e = .returned (.bool (fitK k s)) ∧ Below w.heap.size w w' := by
  have h3 : k = 0 ∨ k = 1 ∨ k = 2 := by omega
  rcases h3 with rfl | rfl | rfl
  · exact ⟨Go.Proofs.enters_of Tryz.func29 (by kernel_rfl) rfl, fun s hs w => language_own s w (by unfold maxLen; omega)⟩
  · exact ⟨Go.Proofs.enters_of Tryz.func30 (by kernel_rfl) rfl, fun s hs w => script_own s w (by unfold maxLen; omega)⟩
  · exact ⟨Go.Proofs.enters_of Tryz.func74 (by kernel_rfl) rfl, fun s hs w => place_any s w (by omega)⟩
theorem sd_index (a b c : ByteArray) (k : Nat) (hk : k < 3) (t : ByteArray) (ht : sdT a b c k = t) (w : World) : (Instr.index 24 (.agg #[.string a, .string b, .string c]) (.int .i64 (k : Int))).run Tryz.prog w = .ok (.string t) w := by
  subst ht
  have h3 : k = 0 ∨ k = 1 ∨ k = 2 := by omega
  rcases h3 with rfl | rfl | rfl <;> (show _ = _; kernel_rfl)
theorem cells3Z {W : World} {B : Nat} {a b c : Value} {t : TypeId} (h : W.heap[B]? = some (.cells #[a, b, c] t (0, 0))) :
    W.cell? ⟨B, 0, none⟩ = some a ∧ W.cell? ⟨B, 1, none⟩ = some b ∧ W.cell? ⟨B, 2, none⟩ = some c := by simp [World.cell?, h]
theorem sto3 {P : Program} {w : World} {B : Nat} {t : TypeId} {a0 a1 a2 : Value} (h : w.heap[B]? = some (.cells #[a0, a1, a2] t (0, 0))) {b0 b1 b2 : Value} (v0 : b0.oneCell' = true) (v1 : b1.oneCell' = true) (v2 : b2.oneCell' = true) :
    ∃ W1 W2 W3, (store ⟨B, 0, none⟩ b0).run P w = .ok () W1 ∧ (store ⟨B, 1, none⟩ b1).run P W1 = .ok () W2 ∧ (store ⟨B, 2, none⟩ b2).run P W2 = .ok () W3 ∧ W3.heap[B]? = some (.cells #[b0, b1, b2] t (0, 0)) ∧ ∀ B0, B0 ≤ B → Below B0 w W3 := by
  have e0 : (w.setCell ⟨B, 0, none⟩ b0).heap[B]? = some (.cells #[b0, a1, a2] t (0, 0)) := setY h b0
  have e1 : ((w.setCell ⟨B, 0, none⟩ b0).setCell ⟨B, 1, none⟩ b1).heap[B]? = some (.cells #[b0, b1, a2] t (0, 0)) := setY e0 b1
  have e2 : (((w.setCell ⟨B, 0, none⟩ b0).setCell ⟨B, 1, none⟩ b1).setCell ⟨B, 2, none⟩ b2).heap[B]? = some (.cells #[b0, b1, b2] t (0, 0)) := setY e1 b2
  exact ⟨_, _, _, store_cell h (by simp) v0, store_cell e0 (by simp) v1, store_cell e1 (by simp) v2, e2, fun B0 hB => (((Below.refl B0 w).setCell (p := ⟨B, 0, none⟩) hB b0).setCell (p := ⟨B, 1, none⟩) hB b1).setCell (p := ⟨B, 2, none⟩) hB b2⟩
set_option maxRecDepth 100000 in
set_option maxHeartbeats 4000000 in
theorem side_any (a b c : ByteArray) (lv : Int) (w : World) (ha : a.size ≤ 1000) (hb : b.size ≤ 1000) (hc : c.size ≤ 1000) :
    Calls Tryz.prog 35 #[.agg #[.string a, .string b, .string c], .int .i64 lv] w fun e w' => e = .returned (.bool (sideS lv a b c)) ∧ Below w.heap.size w w' := by
  have hA0 : ((w.alloc (.cells #[.string a, .string b, .string c] 24)).alloc (.cells #[.nilFunc, .nilFunc, .nilFunc] 118)).heap[w.heap.size + 1]? = some (.cells #[.nilFunc, .nilFunc, .nilFunc] 118 (0, 0)) := heap_alloc2_new w _ _
  have hA1 : ((w.alloc (.cells #[.string a, .string b, .string c] 24)).alloc (.cells #[.nilFunc, .nilFunc, .nilFunc] 118)).heap[w.heap.size]? = some (.cells #[.string a, .string b, .string c] 24 (0, 0)) := (Below.heap_alloc _ _ _ (by simp)).trans (World.alloc_heap_new w _)
  obtain ⟨V1, V2, W1, s1, s2, s3, hF, hbb⟩ := sto3 (P := Tryz.prog) hA0 (b0 := .func (.func 29) #[] #[]) (b1 := .func (.func 30) #[] #[]) (b2 := .func (.func 74) #[] #[]) rfl rfl rfl
  have hb1 : Below w.heap.size w W1 := (((Below.refl _ w).alloc (Nat.le_refl _) _).alloc (by simp) _).trans (hbb w.heap.size (by omega))
  have hA : W1.heap[w.heap.size]? = some (.cells #[.string a, .string b, .string c] 24 (0, 0)) := ((hbb (w.heap.size + 1) (Nat.le_refl _)).block _ (by omega)).trans hA1
  clear hA0 hA1 hbb
  have HA := Lib.hid (cells3Z hA)
  have HF := Lib.hid (fun k (hk : k < 3) w' (h : Below W1.heap.size W1 w') => show w'.cell? ⟨w.heap.size + 1, k, none⟩ = some (.func (.func (fitF k)) #[] #[]) from by
    obtain ⟨c0, c1, c2⟩ := cells3Z ((h.block _ (lt_of_block hF)).trans hF)
    have h3 : k = 0 ∨ k = 1 ∨ k = 2 := by omega
    rcases h3 with rfl | rfl | rfl
    · exact c0
    · exact c1
    · exact c2)
  have HB := Lib.hid (fun w' (h : Below W1.heap.size W1 w') => hb1.trans (h.mono hb1.size))
  have HT := Lib.hid (fun k => show (sdT a b c k).size ≤ 1000 from by rcases k with _ | _ | k <;> assumption)
  have HU := Lib.hid (show upZ lv a b c 3 = sideS lv a b c from rfl)
  clear hb1 hA hF ha hb hc
  have q := HA.out
  obtain ⟨q0, q1, q2⟩ := q
  go_enter Tryz.func35, Tryz.ntmps35
  go_upto_region 2 with fail
  go_wp2_with fail
  clear q0 q1 q2 s1 s2 s3 HA
  go_loopw [6, 7, 10] (fun _ _ i wr => ∃ k : Nat, k ≤ 3 ∧ i = .int .i64 (k : Int) ∧ upZ lv a b c k = true ∧ Below W1.heap.size W1 wr) (fun _ _ i _ => 3 - (intOf i).toNat)
  case atStart => exact ⟨0, Nat.zero_le _, rfl, rfl, Below.refl _ _⟩
  case round =>
    obtain ⟨k, hk, rfl, hu, hR⟩ := hrel
    by_cases hlt : k < 3
    · have hlt' : (k : Int) < 3 := by omega
      have hk0 : (0 : Int) ≤ (k : Int) := by omega
      obtain ⟨t, ht⟩ : ∃ t, sdT a b c k = t := ⟨_, rfl⟩
      have hz := HT.out k
      rw [ht] at hz
      have hix := sd_index a b c k hlt t ht wr
      have HFALSE := Lib.hid (fun h : sideOne lv k t = false => upZ_false hlt (show sideOne lv k (sdT a b c k) = false by rw [ht]; exact h))
      have HTRUE := Lib.hid (fun h : sideOne lv k t = true => upZ_true hlt hu (show sideOne lv k (sdT a b c k) = true by rw [ht]; exact h))
      clear ht hu HT
      by_cases hl : lv ≤ (k : Int)
      · by_cases hs : t.size = 0
        · have he := empty_true hs
          have HS := Lib.hid (HTRUE.out (by rw [side_out t hl, decide_eq_true hs]))
          clear hs HFALSE HTRUE
          go_wp2
          go_roundw
          case rel => exact ⟨k + 1, by omega, by go_num, HS.out, hR⟩
          case measure => simp [intOf]; omega
        · have he := empty_false (show 0 < t.size by omega)
          have HS := Lib.hid (HFALSE.out (by rw [side_out t hl, decide_eq_false hs]))
          clear hs HFALSE HTRUE
          go_wp2
          go_ret
          exact ⟨ret_bool HS.out.symm, HB.out _ hR⟩
      · by_cases hst : t = STAR
        · have HS := Lib.hid (HTRUE.out (by rw [side_in t hl, decide_eq_true hst]; rfl))
          subst hst
          clear HFALSE HTRUE
          have hx : (STAR.toList == STAR.toList) = true := beq_self_eq_true _
          unfold STAR at *
          go_wp2
          go_roundw
          case rel => exact ⟨k + 1, by omega, by go_num, HS.out, hR⟩
          case measure => simp [intOf]; omega
        · have hx : (t.toList == ({ data := #[42] } : ByteArray).toList) = false := texts_ne hst
          have hx2 : (t.toList == [42]) = false := by
            rw [show (({ data := #[42] } : ByteArray).toList) = [42] from by rw [ByteArray.toList_eq]] at hx
            exact hx
          have hf := HF.out k hlt wr hR
          obtain ⟨E, C⟩ := fit_call k hlt
          have HC := Lib.hid (fun w' (h : Below W1.heap.size W1 w') => (C t hz w').mono (R' := fun e w'' => e = .returned (.bool (fitK k t)) ∧ Below W1.heap.size W1 w'') fun e w'' ⟨p, q⟩ => ⟨p, h.trans (q.mono h.size)⟩)
          have HS := Lib.hid (fun w' (h : Below W1.heap.size W1 w') => (inSmall_any t w' (by omega)).mono (R' := fun e w'' => e = .returned (.bool (smallS t)) ∧ Below W1.heap.size W1 w'') fun e w'' ⟨p, q⟩ => ⟨p, h.trans (q.mono h.size)⟩)
          have HV := Lib.hid (show sideOne lv k t = (fitK k t && smallS t) by rw [side_in t hl, decide_eq_false hst]; rfl)
          have E5 : ∀ args w, (callFunc (fitF k) args).run Tryz.prog w = .ok (.enter (fitF k) args) w := E
          generalize fitK k t = p1 at *
          generalize smallS t = p2 at *
          generalize fitF k = FF at *
          clear C E hst hz
          cases p1 with
          | false =>
            have HS2 := Lib.hid (HFALSE.out (by rw [HV.out]; rfl))
            clear HFALSE HTRUE HV
            go_wp2_with ((with_reducible refine (HC.out _ hR).mono ?_); rintro e w5 ⟨rfl, hb5⟩)
            go_ret
            exact ⟨ret_bool HS2.out.symm, HB.out _ hb5⟩
          | true =>
            cases p2 with
            | false =>
              have HS2 := Lib.hid (HFALSE.out (by rw [HV.out]; rfl))
              clear HFALSE HTRUE HV
              go_wp2_with (first | (go_at_call 28; (with_reducible refine (HS.out _ hb5).mono ?_); rintro e w6 ⟨rfl, hb6⟩) | ((with_reducible refine (HC.out _ hR).mono ?_); rintro e w5 ⟨rfl, hb5⟩))
              go_ret
              exact ⟨ret_bool HS2.out.symm, HB.out _ hb6⟩
            | true =>
              have HS2 := Lib.hid (HTRUE.out (by rw [HV.out]; rfl))
              clear HFALSE HTRUE HV
              go_wp2_with (first | (go_at_call 28; (with_reducible refine (HS.out _ hb5).mono ?_); rintro e w6 ⟨rfl, hb6⟩) | ((with_reducible refine (HC.out _ hR).mono ?_); rintro e w5 ⟨rfl, hb5⟩))
              go_roundw
              case rel => exact ⟨k + 1, by omega, by go_num, HS2.out, hb6⟩
              case measure => simp [intOf]; omega
    · obtain rfl : k = 3 := by omega
      have HS := Lib.hid (show sideS lv a b c = true from by rw [← HU.out]; exact hu)
      clear hu
      go_wp2
      go_ret
      exact ⟨ret_bool HS.out.symm, HB.out _ hR⟩

/-! Rules and members. -/
structure RlS (x : Rl) : Prop where
  lv : (Lit.int .i64 x.lv).wf = true
  co : (Lit.int .i64 x.co).wf = true
  z : ∀ t ∈ rlT x, t.size ≤ 1000
def rlC (x : Rl) : List Value := [.int .i64 x.lv, .int .i64 x.co, .bool x.ow, .string x.d0, .string x.d1, .string x.d2, .string x.s0, .string x.s1, .string x.s2]
theorem cells9Z {W : World} {B : Nat} {a b c d e f g h i : Value} {t : TypeId} (hh : W.heap[B]? = some (.cells #[a, b, c, d, e, f, g, h, i] t (0, 0))) :
    W.cell? ⟨B, 0, none⟩ = some a ∧ W.cell? ⟨B, 1, none⟩ = some b ∧ W.cell? ⟨B, 2, none⟩ = some c ∧ W.cell? ⟨B, 3, none⟩ = some d ∧ W.cell? ⟨B, 4, none⟩ = some e ∧ W.cell? ⟨B, 5, none⟩ = some f ∧ W.cell? ⟨B, 6, none⟩ = some g ∧ W.cell? ⟨B, 7, none⟩ = some h ∧ W.cell? ⟨B, 8, none⟩ = some i := by simp [World.cell?, hh]
set_option maxRecDepth 100000 in
set_option maxHeartbeats 4000000 in
theorem rightRl_any (x : Rl) (w : World) (hx : RlS x) :
    Calls Tryz.prog 15 #[.agg #[.int .i64 x.lv, .int .i64 x.co, .bool x.ow, .string x.d0, .string x.d1, .string x.d2, .string x.s0, .string x.s1, .string x.s2]] w fun e w' => e = .returned (.bool (rightRl x)) ∧ Below w.heap.size w w' := by
  obtain ⟨W1, hW1⟩ : ∃ W1, w.alloc (.cells #[.int .i64 x.lv, .int .i64 x.co, .bool x.ow, .string x.d0, .string x.d1, .string x.d2, .string x.s0, .string x.s1, .string x.s2] 26) = W1 := ⟨_, rfl⟩
  have hb1 : Below w.heap.size w W1 := by rw [← hW1]; exact (Below.refl _ w).alloc (Nat.le_refl _) _
  have hA : W1.heap[w.heap.size]? = some (.cells #[.int .i64 x.lv, .int .i64 x.co, .bool x.ow, .string x.d0, .string x.d1, .string x.d2, .string x.s0, .string x.s1, .string x.s2] 26 (0, 0)) := by rw [← hW1]; exact World.alloc_heap_new w _
  have HB := Lib.hid (fun w' (h : Below W1.heap.size W1 w') => hb1.trans (h.mono hb1.size))
  have H9 := Lib.hid (fun w' (h : Below W1.heap.size W1 w') => cells9Z ((h.block _ (lt_of_block hA)).trans hA))
  have HD := Lib.hid (fun w' (h : Below W1.heap.size W1 w') => (side_any x.d0 x.d1 x.d2 x.lv w' (hx.z _ (by simp [rlT])) (hx.z _ (by simp [rlT])) (hx.z _ (by simp [rlT]))).mono (R' := fun e w'' => e = .returned (.bool (sideS x.lv x.d0 x.d1 x.d2)) ∧ Below W1.heap.size W1 w'') fun e w'' ⟨p, q⟩ => ⟨p, h.trans (q.mono h.size)⟩)
  have HS := Lib.hid (fun w' (h : Below W1.heap.size W1 w') => (side_any x.s0 x.s1 x.s2 x.lv w' (hx.z _ (by simp [rlT])) (hx.z _ (by simp [rlT])) (hx.z _ (by simp [rlT]))).mono (R' := fun e w'' => e = .returned (.bool (sideS x.lv x.s0 x.s1 x.s2)) ∧ Below W1.heap.size W1 w'') fun e w'' ⟨p, q⟩ => ⟨p, h.trans (q.mono h.size)⟩)
  have HM := Lib.hid (show rightRl x = (decide (1 ≤ x.lv) && (decide (x.lv ≤ 3) && (decide (0 ≤ x.co) && (decide (x.co ≤ 100) && (sideS x.lv x.d0 x.d1 x.d2 && sideS x.lv x.s0 x.s1 x.s2))))) from rfl)
  have HW1 := Lib.hid hW1
  generalize sideS x.lv x.d0 x.d1 x.d2 = b1 at *
  generalize sideS x.lv x.s0 x.s1 x.s2 = b2 at *
  have hR : Below W1.heap.size W1 W1 := Below.refl _ _
  have c := H9.out _ hR
  obtain ⟨c0, c1, c2, c3, c4, c5, c6, c7, c8⟩ := c
  clear hW1 hb1 hA hx
  by_cases h1 : 1 ≤ x.lv
  · rw [decide_eq_true h1] at HM
    by_cases h2 : x.lv ≤ 3
    · rw [decide_eq_true h2] at HM
      by_cases h3 : 0 ≤ x.co
      · rw [decide_eq_true h3] at HM
        by_cases h4 : x.co ≤ 100
        · rw [decide_eq_true h4] at HM
          cases b1
          case true =>
            go_enter Tryz.func15, Tryz.ntmps15
            go_upto_region 1 with fail
            rw [HW1.out]
            go_wp2_with (first | (go_at_call 35; (with_reducible refine (HD.out _ hR).mono ?_); rintro e w5 ⟨rfl, hb5⟩; have d := H9.out _ hb5; obtain ⟨d0, d1, d2, d3, d4, d5, d6, d7, d8⟩ := d) | (go_at_call 35; (with_reducible refine (HS.out _ hb5).mono ?_); rintro e w6 ⟨rfl, hb6⟩))
            go_ret
            exact ⟨ret_bool HM.out.symm, HB.out _ hb6⟩
          case false =>
            go_enter Tryz.func15, Tryz.ntmps15
            go_upto_region 1 with fail
            rw [HW1.out]
            go_wp2_with (go_at_call 35; (with_reducible refine (HD.out _ hR).mono ?_); rintro e w5 ⟨rfl, hb5⟩)
            go_ret
            exact ⟨ret_bool HM.out.symm, HB.out _ hb5⟩
        · rw [decide_eq_false h4] at HM
          go_enter Tryz.func15, Tryz.ntmps15
          go_upto_region 1 with fail
          rw [HW1.out]
          go_wp2_with fail
          go_ret
          exact ⟨ret_bool HM.out.symm, HB.out _ hR⟩
      · rw [decide_eq_false h3] at HM
        go_enter Tryz.func15, Tryz.ntmps15
        go_upto_region 1 with fail
        rw [HW1.out]
        go_wp2_with fail
        go_ret
        exact ⟨ret_bool HM.out.symm, HB.out _ hR⟩
    · rw [decide_eq_false h2] at HM
      go_enter Tryz.func15, Tryz.ntmps15
      go_upto_region 1 with fail
      rw [HW1.out]
      go_wp2_with fail
      go_ret
      exact ⟨ret_bool HM.out.symm, HB.out _ hR⟩
  · rw [decide_eq_false h1] at HM
    go_enter Tryz.func15, Tryz.ntmps15
    go_upto_region 1 with fail
    rw [HW1.out]
    go_wp2_with fail
    go_ret
    exact ⟨ret_bool HM.out.symm, HB.out _ hR⟩

structure MbS (x : Mb) : Prop where
  st : x.st.size ≤ 1000
  rg : x.rg.size ≤ 1000
theorem cells2Z {W : World} {B : Nat} {a b : Value} {t : TypeId} (h : W.heap[B]? = some (.cells #[a, b] t (0, 0))) : W.cell? ⟨B, 0, none⟩ = some a ∧ W.cell? ⟨B, 1, none⟩ = some b := by simp [World.cell?, h]
set_option maxRecDepth 100000 in
set_option maxHeartbeats 4000000 in
theorem rightMb_any (x : Mb) (w : World) (hx : MbS x) :
    Calls Tryz.prog 17 #[.agg #[.string x.st, .string x.rg]] w fun e w' => e = .returned (.bool (rightMb x)) ∧ Below w.heap.size w w' := by
  obtain ⟨W1, hW1⟩ : ∃ W1, w.alloc (.cells #[.string x.st, .string x.rg] 35) = W1 := ⟨_, rfl⟩
  have hb1 : Below w.heap.size w W1 := by rw [← hW1]; exact (Below.refl _ w).alloc (Nat.le_refl _) _
  have hA : W1.heap[w.heap.size]? = some (.cells #[.string x.st, .string x.rg] 35 (0, 0)) := by rw [← hW1]; exact World.alloc_heap_new w _
  have HB := Lib.hid (fun w' (h : Below W1.heap.size W1 w') => hb1.trans (h.mono hb1.size))
  have H2 := Lib.hid (fun w' (h : Below W1.heap.size W1 w') => cells2Z ((h.block _ (lt_of_block hA)).trans hA))
  have HN := onward W1 (fun w' => setName_any x.st w' (by have := hx.st; omega))
  have HR := onward W1 (fun w' => region_own x.rg w' (by have := hx.rg; unfold maxLen; omega))
  have HS := onward W1 (fun w' => inSmall_any x.rg w' (by have := hx.rg; omega))
  have HM := Lib.hid (show rightMb x = (nameS x.st && (regionS x.rg && smallS x.rg)) from rfl)
  have HW1 := Lib.hid hW1
  generalize nameS x.st = b1 at *
  generalize regionS x.rg = b2 at *
  generalize smallS x.rg = b3 at *
  have hR : Below W1.heap.size W1 W1 := Below.refl _ _
  have c := H2.out _ hR
  obtain ⟨c0, c1⟩ := c
  clear hW1 hb1 hA hx
  cases b1
  case false =>
    go_enter Tryz.func17, Tryz.ntmps17
    go_upto_region 1 with fail
    rw [HW1.out]
    go_wp2_with (first
      | (go_at_call 37; (with_reducible refine (HN.out _ hR).mono ?_); rintro e w5 ⟨rfl, hb5⟩; have d := H2.out _ hb5; obtain ⟨d0, d1⟩ := d)
      | (go_at_call 31; (with_reducible refine (HR.out _ hb5).mono ?_); rintro e w6 ⟨rfl, hb6⟩; have f := H2.out _ hb6; obtain ⟨f0, f1⟩ := f)
      | (go_at_call 28; (with_reducible refine (HS.out _ hb6).mono ?_); rintro e w7 ⟨rfl, hb7⟩))
    go_ret
    exact ⟨ret_bool HM.out.symm, HB.out _ hb5⟩
  case true =>
    cases b2
    case false =>
      go_enter Tryz.func17, Tryz.ntmps17
      go_upto_region 1 with fail
      rw [HW1.out]
      go_wp2_with (first
        | (go_at_call 37; (with_reducible refine (HN.out _ hR).mono ?_); rintro e w5 ⟨rfl, hb5⟩; have d := H2.out _ hb5; obtain ⟨d0, d1⟩ := d)
        | (go_at_call 31; (with_reducible refine (HR.out _ hb5).mono ?_); rintro e w6 ⟨rfl, hb6⟩; have f := H2.out _ hb6; obtain ⟨f0, f1⟩ := f)
        | (go_at_call 28; (with_reducible refine (HS.out _ hb6).mono ?_); rintro e w7 ⟨rfl, hb7⟩))
      go_ret
      exact ⟨ret_bool HM.out.symm, HB.out _ hb6⟩
    case true =>
      go_enter Tryz.func17, Tryz.ntmps17
      go_upto_region 1 with fail
      rw [HW1.out]
      go_wp2_with (first
        | (go_at_call 37; (with_reducible refine (HN.out _ hR).mono ?_); rintro e w5 ⟨rfl, hb5⟩; have d := H2.out _ hb5; obtain ⟨d0, d1⟩ := d)
        | (go_at_call 31; (with_reducible refine (HR.out _ hb5).mono ?_); rintro e w6 ⟨rfl, hb6⟩; have f := H2.out _ hb6; obtain ⟨f0, f1⟩ := f)
        | (go_at_call 28; (with_reducible refine (HS.out _ hb6).mono ?_); rintro e w7 ⟨rfl, hb7⟩))
      go_ret
      exact ⟨ret_bool HM.out.symm, HB.out _ hb7⟩
end Go.Proofs.YtlpjdknmnomdlaaGreatDoor
