/-
 The document's place and RightRule (layer 13). (Printed by wip/gen_zrefp.py.)
-/
import Derived.Test.YtgjifikahlmioaaGreatDoorZRefL
namespace Go.Proofs.YtgjifikahlmioaaGreatDoor
open Go Go.RowKit

def plS (k : Nat) (s : ByteArray) : Bool := decide (s = STAR) || (fitK k s && smallS s)
set_option maxRecDepth 100000 in
theorem placeD_0 (s : ByteArray) (w : World) (hs : s.size ≤ 1000) :
  Calls Tryz.prog 128 #[.string s, .int .i64 0] w fun e w' => e = .returned (.bool (plS 0 s)) ∧ Below w.heap.size w w' := by
 have h1 : (s.toList == ({ data := #[42] } : ByteArray).toList) = decide (s = STAR) := same_bool s STAR
 have h2 : (s.toList == [42]) = decide (s = STAR) := by
  rw [show (({ data := #[42] } : ByteArray).toList) = [42] from by rw [ByteArray.toList_eq]] at h1
  exact h1
 have HR := Lib.hid (fun w5 => languageD_any s w5 (by omega))
 have HM := Lib.hid (show plS 0 s = (decide (s = STAR) || (smallS s && languageS s)) by unfold plS; exact congrArg (_ || ·) (fit_refZ _ s))
 have hB0 : Below w.heap.size w w := Below.refl _ _
 generalize decide (s = STAR) = q at *
 generalize (smallS s && languageS s) = r at *
 clear hs
 cases q with
 | true =>
  go_enter Tryz.func128, Tryz.ntmps128
  go_wp2
  go_ret
  exact ⟨ret_bool HM.out.symm, hB0⟩
 | false =>
  go_enter Tryz.func128, Tryz.ntmps128
  go_wp2_with (go_at_call 125; (with_reducible refine (HR.out _).mono ?_); rintro e w5 ⟨rfl, hb5⟩)
  go_ret
  exact ⟨ret_bool HM.out.symm, hb5⟩
set_option maxRecDepth 100000 in
theorem placeD_1 (s : ByteArray) (w : World) (hs : s.size ≤ 1000) :
  Calls Tryz.prog 128 #[.string s, .int .i64 1] w fun e w' => e = .returned (.bool (plS 1 s)) ∧ Below w.heap.size w w' := by
 have h1 : (s.toList == ({ data := #[42] } : ByteArray).toList) = decide (s = STAR) := same_bool s STAR
 have h2 : (s.toList == [42]) = decide (s = STAR) := by
  rw [show (({ data := #[42] } : ByteArray).toList) = [42] from by rw [ByteArray.toList_eq]] at h1
  exact h1
 have HR := Lib.hid (fun w5 => scriptD_any s w5 (by omega))
 have HM := Lib.hid (show plS 1 s = (decide (s = STAR) || (smallS s && scriptS s)) by unfold plS; exact congrArg (_ || ·) (fit_refZ _ s))
 have hB0 : Below w.heap.size w w := Below.refl _ _
 generalize decide (s = STAR) = q at *
 generalize (smallS s && scriptS s) = r at *
 clear hs
 cases q with
 | true =>
  go_enter Tryz.func128, Tryz.ntmps128
  go_wp2
  go_ret
  exact ⟨ret_bool HM.out.symm, hB0⟩
 | false =>
  go_enter Tryz.func128, Tryz.ntmps128
  go_wp2_with (go_at_call 126; (with_reducible refine (HR.out _).mono ?_); rintro e w5 ⟨rfl, hb5⟩)
  go_ret
  exact ⟨ret_bool HM.out.symm, hb5⟩
set_option maxRecDepth 100000 in
set_option maxHeartbeats 2000000 in
theorem placeD_2 (s : ByteArray) (w : World) (hs : s.size ≤ 1000) :
  Calls Tryz.prog 128 #[.string s, .int .i64 2] w fun e w' => e = .returned (.bool (plS 2 s)) ∧ Below w.heap.size w w' := by
 have g1 : (s.toList == ({ data := #[42] } : ByteArray).toList) = decide (s = STAR) := same_bool s STAR
 have g2 : (s.toList == [42]) = decide (s = STAR) := by
  rw [show (({ data := #[42] } : ByteArray).toList) = [42] from by rw [ByteArray.toList_eq]] at g1
  exact g1
 have HR := Lib.hid (fun w5 => regionD_any s w5 (by omega))
 have HN := Lib.hid (fun w5 => nameD_any (s.extract 1 s.size) w5 (by rw [ByteArray.size_extract]; omega))
 have HM := Lib.hid (show plS 2 s = (decide (s = STAR) || (if markS s then nameS (s.extract 1 s.size) else smallS s && regionS s)) by unfold plS; exact congrArg (_ || ·) (fit_refZ _ s))
 have hB0 : Below w.heap.size w w := Below.refl _ _
 generalize decide (s = STAR) = q at *
 cases q with
 | true =>
  clear hs
  go_enter Tryz.func128, Tryz.ntmps128
  go_wp2
  go_ret
  exact ⟨ret_bool HM.out.symm, hB0⟩
 | false =>
  by_cases h0 : s.size = 0
  ·have he := empty_true h0
   have hk : markS s = false := by unfold markS; rw [dif_neg (by omega)]
   have HM2 := Lib.hid (show plS 2 s = (smallS s && regionS s) by rw [HM.out, hk]; rfl)
   clear h0 hs hk
   go_enter Tryz.func128, Tryz.ntmps128
   go_wp2_with (go_at_call 127; (with_reducible refine (HR.out _).mono ?_); rintro e w5 ⟨rfl, hb5⟩)
   go_ret
   exact ⟨ret_bool HM2.out.symm, hb5⟩
  ·have h0' : 0 < s.size := by omega
   have he := empty_false h0'
   have h1 : (1 : Int) ≤ (s.size : Int) := by omega
   have hp := markS_pos h0'
   by_cases hc : s[0].toNat = 36
   ·have hk : markS s = true := by rw [hp, decide_eq_true hc]; rfl
    have hq : ((s[0].toNat : Int) == 36) = true := by rw [beq_iff_eq]; omega
    have HM2 := Lib.hid (show plS 2 s = nameS (s.extract 1 s.size) by rw [HM.out, hk]; rfl)
    clear h0 hs hk hp hc
    go_enter Tryz.func128, Tryz.ntmps128
    go_wp2_with (go_at_call 129; (with_reducible refine (HN.out _).mono ?_); rintro e w5 ⟨rfl, hb5⟩)
    go_ret
    exact ⟨ret_bool HM2.out.symm, hb5⟩
   ·have hq : ((s[0].toNat : Int) == 36) = false := by rw [beq_eq_false_iff_ne]; omega
    by_cases hd : s[0].toNat = 33
    ·have hk : markS s = true := by rw [hp, decide_eq_true hd, Bool.or_true]
     have hr : ((s[0].toNat : Int) == 33) = true := by rw [beq_iff_eq]; omega
     have HM2 := Lib.hid (show plS 2 s = nameS (s.extract 1 s.size) by rw [HM.out, hk]; rfl)
     clear h0 hs hk hp hc hd
     go_enter Tryz.func128, Tryz.ntmps128
     go_wp2_with (go_at_call 129; (with_reducible refine (HN.out _).mono ?_); rintro e w5 ⟨rfl, hb5⟩)
     go_ret
     exact ⟨ret_bool HM2.out.symm, hb5⟩
    ·have hk : markS s = false := by rw [hp, decide_eq_false hc, decide_eq_false hd]; rfl
     have hr : ((s[0].toNat : Int) == 33) = false := by rw [beq_eq_false_iff_ne]; omega
     have HM2 := Lib.hid (show plS 2 s = (smallS s && regionS s) by rw [HM.out, hk]; rfl)
     clear h0 hs hk hp hc hd
     go_enter Tryz.func128, Tryz.ntmps128
     go_wp2_with (go_at_call 127; (with_reducible refine (HR.out _).mono ?_); rintro e w5 ⟨rfl, hb5⟩)
     go_ret
     exact ⟨ret_bool HM2.out.symm, hb5⟩
/-! Rules. -/
def sdD (x : Rl) : Nat → ByteArray
 | 0 => x.d0
 | 1 => x.d1
 | _ => x.d2
def sdS (x : Rl) : Nat → ByteArray
 | 0 => x.s0
 | 1 => x.s1
 | _ => x.s2
def headR (x : Rl) : Bool := decide (1 ≤ x.lv) && (decide (x.lv ≤ 3) && (decide (0 ≤ x.co) && decide (x.co ≤ 100)))
def sdOk (x : Rl) (k : Nat) : Bool := sideOne x.lv k (sdD x k) && sideOne x.lv k (sdS x k)
theorem rightRl_refZ (x : Rl) : rightRl x = (headR x && (sdOk x 0 && (sdOk x 1 && sdOk x 2))) := by
 show (decide (1 ≤ x.lv) && (decide (x.lv ≤ 3) && (decide (0 ≤ x.co) && (decide (x.co ≤ 100) && ((sideOne x.lv 0 x.d0 && (sideOne x.lv 1 x.d1 && sideOne x.lv 2 x.d2)) && (sideOne x.lv 0 x.s0 && (sideOne x.lv 1 x.s1 && sideOne x.lv 2 x.s2))))))) = ((decide (1 ≤ x.lv) && (decide (x.lv ≤ 3) && (decide (0 ≤ x.co) && decide (x.co ≤ 100)))) && ((sideOne x.lv 0 x.d0 && sideOne x.lv 0 x.s0) && ((sideOne x.lv 1 x.d1 && sideOne x.lv 1 x.s1) && (sideOne x.lv 2 x.d2 && sideOne x.lv 2 x.s2))))
 rw [Bool.eq_iff_iff]
 simp only [Bool.and_eq_true]
 constructor
 ·rintro ⟨h1, h2, h3, h4, ⟨a0, a1, a2⟩, b0, b1, b2⟩
  exact ⟨⟨h1, h2, h3, h4⟩, ⟨a0, b0⟩, ⟨a1, b1⟩, a2, b2⟩
 ·rintro ⟨⟨h1, h2, h3, h4⟩, ⟨a0, b0⟩, ⟨a1, b1⟩, a2, b2⟩
  exact ⟨h1, h2, h3, h4, ⟨a0, a1, a2⟩, b0, b1, b2⟩
theorem rightRl_badZ {x : Rl} {k : Nat} (hk : k < 3) (h : sdOk x k = false) : rightRl x = false := by
 rw [rightRl_refZ]
 rcases (show k = 0 ∨ k = 1 ∨ k = 2 by omega) with rfl | rfl | rfl <;> rw [h] <;> simp
theorem rightRl_okZ {x : Rl} (h0 : headR x = true) (h : ∀ j, j < 3 → sdOk x j = true) : rightRl x = true := by
 rw [rightRl_refZ, h0, h 0 (by decide), h 1 (by decide), h 2 (by decide)]; rfl
theorem sdOk_behind {x : Rl} {k : Nat} (h : x.lv ≤ (k : Int)) : sdOk x k = (noneS (sdD x k) && noneS (sdS x k)) := by
 unfold sdOk sideOne
 rw [if_pos h, if_pos h]; rfl
theorem sdOk_ahead {x : Rl} {k : Nat} (h : ¬ x.lv ≤ (k : Int)) : sdOk x k = (plS k (sdD x k) && plS k (sdS x k)) := by
 unfold sdOk sideOne
 rw [if_neg h, if_neg h]; rfl
theorem cells9R {W : World} {B : Nat} {a b c d e f g h i : Value} {t : TypeId} (hh : W.heap[B]? = some (.cells #[a, b, c, d, e, f, g, h, i] t (0, 0))) :
  W.cell? ⟨B, 0, none⟩ = some a ∧ W.cell? ⟨B, 1, none⟩ = some b ∧ W.cell? ⟨B, 3, none⟩ = some d ∧ W.cell? ⟨B, 4, none⟩ = some e ∧ W.cell? ⟨B, 5, none⟩ = some f ∧ W.cell? ⟨B, 6, none⟩ = some g ∧ W.cell? ⟨B, 7, none⟩ = some h ∧ W.cell? ⟨B, 8, none⟩ = some i := by
 simp [World.cell?, hh]
def UpR (x : Rl) (k : Nat) : Prop := ∀ j, j < k → sdOk x j = true
theorem up_nextZ {x : Rl} {k : Nat} (h : UpR x k) (hk : sdOk x k = true) : UpR x (k + 1) := fun j hj => by
 rcases Nat.lt_or_eq_of_le (Nat.le_of_lt_succ hj) with h1 | h1
 ·exact h j h1
 ·rw [h1]; exact hk
set_option maxRecDepth 100000 in
set_option maxHeartbeats 16000000 in
theorem rightRuleD_any (x : Rl) (w : World) (hx : ∀ t ∈ rlT x, t.size ≤ 1000) :
  Calls Tryz.prog 88 #[.agg #[.int .i64 x.lv, .int .i64 x.co, .bool x.ow, .string x.d0, .string x.d1, .string x.d2, .string x.s0, .string x.s1, .string x.s2]] w fun e w' => e = .returned (.bool (rightRl x)) ∧ Below w.heap.size w w' := by
 obtain ⟨W1, hW1⟩ : ∃ W1, w.alloc (.cells #[.int .i64 x.lv, .int .i64 x.co, .bool x.ow, .string x.d0, .string x.d1, .string x.d2, .string x.s0, .string x.s1, .string x.s2] 52) = W1 := ⟨_, rfl⟩
 have hb1 : Below w.heap.size w W1 := by rw [← hW1]; exact (Below.refl _ w).alloc (Nat.le_refl _) _
 have hA : W1.heap[w.heap.size]? = some (.cells #[.int .i64 x.lv, .int .i64 x.co, .bool x.ow, .string x.d0, .string x.d1, .string x.d2, .string x.s0, .string x.s1, .string x.s2] 52 (0, 0)) := by rw [← hW1]; exact World.alloc_heap_new w _
 have HC := Lib.hid (fun w' (h : Below W1.heap.size W1 w') => cells9R ((h.block _ (lt_of_block hA)).trans hA))
 have HB := Lib.hid (fun w' (h : Below W1.heap.size W1 w') => hb1.trans (h.mono hb1.size))
 have HBAD := Lib.hid (fun k (hk : k < 3) (h : sdOk x k = false) => rightRl_badZ hk h)
 have HH : headR x = false → rightRl x = false := fun h => by rw [rightRl_refZ, h]; rfl
 have HF := Lib.hid HH
 have HP00 := onward W1 (fun w5 => placeD_0 x.d0 w5 (hx _ (by simp [rlT])))
 have hn00 := none_bool x.d0
 have HQ00 := Lib.hid hn00
 clear hn00
 have HP01 := onward W1 (fun w5 => placeD_0 x.s0 w5 (hx _ (by simp [rlT])))
 have hn01 := none_bool x.s0
 have HQ01 := Lib.hid hn01
 clear hn01
 have HP10 := onward W1 (fun w5 => placeD_1 x.d1 w5 (hx _ (by simp [rlT])))
 have hn10 := none_bool x.d1
 have HQ10 := Lib.hid hn10
 clear hn10
 have HP11 := onward W1 (fun w5 => placeD_1 x.s1 w5 (hx _ (by simp [rlT])))
 have hn11 := none_bool x.s1
 have HQ11 := Lib.hid hn11
 clear hn11
 have HP20 := onward W1 (fun w5 => placeD_2 x.d2 w5 (hx _ (by simp [rlT])))
 have hn20 := none_bool x.d2
 have HQ20 := Lib.hid hn20
 clear hn20
 have HP21 := onward W1 (fun w5 => placeD_2 x.s2 w5 (hx _ (by simp [rlT])))
 have hn21 := none_bool x.s2
 have HQ21 := Lib.hid hn21
 clear hn21
 have HW1 := Lib.hid hW1
 obtain ⟨d0, d1, d3, d4, d5, d6, d7, d8⟩ := HC.out _ (Below.refl _ _)
 clear hW1 hb1 hA hx HH
 by_cases h0 : x.lv < 1
 ·go_enter Tryz.func88, Tryz.ntmps88
  go_upto_region 1 with fail
  rw [HW1.out]
  go_wp2
  go_ret
  exact ⟨ret_bool (HF.out (by unfold headR; rw [decide_eq_false (show ¬ 1 ≤ x.lv by omega)]; simp)).symm, HB.out _ (Below.refl _ _)⟩
 ·skip
  by_cases h1 : 3 < x.lv
  ·go_enter Tryz.func88, Tryz.ntmps88
   go_upto_region 1 with fail
   rw [HW1.out]
   go_wp2
   go_ret
   exact ⟨ret_bool (HF.out (by unfold headR; rw [decide_eq_false (show ¬ x.lv ≤ 3 by omega)]; simp)).symm, HB.out _ (Below.refl _ _)⟩
  ·skip
   by_cases h2 : x.co < 0
   ·go_enter Tryz.func88, Tryz.ntmps88
    go_upto_region 1 with fail
    rw [HW1.out]
    go_wp2
    go_ret
    exact ⟨ret_bool (HF.out (by unfold headR; rw [decide_eq_false (show ¬ 0 ≤ x.co by omega)]; simp)).symm, HB.out _ (Below.refl _ _)⟩
   ·skip
    by_cases h3 : 100 < x.co
    ·go_enter Tryz.func88, Tryz.ntmps88
     go_upto_region 1 with fail
     rw [HW1.out]
     go_wp2
     go_ret
     exact ⟨ret_bool (HF.out (by unfold headR; rw [decide_eq_false (show ¬ x.co ≤ 100 by omega)]; simp)).symm, HB.out _ (Below.refl _ _)⟩
    ·skip
     have HHd := Lib.hid (show headR x = true by unfold headR; rw [decide_eq_true (show 1 ≤ x.lv by omega), decide_eq_true (show x.lv ≤ 3 by omega), decide_eq_true (show 0 ≤ x.co by omega), decide_eq_true (show x.co ≤ 100 by omega)]; rfl)
     go_enter Tryz.func88, Tryz.ntmps88
     go_upto_region 1 with fail
     rw [HW1.out]
     go_wp2_with fail
     go_loopw [3, 4, 5] (fun i _ _ wr => ∃ k : Nat, k ≤ 3 ∧ i = .int .i64 (k : Int) ∧ UpR x k ∧ Below W1.heap.size W1 wr) (fun i _ _ _ => 3 - (intOf i).toNat)
     case atStart => exact ⟨0, by decide, rfl, fun j hj => absurd hj (Nat.not_lt_zero _), Below.refl _ _⟩
     case round =>
      obtain ⟨k, hk, rfl, hu, hR⟩ := hrel
      have HU := Lib.hid hu
      clear hu d0 d1 d3 d4 d5 d6 d7 d8
      rcases (show k = 0 ∨ k = 1 ∨ k = 2 ∨ k = 3 by omega) with rfl | rfl | rfl | rfl
      ·obtain ⟨d0, d1, d3, d4, d5, d6, d7, d8⟩ := HC.out wr hR
       by_cases hge : x.lv ≤ 0
       ·exfalso; omega
       ·have hge2 : 0 < x.lv := by omega
        have HE := Lib.hid (show sdOk x 0 = (plS 0 x.d0 && plS 0 x.s0) from sdOk_ahead (k := 0) hge)
        have HX0 := HP00
        have HX1 := HP01
        clear hge
        generalize plS 0 x.d0 = p at *
        generalize plS 0 x.s0 = q at *
        cases p with
        | false =>
         go_wp2_with (first
          | (go_at_call 128; (with_reducible refine (HP00.out _ hR).mono ?_); rintro e w5 ⟨rfl, hb5⟩; obtain ⟨e0, e1, e3, e4, e5, e6, e7, e8⟩ := HC.out _ hb5)
          | (go_at_call 128; (with_reducible refine (HP01.out _ (by assumption)).mono ?_); rintro e w6 ⟨rfl, hb6⟩))
         go_ret
         exact ⟨ret_bool (HBAD.out 0 (by decide) (by rw [HE.out]; rfl)).symm, HB.out _ (by assumption)⟩
        | true =>
         cases q with
         | false =>
          go_wp2_with (first
           | (go_at_call 128; (with_reducible refine (HP00.out _ hR).mono ?_); rintro e w5 ⟨rfl, hb5⟩; obtain ⟨e0, e1, e3, e4, e5, e6, e7, e8⟩ := HC.out _ hb5)
           | (go_at_call 128; (with_reducible refine (HP01.out _ (by assumption)).mono ?_); rintro e w6 ⟨rfl, hb6⟩))
          go_ret
          exact ⟨ret_bool (HBAD.out 0 (by decide) (by rw [HE.out]; rfl)).symm, HB.out _ (by assumption)⟩
         | true =>
          go_wp2_with (first
           | (go_at_call 128; (with_reducible refine (HP00.out _ hR).mono ?_); rintro e w5 ⟨rfl, hb5⟩; obtain ⟨e0, e1, e3, e4, e5, e6, e7, e8⟩ := HC.out _ hb5)
           | (go_at_call 128; (with_reducible refine (HP01.out _ (by assumption)).mono ?_); rintro e w6 ⟨rfl, hb6⟩))
          go_roundw
          case rel => exact ⟨0 + 1, by decide, by go_num, up_nextZ HU.out (by rw [HE.out]; rfl), by assumption⟩
          case measure => simp [intOf]
      ·obtain ⟨d0, d1, d3, d4, d5, d6, d7, d8⟩ := HC.out wr hR
       by_cases hge : x.lv ≤ 1
       ·have HE := Lib.hid (show sdOk x 1 = (noneS x.d1 && noneS x.s1) from sdOk_behind (k := 1) hge)
        have hq0 := HQ10.out
        have hq1 := HQ11.out
        generalize noneS x.d1 = p at *
        generalize noneS x.s1 = q at *
        cases p with
        | false =>
         go_wp2_with fail
         go_ret
         exact ⟨ret_bool (HBAD.out 1 (by decide) (by rw [HE.out]; rfl)).symm, HB.out _ hR⟩
        | true =>
         cases q with
         | false =>
          go_wp2_with fail
          go_ret
          exact ⟨ret_bool (HBAD.out 1 (by decide) (by rw [HE.out]; rfl)).symm, HB.out _ hR⟩
         | true =>
          go_wp2_with fail
          go_roundw
          case rel => exact ⟨1 + 1, by decide, by go_num, up_nextZ HU.out (by rw [HE.out]; rfl), hR⟩
          case measure => simp [intOf]
       ·have hge2 : 1 < x.lv := by omega
        have HE := Lib.hid (show sdOk x 1 = (plS 1 x.d1 && plS 1 x.s1) from sdOk_ahead (k := 1) hge)
        have HX0 := HP10
        have HX1 := HP11
        clear hge
        generalize plS 1 x.d1 = p at *
        generalize plS 1 x.s1 = q at *
        cases p with
        | false =>
         go_wp2_with (first
          | (go_at_call 128; (with_reducible refine (HP10.out _ hR).mono ?_); rintro e w5 ⟨rfl, hb5⟩; obtain ⟨e0, e1, e3, e4, e5, e6, e7, e8⟩ := HC.out _ hb5)
          | (go_at_call 128; (with_reducible refine (HP11.out _ (by assumption)).mono ?_); rintro e w6 ⟨rfl, hb6⟩))
         go_ret
         exact ⟨ret_bool (HBAD.out 1 (by decide) (by rw [HE.out]; rfl)).symm, HB.out _ (by assumption)⟩
        | true =>
         cases q with
         | false =>
          go_wp2_with (first
           | (go_at_call 128; (with_reducible refine (HP10.out _ hR).mono ?_); rintro e w5 ⟨rfl, hb5⟩; obtain ⟨e0, e1, e3, e4, e5, e6, e7, e8⟩ := HC.out _ hb5)
           | (go_at_call 128; (with_reducible refine (HP11.out _ (by assumption)).mono ?_); rintro e w6 ⟨rfl, hb6⟩))
          go_ret
          exact ⟨ret_bool (HBAD.out 1 (by decide) (by rw [HE.out]; rfl)).symm, HB.out _ (by assumption)⟩
         | true =>
          go_wp2_with (first
           | (go_at_call 128; (with_reducible refine (HP10.out _ hR).mono ?_); rintro e w5 ⟨rfl, hb5⟩; obtain ⟨e0, e1, e3, e4, e5, e6, e7, e8⟩ := HC.out _ hb5)
           | (go_at_call 128; (with_reducible refine (HP11.out _ (by assumption)).mono ?_); rintro e w6 ⟨rfl, hb6⟩))
          go_roundw
          case rel => exact ⟨1 + 1, by decide, by go_num, up_nextZ HU.out (by rw [HE.out]; rfl), by assumption⟩
          case measure => simp [intOf]
      ·obtain ⟨d0, d1, d3, d4, d5, d6, d7, d8⟩ := HC.out wr hR
       by_cases hge : x.lv ≤ 2
       ·have HE := Lib.hid (show sdOk x 2 = (noneS x.d2 && noneS x.s2) from sdOk_behind (k := 2) hge)
        have hq0 := HQ20.out
        have hq1 := HQ21.out
        generalize noneS x.d2 = p at *
        generalize noneS x.s2 = q at *
        cases p with
        | false =>
         go_wp2_with fail
         go_ret
         exact ⟨ret_bool (HBAD.out 2 (by decide) (by rw [HE.out]; rfl)).symm, HB.out _ hR⟩
        | true =>
         cases q with
         | false =>
          go_wp2_with fail
          go_ret
          exact ⟨ret_bool (HBAD.out 2 (by decide) (by rw [HE.out]; rfl)).symm, HB.out _ hR⟩
         | true =>
          go_wp2_with fail
          go_roundw
          case rel => exact ⟨2 + 1, by decide, by go_num, up_nextZ HU.out (by rw [HE.out]; rfl), hR⟩
          case measure => simp [intOf]
       ·have hge2 : 2 < x.lv := by omega
        have HE := Lib.hid (show sdOk x 2 = (plS 2 x.d2 && plS 2 x.s2) from sdOk_ahead (k := 2) hge)
        have HX0 := HP20
        have HX1 := HP21
        clear hge
        generalize plS 2 x.d2 = p at *
        generalize plS 2 x.s2 = q at *
        cases p with
        | false =>
         go_wp2_with (first
          | (go_at_call 128; (with_reducible refine (HP20.out _ hR).mono ?_); rintro e w5 ⟨rfl, hb5⟩; obtain ⟨e0, e1, e3, e4, e5, e6, e7, e8⟩ := HC.out _ hb5)
          | (go_at_call 128; (with_reducible refine (HP21.out _ (by assumption)).mono ?_); rintro e w6 ⟨rfl, hb6⟩))
         go_ret
         exact ⟨ret_bool (HBAD.out 2 (by decide) (by rw [HE.out]; rfl)).symm, HB.out _ (by assumption)⟩
        | true =>
         cases q with
         | false =>
          go_wp2_with (first
           | (go_at_call 128; (with_reducible refine (HP20.out _ hR).mono ?_); rintro e w5 ⟨rfl, hb5⟩; obtain ⟨e0, e1, e3, e4, e5, e6, e7, e8⟩ := HC.out _ hb5)
           | (go_at_call 128; (with_reducible refine (HP21.out _ (by assumption)).mono ?_); rintro e w6 ⟨rfl, hb6⟩))
          go_ret
          exact ⟨ret_bool (HBAD.out 2 (by decide) (by rw [HE.out]; rfl)).symm, HB.out _ (by assumption)⟩
         | true =>
          go_wp2_with (first
           | (go_at_call 128; (with_reducible refine (HP20.out _ hR).mono ?_); rintro e w5 ⟨rfl, hb5⟩; obtain ⟨e0, e1, e3, e4, e5, e6, e7, e8⟩ := HC.out _ hb5)
           | (go_at_call 128; (with_reducible refine (HP21.out _ (by assumption)).mono ?_); rintro e w6 ⟨rfl, hb6⟩))
          go_roundw
          case rel => exact ⟨2 + 1, by decide, by go_num, up_nextZ HU.out (by rw [HE.out]; rfl), by assumption⟩
          case measure => simp [intOf]
      ·go_wp2_with fail
       go_ret
       exact ⟨ret_bool (rightRl_okZ HHd.out HU.out).symm, HB.out _ hR⟩
end Go.Proofs.YtgjifikahlmioaaGreatDoor
