/-
  Merged: ZRefR, ZRefL, ZRefP, OArgs, OMoreM, OMoreLaw.
-/
import Derived.Test.YtaalecdokidmnaaGreatDoorZLik
import Derived.Deep.CutRange
import Derived.Test.YtaalecdokidmnaaGreatDoorZArgs
import Derived.Laws.IdiomArrays
import Derived.Test.YtaalecdokidmnaaGreatDoorOAwake
import Derived.Test.YtaalecdokidmnaaGreatDoorWApp
import Derived.Laws.OwnMore
/-! ZRefR -/
namespace Go.Proofs.YtaalecdokidmnaaGreatDoor
open Go Go.RowKit

set_option maxRecDepth 100000 in
theorem smallD_any (s : ByteArray) (w : World) (hs : s.size ≤ 1048576) :
    Calls Tryz.prog 101 #[.string s] w fun e w' => e = .returned (.bool (smallS s)) ∧ Below w.heap.size w w' := by
  have HL := Lib.hid (fun w5 => lower_ref s w5 (by omega))
  have HE := Lib.hid (same_bool s (lowS s))
  go_enter Tryz.func101, Tryz.ntmps101
  go_wp2_with (go_at_call 75; (with_reducible refine (HL.out _).mono ?_); rintro e w5 ⟨rfl, hb5⟩)
  go_ret
  exact ⟨ret_bool HE.out, by assumption⟩
set_option maxRecDepth 100000 in
theorem languageD_any (s : ByteArray) (w : World) (hs : s.size ≤ 1048576) :
    Calls Tryz.prog 59 #[.string s] w fun e w' => e = .returned (.bool (smallS s && languageS s)) ∧ Below w.heap.size w w' := by
  have HB := Lib.hid (fun w5 => smallD_any s w5 hs)
  have HR := Lib.hid (fun w5 => language_ref s w5 (by omega))
  generalize smallS s = q at *
  generalize languageS s = r at *
  clear hs
  cases q with
  | true =>
    go_enter Tryz.func59, Tryz.ntmps59
    go_wp2_with (first | (go_at_call 101; (with_reducible refine (HB.out _).mono ?_); rintro e w5 ⟨rfl, hb5⟩) | (go_at_call 102; (with_reducible refine (HR.out _).mono ?_); rintro e w6 ⟨rfl, rfl⟩))
    go_ret
    exact ⟨rfl, hb5⟩
  | false =>
    go_enter Tryz.func59, Tryz.ntmps59
    go_wp2_with (go_at_call 101; (with_reducible refine (HB.out _).mono ?_); rintro e w5 ⟨rfl, hb5⟩)
    go_ret
    exact ⟨rfl, hb5⟩
set_option maxRecDepth 100000 in
theorem scriptD_any (s : ByteArray) (w : World) (hs : s.size ≤ 1048576) :
    Calls Tryz.prog 60 #[.string s] w fun e w' => e = .returned (.bool (smallS s && scriptS s)) ∧ Below w.heap.size w w' := by
  have HB := Lib.hid (fun w5 => smallD_any s w5 hs)
  have HR := Lib.hid (fun w5 => script_ref s w5 (by omega))
  generalize smallS s = q at *
  generalize scriptS s = r at *
  clear hs
  cases q with
  | true =>
    go_enter Tryz.func60, Tryz.ntmps60
    go_wp2_with (first | (go_at_call 101; (with_reducible refine (HB.out _).mono ?_); rintro e w5 ⟨rfl, hb5⟩) | (go_at_call 103; (with_reducible refine (HR.out _).mono ?_); rintro e w6 ⟨rfl, rfl⟩))
    go_ret
    exact ⟨rfl, hb5⟩
  | false =>
    go_enter Tryz.func60, Tryz.ntmps60
    go_wp2_with (go_at_call 101; (with_reducible refine (HB.out _).mono ?_); rintro e w5 ⟨rfl, hb5⟩)
    go_ret
    exact ⟨rfl, hb5⟩
set_option maxRecDepth 100000 in
theorem regionD_any (s : ByteArray) (w : World) (hs : s.size ≤ 1048576) :
    Calls Tryz.prog 62 #[.string s] w fun e w' => e = .returned (.bool (smallS s && regionS s)) ∧ Below w.heap.size w w' := by
  have HB := Lib.hid (fun w5 => smallD_any s w5 hs)
  have HR := Lib.hid (fun w5 => region_ref s w5 (by omega))
  generalize smallS s = q at *
  generalize regionS s = r at *
  clear hs
  cases q with
  | true =>
    go_enter Tryz.func62, Tryz.ntmps62
    go_wp2_with (first | (go_at_call 101; (with_reducible refine (HB.out _).mono ?_); rintro e w5 ⟨rfl, hb5⟩) | (go_at_call 105; (with_reducible refine (HR.out _).mono ?_); rintro e w6 ⟨rfl, rfl⟩))
    go_ret
    exact ⟨rfl, hb5⟩
  | false =>
    go_enter Tryz.func62, Tryz.ntmps62
    go_wp2_with (go_at_call 101; (with_reducible refine (HB.out _).mono ?_); rintro e w5 ⟨rfl, hb5⟩)
    go_ret
    exact ⟨rfl, hb5⟩
theorem class_posZ (s : ByteArray) : (0 < classS s) ↔ alnumS s = true := by
  have h : ∀ p : UInt8 → Bool, (∀ c, p c = true → isN c = true) → has p s = true → alnumS s = true := fun p hp h => by
    unfold alnumS has at *
    rw [Bool.and_eq_true] at h ⊢
    exact ⟨h.1, List.all_eq_true.2 fun c hc => hp c (List.all_eq_true.1 h.2 c hc)⟩
  unfold classS
  by_cases h1 : alphaS s = true
  · rw [if_pos h1]; exact ⟨fun _ => h isA (fun c hc => by unfold isN; simp [hc]) h1, fun _ => by decide⟩
  · rw [if_neg h1]
    by_cases h2 : digitS s = true
    · rw [if_pos h2]; exact ⟨fun _ => h isD (fun c hc => by unfold isN; simp [hc]) h2, fun _ => by decide⟩
    · rw [if_neg h2]
      by_cases h3 : alnumS s = true
      · rw [if_pos h3]; exact ⟨fun _ => h3, fun _ => by decide⟩
      · rw [if_neg h3]; exact ⟨fun hh => absurd hh (by decide), fun hh => absurd hh h3⟩
theorem class_nonnegZ (s : ByteArray) : 0 ≤ classS s ∧ classS s ≤ 3 := by
  unfold classS
  split
  · exact ⟨by decide, by decide⟩
  · split
    · exact ⟨by decide, by decide⟩
    · split <;> exact ⟨by decide, by decide⟩
set_option maxRecDepth 100000 in
theorem nameD_any (s : ByteArray) (w : World) (hs : s.size ≤ 1048576) :
    Calls Tryz.prog 61 #[.string s] w fun e w' => e = .returned (.bool (nameS s)) ∧ Below w.heap.size w w' := by
  have HB := Lib.hid (fun w5 => smallD_any s w5 hs)
  obtain ⟨c, hc⟩ : ∃ c, classS s = c := ⟨_, rfl⟩
  have HR := Lib.hid (fun w5 => show Calls Tryz.prog 104 #[.string s] w5 fun e w' => e = .returned (.int .i64 c) ∧ w5 = w' from by rw [← hc]; exact class_ref s w5 (by omega))
  have hcn := class_nonnegZ s
  have hcp := class_posZ s
  rw [hc] at hcn hcp
  have HN := Lib.hid (show nameS s = (decide (s.size ≤ 7) && (alnumS s && smallS s)) from rfl)
  have hal : alnumS s = decide (0 < c) := by rw [Bool.eq_iff_iff, decide_eq_true_iff]; exact hcp.symm
  rw [hal] at HN
  generalize smallS s = q at *
  clear hc hcp hal hs
  cases q with
  | false =>
    go_enter Tryz.func61, Tryz.ntmps61
    go_wp2_with (go_at_call 101; (with_reducible refine (HB.out _).mono ?_); rintro e w5 ⟨rfl, hb5⟩)
    go_ret
    exact ⟨ret_bool (show nameS s = false by rw [HN.out, Bool.and_false, Bool.and_false]).symm, hb5⟩
  | true =>
    by_cases h7 : s.size ≤ 7
    · have h7' : (s.size : Int) ≤ 7 := by omega
      have HN2 := Lib.hid (show nameS s = decide (0 < c) by rw [HN.out, decide_eq_true h7, Bool.and_true, Bool.true_and])
      clear h7
      by_cases hp : 0 < c
      · have HN3 := Lib.hid (HN2.out.trans (decide_eq_true hp))
        go_enter Tryz.func61, Tryz.ntmps61
        go_wp2_with (first | (go_at_call 101; (with_reducible refine (HB.out _).mono ?_); rintro e w5 ⟨rfl, hb5⟩) | (go_at_call 104; (with_reducible refine (HR.out _).mono ?_); rintro e w6 ⟨rfl, rfl⟩))
        go_ret
        exact ⟨ret_bool HN3.out.symm, hb5⟩
      · go_enter Tryz.func61, Tryz.ntmps61
        go_wp2_with (first | (go_at_call 101; (with_reducible refine (HB.out _).mono ?_); rintro e w5 ⟨rfl, hb5⟩) | (go_at_call 104; (with_reducible refine (HR.out _).mono ?_); rintro e w6 ⟨rfl, rfl⟩))
        go_ret
        exact ⟨ret_bool HN2.out.symm, hb5⟩
    · have h7' : ¬ (s.size : Int) ≤ 7 := by omega
      have HN3 := Lib.hid (show nameS s = false by rw [HN.out, decide_eq_false h7]; rfl)
      clear h7
      go_enter Tryz.func61, Tryz.ntmps61
      go_wp2_with (go_at_call 101; (with_reducible refine (HB.out _).mono ?_); rintro e w5 ⟨rfl, hb5⟩)
      go_ret
      exact ⟨ret_bool HN3.out.symm, hb5⟩
/-! Likely rows, members. -/
theorem small_emptyZ {s : ByteArray} (h : s.size = 0) : smallS s = true := by
  have : s = ⟨#[]⟩ := ofL_ext (List.eq_nil_of_length_eq_zero h)
  rw [this]; decide
theorem maybe_smallZ (p : ByteArray → Bool) (s : ByteArray) : (decide (s.size = 0) || (smallS s && p s)) = (smallS s && maybeS p s) := by
  by_cases h : s.size = 0
  · rw [small_emptyZ h, decide_eq_true h]; unfold maybeS noneS; simp [h]
  · rw [decide_eq_false h]; unfold maybeS noneS; simp [h]
theorem rightLk_refZ (x : Lk) : rightLk x = ((smallS x.l && languageS x.l) && ((smallS x.tl && languageS x.tl) && ((decide (x.s.size = 0) || (smallS x.s && scriptS x.s)) && ((decide (x.r.size = 0) || (smallS x.r && regionS x.r)) && ((smallS x.ts && scriptS x.ts) && ((smallS x.tr && regionS x.tr) && !decide (x.tl = UND))))))) := by
  rw [maybe_smallZ, maybe_smallZ]
  unfold rightLk lkT
  simp only [List.all_cons, List.all_nil, Bool.and_true]
  generalize smallS x.l = a1
  generalize smallS x.s = a2
  generalize smallS x.r = a3
  generalize smallS x.tl = a4
  generalize smallS x.ts = a5
  generalize smallS x.tr = a6
  rw [Bool.eq_iff_iff]
  simp only [Bool.and_eq_true]
  constructor
  · rintro ⟨⟨h1, h2, h3, h4, h5, h6⟩, g1, g2, g3, g4, g5, g6, g7⟩
    exact ⟨⟨h1, g1⟩, ⟨h4, g4⟩, ⟨h2, g2⟩, ⟨h3, g3⟩, ⟨h5, g6⟩, ⟨h6, g7⟩, g5⟩
  · rintro ⟨⟨h1, g1⟩, ⟨h4, g4⟩, ⟨h2, g2⟩, ⟨h3, g3⟩, ⟨h5, g6⟩, ⟨h6, g7⟩, g5⟩
    exact ⟨⟨h1, h2, h3, h4, h5, h6⟩, g1, g2, g3, g4, g5, g6, g7⟩
theorem rightMb_refZ (x : Mb) : rightMb x = (nameS x.st && (smallS x.rg && regionS x.rg)) := by
  unfold rightMb
  rw [Bool.and_comm (regionS x.rg)]
set_option maxRecDepth 100000 in
set_option maxHeartbeats 2000000 in
theorem rightMemberD_any (x : Mb) (w : World) (hx : MbS x) :
    Calls Tryz.prog 147 #[.agg #[.string x.st, .string x.rg]] w fun e w' => e = .returned (.bool (rightMb x)) ∧ Below w.heap.size w w' := by
  obtain ⟨W1, hW1⟩ : ∃ W1, w.alloc (.cells #[.string x.st, .string x.rg] 66) = W1 := ⟨_, rfl⟩
  have hb1 : Below w.heap.size w W1 := by rw [← hW1]; exact (Below.refl _ w).alloc (Nat.le_refl _) _
  have hA : W1.heap[w.heap.size]? = some (.cells #[.string x.st, .string x.rg] 66 (0, 0)) := by rw [← hW1]; exact World.alloc_heap_new w _
  have HC := Lib.hid (fun w' (h : Below W1.heap.size W1 w') => cells2Z ((h.block _ (lt_of_block hA)).trans hA))
  have HB := Lib.hid (fun w' (h : Below W1.heap.size W1 w') => hb1.trans (h.mono hb1.size))
  have HM := Lib.hid (rightMb_refZ x)
  have HN := onward W1 (fun w5 => nameD_any x.st w5 (by have := hx.st; omega))
  have HR := onward W1 (fun w5 => regionD_any x.rg w5 (by have := hx.rg; omega))
  have HW1 := Lib.hid hW1
  obtain ⟨d0, d1⟩ := HC.out _ (Below.refl _ _)
  clear hW1 hb1 hA hx
  generalize nameS x.st = q at *
  generalize (smallS x.rg && regionS x.rg) = r at *
  cases q with
  | false =>
    go_enter Tryz.func147, Tryz.ntmps147
    go_upto_region 1 with fail
    rw [HW1.out]
    go_wp2_with (go_at_call 61; (with_reducible refine (HN.out _ (Below.refl _ _)).mono ?_); rintro e w5 ⟨rfl, hb5⟩)
    go_ret
    exact ⟨by rw [HM.out]; rfl, HB.out _ hb5⟩
  | true =>
    go_enter Tryz.func147, Tryz.ntmps147
    go_upto_region 1 with fail
    rw [HW1.out]
    go_wp2_with (first | (go_at_call 61; (with_reducible refine (HN.out _ (Below.refl _ _)).mono ?_); rintro e w5 ⟨rfl, hb5⟩; obtain ⟨e0, e1⟩ := HC.out _ hb5) | (go_at_call 62; (with_reducible refine (HR.out _ (by assumption)).mono ?_); rintro e w6 ⟨rfl, hb6⟩))
    go_ret
    exact ⟨by rw [HM.out]; rfl, HB.out _ hb6⟩
end Go.Proofs.YtaalecdokidmnaaGreatDoor

/-! ZRefL -/
namespace Go.Proofs.YtaalecdokidmnaaGreatDoor
open Go Go.RowKit

set_option maxRecDepth 100000 in
set_option maxHeartbeats 8000000 in
theorem rightLikelyD_any (x : Lk) (w : World) (hx : LkS x) :
    Calls Tryz.prog 146 #[.agg #[.string x.l, .string x.s, .string x.r, .string x.tl, .string x.ts, .string x.tr]] w fun e w' => e = .returned (.bool (rightLk x)) ∧ Below w.heap.size w w' := by
  obtain ⟨W1, hW1⟩ : ∃ W1, w.alloc (.cells #[.string x.l, .string x.s, .string x.r, .string x.tl, .string x.ts, .string x.tr] 63) = W1 := ⟨_, rfl⟩
  have hb1 : Below w.heap.size w W1 := by rw [← hW1]; exact (Below.refl _ w).alloc (Nat.le_refl _) _
  have hA : W1.heap[w.heap.size]? = some (.cells #[.string x.l, .string x.s, .string x.r, .string x.tl, .string x.ts, .string x.tr] 63 (0, 0)) := by rw [← hW1]; exact World.alloc_heap_new w _
  have HC := Lib.hid (fun w' (h : Below W1.heap.size W1 w') => cells6 ((h.block _ (lt_of_block hA)).trans hA))
  have HB := Lib.hid (fun w' (h : Below W1.heap.size W1 w') => hb1.trans (h.mono hb1.size))
  have HM := Lib.hid (rightLk_refZ x)
  have hz : ∀ t ∈ lkT x, t.size ≤ 1000 := hx
  have HA1 := onward W1 (fun w5 => languageD_any x.l w5 (by have := hz x.l (by simp [lkT]); omega))
  have HA2 := onward W1 (fun w5 => languageD_any x.tl w5 (by have := hz x.tl (by simp [lkT]); omega))
  have HA3 := onward W1 (fun w5 => scriptD_any x.s w5 (by have := hz x.s (by simp [lkT]); omega))
  have HA4 := onward W1 (fun w5 => regionD_any x.r w5 (by have := hz x.r (by simp [lkT]); omega))
  have HA5 := onward W1 (fun w5 => scriptD_any x.ts w5 (by have := hz x.ts (by simp [lkT]); omega))
  have HA6 := onward W1 (fun w5 => regionD_any x.tr w5 (by have := hz x.tr (by simp [lkT]); omega))
  have hu1 : (x.tl.toList == ({ data := #[117, 110, 100] } : ByteArray).toList) = decide (x.tl = UND) := same_bool x.tl UND
  have hu2 : (x.tl.toList == [117, 110, 100]) = decide (x.tl = UND) := by
    rw [show (({ data := #[117, 110, 100] } : ByteArray).toList) = [117, 110, 100] from by rw [ByteArray.toList_eq]] at hu1
    exact hu1
  have hn3 := none_bool x.s
  have hn4 := none_bool x.r
  have e3 : noneS x.s = decide (x.s.size = 0) := rfl
  have e4 : noneS x.r = decide (x.r.size = 0) := rfl
  rw [← e3, ← e4] at HM
  have HW1 := Lib.hid hW1
  obtain ⟨d0, d1, d2, d3, d4, d5⟩ := HC.out _ (Below.refl _ _)
  clear hW1 hb1 hA hx hz e3 e4
  generalize (smallS x.l && languageS x.l) = a1 at *
  generalize (smallS x.tl && languageS x.tl) = a2 at *
  generalize (smallS x.s && scriptS x.s) = a3 at *
  generalize (smallS x.r && regionS x.r) = a4 at *
  generalize (smallS x.ts && scriptS x.ts) = a5 at *
  generalize (smallS x.tr && regionS x.tr) = a6 at *
  generalize decide (x.tl = UND) = u at *
  generalize noneS x.s = n3 at *
  generalize noneS x.r = n4 at *
  go_enter Tryz.func146, Tryz.ntmps146
  go_upto_region 1 with fail
  rw [HW1.out]
  go_upto_region 3 with (first
    | (go_at_call 59; (with_reducible refine (HA1.out _ (Below.refl _ _)).mono ?_); rintro e w2 ⟨rfl, hb2⟩; obtain ⟨c0, c1, c2, c3, c4, c5⟩ := HC.out _ hb2)
    | (go_at_call 59; (with_reducible refine (HA2.out _ (by assumption)).mono ?_); rintro e w3 ⟨rfl, hb3⟩))
  go_cut [5] from 13 to 20 (fun u wx => u = .bool (n3 || a3) ∧ Below W1.heap.size W1 wx)
  case first =>
    obtain ⟨f0, f1, f2, f3, f4, f5⟩ := HC.out _ hb3
    cases n3 with
    | true =>
      go_wp2_with fail
      go_meet
      case rel => exact ⟨rfl, hb3⟩
    | false =>
      go_wp2_with (go_at_call 60; (with_reducible refine (HA3.out _ (by assumption)).mono ?_); rintro e w4 ⟨rfl, hb4⟩)
      go_meet
      case rel => exact ⟨rfl, hb4⟩
  case rest =>
    obtain ⟨rfl, hb4⟩ := hcut
    obtain ⟨wo, rfl⟩ : ∃ x, x = wc := ⟨_, rfl⟩
    go_upto_region 4 with fail
    go_cut [6] from 21 to 28 (fun u wx => u = .bool (n4 || a4) ∧ Below W1.heap.size W1 wx)
    case first =>
      obtain ⟨f0, f1, f2, f3, f4, f5⟩ := HC.out _ hb4
      cases n4 with
      | true =>
        go_wp2_with fail
        go_meet
        case rel => exact ⟨rfl, hb4⟩
      | false =>
        go_wp2_with (go_at_call 62; (with_reducible refine (HA4.out _ (by assumption)).mono ?_); rintro e w5 ⟨rfl, hb5⟩)
        go_meet
        case rel => exact ⟨rfl, hb5⟩
    case rest =>
      obtain ⟨rfl, hb5⟩ := hcut
      obtain ⟨wp, rfl⟩ : ∃ x, x = wc := ⟨_, rfl⟩
      obtain ⟨f0, f1, f2, f3, f4, f5⟩ := HC.out _ hb5
      clear d0 d1 d2 d3 d4 d5 hb2 hb3 hb4 hn3 hn4
      generalize (n3 || a3) = b3 at *
      generalize (n4 || a4) = b4 at *
      cases a1 with
      | false =>
        go_wp2_with (first
          | (go_at_call 60; (with_reducible refine (HA5.out _ (by assumption)).mono ?_); rintro e w6 ⟨rfl, hb6⟩; obtain ⟨g0, g1, g2, g3, g4, g5⟩ := HC.out _ hb6)
          | (go_at_call 62; (with_reducible refine (HA6.out _ (by assumption)).mono ?_); rintro e w7 ⟨rfl, hb7⟩; obtain ⟨k0, k1, k2, k3, k4, k5⟩ := HC.out _ hb7))
        go_ret
        exact ⟨ret_bool (by rw [HM.out]; rfl), HB.out _ (by assumption)⟩
      | true =>
        cases a2 with
        | false =>
          go_wp2_with (first
            | (go_at_call 60; (with_reducible refine (HA5.out _ (by assumption)).mono ?_); rintro e w6 ⟨rfl, hb6⟩; obtain ⟨g0, g1, g2, g3, g4, g5⟩ := HC.out _ hb6)
            | (go_at_call 62; (with_reducible refine (HA6.out _ (by assumption)).mono ?_); rintro e w7 ⟨rfl, hb7⟩; obtain ⟨k0, k1, k2, k3, k4, k5⟩ := HC.out _ hb7))
          go_ret
          exact ⟨ret_bool (by rw [HM.out]; rfl), HB.out _ (by assumption)⟩
        | true =>
          cases b3 with
          | false =>
            go_wp2_with (first
              | (go_at_call 60; (with_reducible refine (HA5.out _ (by assumption)).mono ?_); rintro e w6 ⟨rfl, hb6⟩; obtain ⟨g0, g1, g2, g3, g4, g5⟩ := HC.out _ hb6)
              | (go_at_call 62; (with_reducible refine (HA6.out _ (by assumption)).mono ?_); rintro e w7 ⟨rfl, hb7⟩; obtain ⟨k0, k1, k2, k3, k4, k5⟩ := HC.out _ hb7))
            go_ret
            exact ⟨ret_bool (by rw [HM.out]; rfl), HB.out _ (by assumption)⟩
          | true =>
            cases b4 with
            | false =>
              go_wp2_with (first
                | (go_at_call 60; (with_reducible refine (HA5.out _ (by assumption)).mono ?_); rintro e w6 ⟨rfl, hb6⟩; obtain ⟨g0, g1, g2, g3, g4, g5⟩ := HC.out _ hb6)
                | (go_at_call 62; (with_reducible refine (HA6.out _ (by assumption)).mono ?_); rintro e w7 ⟨rfl, hb7⟩; obtain ⟨k0, k1, k2, k3, k4, k5⟩ := HC.out _ hb7))
              go_ret
              exact ⟨ret_bool (by rw [HM.out]; rfl), HB.out _ (by assumption)⟩
            | true =>
              cases a5 with
              | false =>
                go_wp2_with (first
                  | (go_at_call 60; (with_reducible refine (HA5.out _ (by assumption)).mono ?_); rintro e w6 ⟨rfl, hb6⟩; obtain ⟨g0, g1, g2, g3, g4, g5⟩ := HC.out _ hb6)
                  | (go_at_call 62; (with_reducible refine (HA6.out _ (by assumption)).mono ?_); rintro e w7 ⟨rfl, hb7⟩; obtain ⟨k0, k1, k2, k3, k4, k5⟩ := HC.out _ hb7))
                go_ret
                exact ⟨ret_bool (by rw [HM.out]; rfl), HB.out _ (by assumption)⟩
              | true =>
                cases a6 with
                | false =>
                  go_wp2_with (first
                    | (go_at_call 60; (with_reducible refine (HA5.out _ (by assumption)).mono ?_); rintro e w6 ⟨rfl, hb6⟩; obtain ⟨g0, g1, g2, g3, g4, g5⟩ := HC.out _ hb6)
                    | (go_at_call 62; (with_reducible refine (HA6.out _ (by assumption)).mono ?_); rintro e w7 ⟨rfl, hb7⟩; obtain ⟨k0, k1, k2, k3, k4, k5⟩ := HC.out _ hb7))
                  go_ret
                  exact ⟨ret_bool (by rw [HM.out]; rfl), HB.out _ (by assumption)⟩
                | true =>
                  cases u
                  all_goals
                    go_wp2_with (first
                      | (go_at_call 60; (with_reducible refine (HA5.out _ (by assumption)).mono ?_); rintro e w6 ⟨rfl, hb6⟩; obtain ⟨g0, g1, g2, g3, g4, g5⟩ := HC.out _ hb6)
                      | (go_at_call 62; (with_reducible refine (HA6.out _ (by assumption)).mono ?_); rintro e w7 ⟨rfl, hb7⟩; obtain ⟨k0, k1, k2, k3, k4, k5⟩ := HC.out _ hb7))
                    go_ret
                    exact ⟨ret_bool (by rw [HM.out]; rfl), HB.out _ (by assumption)⟩
theorem map_selfZ (f : UInt8 → UInt8) : ∀ l : List UInt8, l.map f = l ↔ ∀ c ∈ l, f c = c
  | [] => by simp
  | a :: r => by rw [List.map_cons, List.cons.injEq, map_selfZ f r, List.forall_mem_cons]
theorem small_allZ (s : ByteArray) : smallS s = true ↔ ∀ c ∈ bs s, lowB c = c := by
  rw [smallS_iff, ← map_selfZ]
  constructor
  · intro h
    have := congrArg bs h
    rwa [show bs (lowS s) = (bs s).map lowB from bs_ofL _] at this
  · intro h
    exact ofL_ext ((bs_ofL _).trans h)
theorem small_markZ {s : ByteArray} (h : markS s = true) : smallS s = smallS (s.extract 1 s.size) := by
  rw [Bool.eq_iff_iff, small_allZ, small_allZ, drop_extract, bs_ofL]
  have h0 : 0 < s.size := by
    rcases Nat.eq_zero_or_pos s.size with h0 | h0
    · unfold markS at h; rw [dif_neg (by omega)] at h; cases h
    · exact h0
  rw [markS_pos h0] at h
  have hb : bs s = s[0] :: (bs s).drop 1 := by
    have hl : 0 < (bs s).length := by rw [size_bs]; exact h0
    have h1 := List.drop_eq_getElem_cons hl
    rw [List.drop_zero] at h1
    exact h1
  have hc : lowB s[0] = s[0] := by
    have : s[0].toNat = 36 ∨ s[0].toNat = 33 := by simpa using h
    rcases this with e | e
    · rw [show s[0] = 36 from UInt8.toNat_inj.1 e]; decide
    · rw [show s[0] = 33 from UInt8.toNat_inj.1 e]; decide
  constructor
  · intro hh c hm; exact hh c (List.mem_of_mem_drop hm)
  · intro hh c hm
    rw [hb] at hm
    rcases List.mem_cons.1 hm with rfl | hm
    · exact hc
    · exact hh c hm
theorem fit_refZ (k : Nat) (s : ByteArray) : (fitK k s && smallS s) = (match k with | 0 => smallS s && languageS s | 1 => smallS s && scriptS s | _ => if markS s then nameS (s.extract 1 s.size) else smallS s && regionS s) := by
  rcases k with _ | _ | k
  · exact Bool.and_comm _ _
  · exact Bool.and_comm _ _
  · show (placeS s && smallS s) = _
    unfold placeS
    cases hm : markS s with
    | false => simp only [Bool.false_eq_true, if_false]; exact Bool.and_comm _ _
    | true =>
      simp only [if_true]
      rw [small_markZ hm]
      unfold nameS
      generalize smallS (s.extract 1 s.size) = q
      generalize alnumS (s.extract 1 s.size) = r
      generalize decide ((s.extract 1 s.size).size ≤ 7) = p
      cases p <;> cases q <;> cases r <;> rfl
end Go.Proofs.YtaalecdokidmnaaGreatDoor

/-! ZRefP -/
namespace Go.Proofs.YtaalecdokidmnaaGreatDoor
open Go Go.RowKit

def plS (k : Nat) (s : ByteArray) : Bool := decide (s = STAR) || (fitK k s && smallS s)
set_option maxRecDepth 100000 in
theorem placeD_0 (s : ByteArray) (w : World) (hs : s.size ≤ 1000) :
  Calls Tryz.prog 35 #[.string s, .int .i64 0] w fun e w' => e = .returned (.bool (plS 0 s)) ∧ Below w.heap.size w w' := by
 have h1 : (s.toList == ({ data := #[42] } : ByteArray).toList) = decide (s = STAR) := same_bool s STAR
 have h2 : (s.toList == [42]) = decide (s = STAR) := by
  rw [show (({ data := #[42] } : ByteArray).toList) = [42] from by rw [ByteArray.toList_eq]] at h1
  exact h1
 have HR := Lib.hid (fun w5 => languageD_any s w5 (by omega))
 have HM := Lib.hid (show plS 0 s = (decide (s = STAR) || (smallS s && languageS s)) by unfold plS; exact congrArg (_ || ·) (fit_refZ _ s))
 have hB0 : Below w.heap.size w w := Below.refl _ _
 generalize decide (s = STAR) = q at *
 generalize (smallS s && languageS s) = r at *
 clear hs
 cases q with
 | true =>
  go_enter Tryz.func35, Tryz.ntmps35
  go_wp2
  go_ret
  exact ⟨ret_bool HM.out.symm, hB0⟩
 | false =>
  go_enter Tryz.func35, Tryz.ntmps35
  go_wp2_with (go_at_call 59; (with_reducible refine (HR.out _).mono ?_); rintro e w5 ⟨rfl, hb5⟩)
  go_ret
  exact ⟨ret_bool HM.out.symm, hb5⟩
set_option maxRecDepth 100000 in
theorem placeD_1 (s : ByteArray) (w : World) (hs : s.size ≤ 1000) :
  Calls Tryz.prog 35 #[.string s, .int .i64 1] w fun e w' => e = .returned (.bool (plS 1 s)) ∧ Below w.heap.size w w' := by
 have h1 : (s.toList == ({ data := #[42] } : ByteArray).toList) = decide (s = STAR) := same_bool s STAR
 have h2 : (s.toList == [42]) = decide (s = STAR) := by
  rw [show (({ data := #[42] } : ByteArray).toList) = [42] from by rw [ByteArray.toList_eq]] at h1
  exact h1
 have HR := Lib.hid (fun w5 => scriptD_any s w5 (by omega))
 have HM := Lib.hid (show plS 1 s = (decide (s = STAR) || (smallS s && scriptS s)) by unfold plS; exact congrArg (_ || ·) (fit_refZ _ s))
 have hB0 : Below w.heap.size w w := Below.refl _ _
 generalize decide (s = STAR) = q at *
 generalize (smallS s && scriptS s) = r at *
 clear hs
 cases q with
 | true =>
  go_enter Tryz.func35, Tryz.ntmps35
  go_wp2
  go_ret
  exact ⟨ret_bool HM.out.symm, hB0⟩
 | false =>
  go_enter Tryz.func35, Tryz.ntmps35
  go_wp2_with (go_at_call 60; (with_reducible refine (HR.out _).mono ?_); rintro e w5 ⟨rfl, hb5⟩)
  go_ret
  exact ⟨ret_bool HM.out.symm, hb5⟩
set_option maxRecDepth 100000 in
set_option maxHeartbeats 2000000 in
theorem placeD_2 (s : ByteArray) (w : World) (hs : s.size ≤ 1000) :
  Calls Tryz.prog 35 #[.string s, .int .i64 2] w fun e w' => e = .returned (.bool (plS 2 s)) ∧ Below w.heap.size w w' := by
 have g1 : (s.toList == ({ data := #[42] } : ByteArray).toList) = decide (s = STAR) := same_bool s STAR
 have g2 : (s.toList == [42]) = decide (s = STAR) := by
  rw [show (({ data := #[42] } : ByteArray).toList) = [42] from by rw [ByteArray.toList_eq]] at g1
  exact g1
 have HR := Lib.hid (fun w5 => regionD_any s w5 (by omega))
 have HN := Lib.hid (fun w5 => nameD_any (s.extract 1 s.size) w5 (by rw [ByteArray.size_extract]; omega))
 have HM := Lib.hid (show plS 2 s = (decide (s = STAR) || (if markS s then nameS (s.extract 1 s.size) else smallS s && regionS s)) by unfold plS; exact congrArg (_ || ·) (fit_refZ _ s))
 have hB0 : Below w.heap.size w w := Below.refl _ _
 generalize decide (s = STAR) = q at *
 cases q with
 | true =>
  clear hs
  go_enter Tryz.func35, Tryz.ntmps35
  go_wp2
  go_ret
  exact ⟨ret_bool HM.out.symm, hB0⟩
 | false =>
  by_cases h0 : s.size = 0
  ·have he := empty_true h0
   have hk : markS s = false := by unfold markS; rw [dif_neg (by omega)]
   have HM2 := Lib.hid (show plS 2 s = (smallS s && regionS s) by rw [HM.out, hk]; rfl)
   clear h0 hs hk
   go_enter Tryz.func35, Tryz.ntmps35
   go_wp2_with (go_at_call 62; (with_reducible refine (HR.out _).mono ?_); rintro e w5 ⟨rfl, hb5⟩)
   go_ret
   exact ⟨ret_bool HM2.out.symm, hb5⟩
  ·have h0' : 0 < s.size := by omega
   have he := empty_false h0'
   have h1 : (1 : Int) ≤ (s.size : Int) := by omega
   have hp := markS_pos h0'
   by_cases hc : s[0].toNat = 36
   ·have hk : markS s = true := by rw [hp, decide_eq_true hc]; rfl
    have hq : ((s[0].toNat : Int) == 36) = true := by rw [beq_iff_eq]; omega
    have HM2 := Lib.hid (show plS 2 s = nameS (s.extract 1 s.size) by rw [HM.out, hk]; rfl)
    clear h0 hs hk hp hc
    go_enter Tryz.func35, Tryz.ntmps35
    go_wp2_with (go_at_call 61; (with_reducible refine (HN.out _).mono ?_); rintro e w5 ⟨rfl, hb5⟩)
    go_ret
    exact ⟨ret_bool HM2.out.symm, hb5⟩
   ·have hq : ((s[0].toNat : Int) == 36) = false := by rw [beq_eq_false_iff_ne]; omega
    by_cases hd : s[0].toNat = 33
    ·have hk : markS s = true := by rw [hp, decide_eq_true hd, Bool.or_true]
     have hr : ((s[0].toNat : Int) == 33) = true := by rw [beq_iff_eq]; omega
     have HM2 := Lib.hid (show plS 2 s = nameS (s.extract 1 s.size) by rw [HM.out, hk]; rfl)
     clear h0 hs hk hp hc hd
     go_enter Tryz.func35, Tryz.ntmps35
     go_wp2_with (go_at_call 61; (with_reducible refine (HN.out _).mono ?_); rintro e w5 ⟨rfl, hb5⟩)
     go_ret
     exact ⟨ret_bool HM2.out.symm, hb5⟩
    ·have hk : markS s = false := by rw [hp, decide_eq_false hc, decide_eq_false hd]; rfl
     have hr : ((s[0].toNat : Int) == 33) = false := by rw [beq_eq_false_iff_ne]; omega
     have HM2 := Lib.hid (show plS 2 s = (smallS s && regionS s) by rw [HM.out, hk]; rfl)
     clear h0 hs hk hp hc hd
     go_enter Tryz.func35, Tryz.ntmps35
     go_wp2_with (go_at_call 62; (with_reducible refine (HR.out _).mono ?_); rintro e w5 ⟨rfl, hb5⟩)
     go_ret
     exact ⟨ret_bool HM2.out.symm, hb5⟩
/-! Rules. -/
def sdD (x : Rl) : Nat → ByteArray
 | 0 => x.d0
 | 1 => x.d1
 | _ => x.d2
def sdS (x : Rl) : Nat → ByteArray
 | 0 => x.s0
 | 1 => x.s1
 | _ => x.s2
def headR (x : Rl) : Bool := decide (1 ≤ x.lv) && (decide (x.lv ≤ 3) && (decide (0 ≤ x.co) && decide (x.co ≤ 100)))
def sdOk (x : Rl) (k : Nat) : Bool := sideOne x.lv k (sdD x k) && sideOne x.lv k (sdS x k)
theorem rightRl_refZ (x : Rl) : rightRl x = (headR x && (sdOk x 0 && (sdOk x 1 && sdOk x 2))) := by
 show (decide (1 ≤ x.lv) && (decide (x.lv ≤ 3) && (decide (0 ≤ x.co) && (decide (x.co ≤ 100) && ((sideOne x.lv 0 x.d0 && (sideOne x.lv 1 x.d1 && sideOne x.lv 2 x.d2)) && (sideOne x.lv 0 x.s0 && (sideOne x.lv 1 x.s1 && sideOne x.lv 2 x.s2))))))) = ((decide (1 ≤ x.lv) && (decide (x.lv ≤ 3) && (decide (0 ≤ x.co) && decide (x.co ≤ 100)))) && ((sideOne x.lv 0 x.d0 && sideOne x.lv 0 x.s0) && ((sideOne x.lv 1 x.d1 && sideOne x.lv 1 x.s1) && (sideOne x.lv 2 x.d2 && sideOne x.lv 2 x.s2))))
 rw [Bool.eq_iff_iff]
 simp only [Bool.and_eq_true]
 constructor
 ·rintro ⟨h1, h2, h3, h4, ⟨a0, a1, a2⟩, b0, b1, b2⟩
  exact ⟨⟨h1, h2, h3, h4⟩, ⟨a0, b0⟩, ⟨a1, b1⟩, a2, b2⟩
 ·rintro ⟨⟨h1, h2, h3, h4⟩, ⟨a0, b0⟩, ⟨a1, b1⟩, a2, b2⟩
  exact ⟨h1, h2, h3, h4, ⟨a0, a1, a2⟩, b0, b1, b2⟩
theorem rightRl_badZ {x : Rl} {k : Nat} (hk : k < 3) (h : sdOk x k = false) : rightRl x = false := by
 rw [rightRl_refZ]
 rcases (show k = 0 ∨ k = 1 ∨ k = 2 by omega) with rfl | rfl | rfl <;> rw [h] <;> simp
theorem rightRl_okZ {x : Rl} (h0 : headR x = true) (h : ∀ j, j < 3 → sdOk x j = true) : rightRl x = true := by
 rw [rightRl_refZ, h0, h 0 (by decide), h 1 (by decide), h 2 (by decide)]; rfl
theorem sdOk_behind {x : Rl} {k : Nat} (h : x.lv ≤ (k : Int)) : sdOk x k = (noneS (sdD x k) && noneS (sdS x k)) := by
 unfold sdOk sideOne
 rw [if_pos h, if_pos h]; rfl
theorem sdOk_ahead {x : Rl} {k : Nat} (h : ¬ x.lv ≤ (k : Int)) : sdOk x k = (plS k (sdD x k) && plS k (sdS x k)) := by
 unfold sdOk sideOne
 rw [if_neg h, if_neg h]; rfl
theorem cells9R {W : World} {B : Nat} {a b c d e f g h i : Value} {t : TypeId} (hh : W.heap[B]? = some (.cells #[a, b, c, d, e, f, g, h, i] t (0, 0))) :
  W.cell? ⟨B, 0, none⟩ = some a ∧ W.cell? ⟨B, 1, none⟩ = some b ∧ W.cell? ⟨B, 3, none⟩ = some d ∧ W.cell? ⟨B, 4, none⟩ = some e ∧ W.cell? ⟨B, 5, none⟩ = some f ∧ W.cell? ⟨B, 6, none⟩ = some g ∧ W.cell? ⟨B, 7, none⟩ = some h ∧ W.cell? ⟨B, 8, none⟩ = some i := by
 simp [World.cell?, hh]
def UpR (x : Rl) (k : Nat) : Prop := ∀ j, j < k → sdOk x j = true
theorem up_nextZ {x : Rl} {k : Nat} (h : UpR x k) (hk : sdOk x k = true) : UpR x (k + 1) := fun j hj => by
 rcases Nat.lt_or_eq_of_le (Nat.le_of_lt_succ hj) with h1 | h1
 ·exact h j h1
 ·rw [h1]; exact hk
set_option maxRecDepth 100000 in
set_option maxHeartbeats 16000000 in
theorem rightRuleD_any (x : Rl) (w : World) (hx : ∀ t ∈ rlT x, t.size ≤ 1000) :
  Calls Tryz.prog 13 #[.agg #[.int .i64 x.lv, .int .i64 x.co, .bool x.ow, .string x.d0, .string x.d1, .string x.d2, .string x.s0, .string x.s1, .string x.s2]] w fun e w' => e = .returned (.bool (rightRl x)) ∧ Below w.heap.size w w' := by
 obtain ⟨W1, hW1⟩ : ∃ W1, w.alloc (.cells #[.int .i64 x.lv, .int .i64 x.co, .bool x.ow, .string x.d0, .string x.d1, .string x.d2, .string x.s0, .string x.s1, .string x.s2] 50) = W1 := ⟨_, rfl⟩
 have hb1 : Below w.heap.size w W1 := by rw [← hW1]; exact (Below.refl _ w).alloc (Nat.le_refl _) _
 have hA : W1.heap[w.heap.size]? = some (.cells #[.int .i64 x.lv, .int .i64 x.co, .bool x.ow, .string x.d0, .string x.d1, .string x.d2, .string x.s0, .string x.s1, .string x.s2] 50 (0, 0)) := by rw [← hW1]; exact World.alloc_heap_new w _
 have HC := Lib.hid (fun w' (h : Below W1.heap.size W1 w') => cells9R ((h.block _ (lt_of_block hA)).trans hA))
 have HB := Lib.hid (fun w' (h : Below W1.heap.size W1 w') => hb1.trans (h.mono hb1.size))
 have HBAD := Lib.hid (fun k (hk : k < 3) (h : sdOk x k = false) => rightRl_badZ hk h)
 have HH : headR x = false → rightRl x = false := fun h => by rw [rightRl_refZ, h]; rfl
 have HF := Lib.hid HH
 have HP00 := onward W1 (fun w5 => placeD_0 x.d0 w5 (hx _ (by simp [rlT])))
 have hn00 := none_bool x.d0
 have HQ00 := Lib.hid hn00
 clear hn00
 have HP01 := onward W1 (fun w5 => placeD_0 x.s0 w5 (hx _ (by simp [rlT])))
 have hn01 := none_bool x.s0
 have HQ01 := Lib.hid hn01
 clear hn01
 have HP10 := onward W1 (fun w5 => placeD_1 x.d1 w5 (hx _ (by simp [rlT])))
 have hn10 := none_bool x.d1
 have HQ10 := Lib.hid hn10
 clear hn10
 have HP11 := onward W1 (fun w5 => placeD_1 x.s1 w5 (hx _ (by simp [rlT])))
 have hn11 := none_bool x.s1
 have HQ11 := Lib.hid hn11
 clear hn11
 have HP20 := onward W1 (fun w5 => placeD_2 x.d2 w5 (hx _ (by simp [rlT])))
 have hn20 := none_bool x.d2
 have HQ20 := Lib.hid hn20
 clear hn20
 have HP21 := onward W1 (fun w5 => placeD_2 x.s2 w5 (hx _ (by simp [rlT])))
 have hn21 := none_bool x.s2
 have HQ21 := Lib.hid hn21
 clear hn21
 have HW1 := Lib.hid hW1
 obtain ⟨d0, d1, d3, d4, d5, d6, d7, d8⟩ := HC.out _ (Below.refl _ _)
 clear hW1 hb1 hA hx HH
 by_cases h0 : x.lv < 1
 ·go_enter Tryz.func13, Tryz.ntmps13
  go_upto_region 1 with fail
  rw [HW1.out]
  go_wp2
  go_ret
  exact ⟨ret_bool (HF.out (by unfold headR; rw [decide_eq_false (show ¬ 1 ≤ x.lv by omega)]; simp)).symm, HB.out _ (Below.refl _ _)⟩
 ·skip
  by_cases h1 : 3 < x.lv
  ·go_enter Tryz.func13, Tryz.ntmps13
   go_upto_region 1 with fail
   rw [HW1.out]
   go_wp2
   go_ret
   exact ⟨ret_bool (HF.out (by unfold headR; rw [decide_eq_false (show ¬ x.lv ≤ 3 by omega)]; simp)).symm, HB.out _ (Below.refl _ _)⟩
  ·skip
   by_cases h2 : x.co < 0
   ·go_enter Tryz.func13, Tryz.ntmps13
    go_upto_region 1 with fail
    rw [HW1.out]
    go_wp2
    go_ret
    exact ⟨ret_bool (HF.out (by unfold headR; rw [decide_eq_false (show ¬ 0 ≤ x.co by omega)]; simp)).symm, HB.out _ (Below.refl _ _)⟩
   ·skip
    by_cases h3 : 100 < x.co
    ·go_enter Tryz.func13, Tryz.ntmps13
     go_upto_region 1 with fail
     rw [HW1.out]
     go_wp2
     go_ret
     exact ⟨ret_bool (HF.out (by unfold headR; rw [decide_eq_false (show ¬ x.co ≤ 100 by omega)]; simp)).symm, HB.out _ (Below.refl _ _)⟩
    ·skip
     have HHd := Lib.hid (show headR x = true by unfold headR; rw [decide_eq_true (show 1 ≤ x.lv by omega), decide_eq_true (show x.lv ≤ 3 by omega), decide_eq_true (show 0 ≤ x.co by omega), decide_eq_true (show x.co ≤ 100 by omega)]; rfl)
     go_enter Tryz.func13, Tryz.ntmps13
     go_upto_region 1 with fail
     rw [HW1.out]
     go_wp2_with fail
     go_loopw [3, 4, 5] (fun i _ _ wr => ∃ k : Nat, k ≤ 3 ∧ i = .int .i64 (k : Int) ∧ UpR x k ∧ Below W1.heap.size W1 wr) (fun i _ _ _ => 3 - (intOf i).toNat)
     case atStart => exact ⟨0, by decide, rfl, fun j hj => absurd hj (Nat.not_lt_zero _), Below.refl _ _⟩
     case round =>
      obtain ⟨k, hk, rfl, hu, hR⟩ := hrel
      have HU := Lib.hid hu
      clear hu d0 d1 d3 d4 d5 d6 d7 d8
      rcases (show k = 0 ∨ k = 1 ∨ k = 2 ∨ k = 3 by omega) with rfl | rfl | rfl | rfl
      ·obtain ⟨d0, d1, d3, d4, d5, d6, d7, d8⟩ := HC.out wr hR
       by_cases hge : x.lv ≤ 0
       ·exfalso; omega
       ·have hge2 : 0 < x.lv := by omega
        have HE := Lib.hid (show sdOk x 0 = (plS 0 x.d0 && plS 0 x.s0) from sdOk_ahead (k := 0) hge)
        have HX0 := HP00
        have HX1 := HP01
        clear hge
        generalize plS 0 x.d0 = p at *
        generalize plS 0 x.s0 = q at *
        cases p with
        | false =>
         go_wp2_with (first
          | (go_at_call 35; (with_reducible refine (HP00.out _ hR).mono ?_); rintro e w5 ⟨rfl, hb5⟩; obtain ⟨e0, e1, e3, e4, e5, e6, e7, e8⟩ := HC.out _ hb5)
          | (go_at_call 35; (with_reducible refine (HP01.out _ (by assumption)).mono ?_); rintro e w6 ⟨rfl, hb6⟩))
         go_ret
         exact ⟨ret_bool (HBAD.out 0 (by decide) (by rw [HE.out]; rfl)).symm, HB.out _ (by assumption)⟩
        | true =>
         cases q with
         | false =>
          go_wp2_with (first
           | (go_at_call 35; (with_reducible refine (HP00.out _ hR).mono ?_); rintro e w5 ⟨rfl, hb5⟩; obtain ⟨e0, e1, e3, e4, e5, e6, e7, e8⟩ := HC.out _ hb5)
           | (go_at_call 35; (with_reducible refine (HP01.out _ (by assumption)).mono ?_); rintro e w6 ⟨rfl, hb6⟩))
          go_ret
          exact ⟨ret_bool (HBAD.out 0 (by decide) (by rw [HE.out]; rfl)).symm, HB.out _ (by assumption)⟩
         | true =>
          go_wp2_with (first
           | (go_at_call 35; (with_reducible refine (HP00.out _ hR).mono ?_); rintro e w5 ⟨rfl, hb5⟩; obtain ⟨e0, e1, e3, e4, e5, e6, e7, e8⟩ := HC.out _ hb5)
           | (go_at_call 35; (with_reducible refine (HP01.out _ (by assumption)).mono ?_); rintro e w6 ⟨rfl, hb6⟩))
          go_roundw
          case rel => exact ⟨0 + 1, by decide, by go_num, up_nextZ HU.out (by rw [HE.out]; rfl), by assumption⟩
          case measure => simp [intOf]
      ·obtain ⟨d0, d1, d3, d4, d5, d6, d7, d8⟩ := HC.out wr hR
       by_cases hge : x.lv ≤ 1
       ·have HE := Lib.hid (show sdOk x 1 = (noneS x.d1 && noneS x.s1) from sdOk_behind (k := 1) hge)
        have hq0 := HQ10.out
        have hq1 := HQ11.out
        generalize noneS x.d1 = p at *
        generalize noneS x.s1 = q at *
        cases p with
        | false =>
         go_wp2_with fail
         go_ret
         exact ⟨ret_bool (HBAD.out 1 (by decide) (by rw [HE.out]; rfl)).symm, HB.out _ hR⟩
        | true =>
         cases q with
         | false =>
          go_wp2_with fail
          go_ret
          exact ⟨ret_bool (HBAD.out 1 (by decide) (by rw [HE.out]; rfl)).symm, HB.out _ hR⟩
         | true =>
          go_wp2_with fail
          go_roundw
          case rel => exact ⟨1 + 1, by decide, by go_num, up_nextZ HU.out (by rw [HE.out]; rfl), hR⟩
          case measure => simp [intOf]
       ·have hge2 : 1 < x.lv := by omega
        have HE := Lib.hid (show sdOk x 1 = (plS 1 x.d1 && plS 1 x.s1) from sdOk_ahead (k := 1) hge)
        have HX0 := HP10
        have HX1 := HP11
        clear hge
        generalize plS 1 x.d1 = p at *
        generalize plS 1 x.s1 = q at *
        cases p with
        | false =>
         go_wp2_with (first
          | (go_at_call 35; (with_reducible refine (HP10.out _ hR).mono ?_); rintro e w5 ⟨rfl, hb5⟩; obtain ⟨e0, e1, e3, e4, e5, e6, e7, e8⟩ := HC.out _ hb5)
          | (go_at_call 35; (with_reducible refine (HP11.out _ (by assumption)).mono ?_); rintro e w6 ⟨rfl, hb6⟩))
         go_ret
         exact ⟨ret_bool (HBAD.out 1 (by decide) (by rw [HE.out]; rfl)).symm, HB.out _ (by assumption)⟩
        | true =>
         cases q with
         | false =>
          go_wp2_with (first
           | (go_at_call 35; (with_reducible refine (HP10.out _ hR).mono ?_); rintro e w5 ⟨rfl, hb5⟩; obtain ⟨e0, e1, e3, e4, e5, e6, e7, e8⟩ := HC.out _ hb5)
           | (go_at_call 35; (with_reducible refine (HP11.out _ (by assumption)).mono ?_); rintro e w6 ⟨rfl, hb6⟩))
          go_ret
          exact ⟨ret_bool (HBAD.out 1 (by decide) (by rw [HE.out]; rfl)).symm, HB.out _ (by assumption)⟩
         | true =>
          go_wp2_with (first
           | (go_at_call 35; (with_reducible refine (HP10.out _ hR).mono ?_); rintro e w5 ⟨rfl, hb5⟩; obtain ⟨e0, e1, e3, e4, e5, e6, e7, e8⟩ := HC.out _ hb5)
           | (go_at_call 35; (with_reducible refine (HP11.out _ (by assumption)).mono ?_); rintro e w6 ⟨rfl, hb6⟩))
          go_roundw
          case rel => exact ⟨1 + 1, by decide, by go_num, up_nextZ HU.out (by rw [HE.out]; rfl), by assumption⟩
          case measure => simp [intOf]
      ·obtain ⟨d0, d1, d3, d4, d5, d6, d7, d8⟩ := HC.out wr hR
       by_cases hge : x.lv ≤ 2
       ·have HE := Lib.hid (show sdOk x 2 = (noneS x.d2 && noneS x.s2) from sdOk_behind (k := 2) hge)
        have hq0 := HQ20.out
        have hq1 := HQ21.out
        generalize noneS x.d2 = p at *
        generalize noneS x.s2 = q at *
        cases p with
        | false =>
         go_wp2_with fail
         go_ret
         exact ⟨ret_bool (HBAD.out 2 (by decide) (by rw [HE.out]; rfl)).symm, HB.out _ hR⟩
        | true =>
         cases q with
         | false =>
          go_wp2_with fail
          go_ret
          exact ⟨ret_bool (HBAD.out 2 (by decide) (by rw [HE.out]; rfl)).symm, HB.out _ hR⟩
         | true =>
          go_wp2_with fail
          go_roundw
          case rel => exact ⟨2 + 1, by decide, by go_num, up_nextZ HU.out (by rw [HE.out]; rfl), hR⟩
          case measure => simp [intOf]
       ·have hge2 : 2 < x.lv := by omega
        have HE := Lib.hid (show sdOk x 2 = (plS 2 x.d2 && plS 2 x.s2) from sdOk_ahead (k := 2) hge)
        have HX0 := HP20
        have HX1 := HP21
        clear hge
        generalize plS 2 x.d2 = p at *
        generalize plS 2 x.s2 = q at *
        cases p with
        | false =>
         go_wp2_with (first
          | (go_at_call 35; (with_reducible refine (HP20.out _ hR).mono ?_); rintro e w5 ⟨rfl, hb5⟩; obtain ⟨e0, e1, e3, e4, e5, e6, e7, e8⟩ := HC.out _ hb5)
          | (go_at_call 35; (with_reducible refine (HP21.out _ (by assumption)).mono ?_); rintro e w6 ⟨rfl, hb6⟩))
         go_ret
         exact ⟨ret_bool (HBAD.out 2 (by decide) (by rw [HE.out]; rfl)).symm, HB.out _ (by assumption)⟩
        | true =>
         cases q with
         | false =>
          go_wp2_with (first
           | (go_at_call 35; (with_reducible refine (HP20.out _ hR).mono ?_); rintro e w5 ⟨rfl, hb5⟩; obtain ⟨e0, e1, e3, e4, e5, e6, e7, e8⟩ := HC.out _ hb5)
           | (go_at_call 35; (with_reducible refine (HP21.out _ (by assumption)).mono ?_); rintro e w6 ⟨rfl, hb6⟩))
          go_ret
          exact ⟨ret_bool (HBAD.out 2 (by decide) (by rw [HE.out]; rfl)).symm, HB.out _ (by assumption)⟩
         | true =>
          go_wp2_with (first
           | (go_at_call 35; (with_reducible refine (HP20.out _ hR).mono ?_); rintro e w5 ⟨rfl, hb5⟩; obtain ⟨e0, e1, e3, e4, e5, e6, e7, e8⟩ := HC.out _ hb5)
           | (go_at_call 35; (with_reducible refine (HP21.out _ (by assumption)).mono ?_); rintro e w6 ⟨rfl, hb6⟩))
          go_roundw
          case rel => exact ⟨2 + 1, by decide, by go_num, up_nextZ HU.out (by rw [HE.out]; rfl), by assumption⟩
          case measure => simp [intOf]
      ·go_wp2_with fail
       go_ret
       exact ⟨ret_bool (rightRl_okZ HHd.out HU.out).symm, HB.out _ hR⟩
end Go.Proofs.YtaalecdokidmnaaGreatDoor

/-! OArgs -/
namespace Go.Proofs.YtaalecdokidmnaaGreatDoor
open Go.ChangeShapes Go.WideShapes Go.ChangeAt Go.RowKit

section
variable {H : Type} {enc : TypeId × Value → H} {w : World} {base : Nat} {spare : Nat → Bool} {held : Bool}
set_option maxRecDepth 100000 in
theorem trod_pairO {P : Program} {t e : TypeId} {c : Nat} {fuel : Nat} {l0 l1 : List Value} {x : DataW H × List MemPlace} (ht : P.underlying t = some (.array 2 e)) (hce : P.cellsOf e = c) (h0 : l0.length = c) (h1 : l1.length = c)
    (h : DataW.trod enc P w base spare held fuel t (l0 ++ l1) = some x) : ∃ y0 y1 n, DataW.trod enc P w base spare held n e l0 = some y0 ∧ DataW.trod enc P w base spare held n e l1 = some y1 := by
  cases fuel with
  | zero => simp [DataW.trod] at h
  | succ n =>
    unfold DataW.trod at h
    rw [ht] at h
    have r2 : List.range 2 = [0, 1] := rfl
    have e0 : ((l0 ++ l1).drop (0 * c)).take c = l0 := by rw [Nat.zero_mul, List.drop_zero, List.take_left' h0]
    have e1 : ((l0 ++ l1).drop (1 * c)).take c = l1 := by rw [Nat.one_mul, List.drop_left' h0, List.take_of_length_le (by omega)]
    simp only [r2, hce, List.mapM_cons, List.mapM_nil, e0, e1] at h
    cases hy0 : DataW.trod enc P w base spare held n e l0 with
    | none => simp [hy0] at h
    | some y0 =>
      cases hy1 : DataW.trod enc P w base spare held n e l1 with
      | none => simp [hy0, hy1] at h
      | some y1 => exact ⟨y0, y1, n, hy0, hy1⟩
set_option maxRecDepth 100000 in
theorem okWide_twoO {t e : TypeId} {r : Reach} {b0 : Nat} {v : Value} (ht : Tryz.prog.underlying t = some (.array 2 e)) (hval : Value.okWide Tryz.prog w r b0 t v) : ∃ cs, v = .agg cs ∧ cs.size = Tryz.prog.cellsOf t := by
  unfold Value.okWide at hval
  rw [ht] at hval
  obtain ⟨cs, h1, h2, _⟩ := hval
  exact ⟨cs, h1, h2⟩
set_option maxRecDepth 100000 in
theorem cellsInt2O : Tryz.prog.cellsOf 57 = 2 := by kernel_rfl
set_option maxRecDepth 100000 in
theorem open_seed12O {r : Reach} {b0 : Nat} {v : Value} {d : DataW H} {ps : List MemPlace} (hval : Value.okWide Tryz.prog w r b0 27 v) (h : DataW.Trod enc Tryz.prog w base spare held 27 v d ps) : ∃ S : Sd, v = .agg #[.int .i64 S.kind, .int .i64 S.a, .int .i64 S.b, .int .i64 S.l, .int .i64 S.s, .int .i64 S.r, .int .i64 S.odd] := by
  obtain ⟨cs, rfl, hsz⟩ := okWide_struct Tryz.underlying27 hval
  rw [cellsSeed] at hsz
  obtain ⟨fuel, hf⟩ := h
  obtain ⟨l⟩ := cs
  match l, hsz with
  | [a0, a1, a2, a3, a4, a5, a6], _ =>
    have hf' : DataW.trod enc Tryz.prog w base spare held fuel 27 [a0, a1, a2, a3, a4, a5, a6] = some (d, ps) := hf
    obtain ⟨S, e⟩ := seed12_cells hf'
    exact ⟨S, by rw [e]⟩
set_option maxRecDepth 100000 in
theorem open_ints2O {r : Reach} {b0 : Nat} {v : Value} {d : DataW H} {ps : List MemPlace} (hval : Value.okWide Tryz.prog w r b0 57 v) (h : DataW.Trod enc Tryz.prog w base spare held 57 v d ps) : ∃ p q : Int, v = .agg #[.int .i64 p, .int .i64 q] ∧ (Lit.int .i64 p).wf = true ∧ (Lit.int .i64 q).wf = true := by
  obtain ⟨cs, rfl, hsz⟩ := okWide_twoO Tryz.underlying57 hval
  rw [cellsInt2O] at hsz
  obtain ⟨fuel, hf⟩ := h
  obtain ⟨l⟩ := cs
  match l, hsz with
  | [a0, a1], _ =>
    have hf' : DataW.trod enc Tryz.prog w base spare held fuel 57 ([a0] ++ [a1]) = some (d, ps) := hf
    obtain ⟨y0, y1, n, h0, h1⟩ := trod_pairO Tryz.underlying57 cellsI rfl rfl hf'
    obtain ⟨p, e0, _, w0⟩ := DataW.trod_int Tryz.underlying3 h0
    obtain ⟨q, e1, _, w1⟩ := DataW.trod_int Tryz.underlying3 h1
    simp only [List.cons.injEq, and_true] at e0 e1
    subst e0 e1
    exact ⟨p, q, rfl, w0, w1⟩
end
set_option maxRecDepth 100000 in
theorem cellsA4O : Tryz.prog.cellsOf 46 = 4 := by kernel_rfl
set_option maxRecDepth 100000 in
theorem open_arr4O {H : Type} {enc : TypeId × Value → H} {w : World} {r : Reach} {b0 base : Nat} {sp : Nat → Bool} {held : Bool} {v : Value} {d : DataW H} {ps : List MemPlace}
    (hval : Value.okWide Tryz.prog w r b0 46 v) (hd : DataW.Trod enc Tryz.prog w base sp held 46 v d ps) :
    ∃ a b c e : Int, v = .agg #[.int .i64 a, .int .i64 b, .int .i64 c, .int .i64 e] ∧ d = .agg [.lit (.int .i64 a), .lit (.int .i64 b), .lit (.int .i64 c), .lit (.int .i64 e)] ∧ ps = [] ∧ (Lit.int .i64 a).wf = true ∧ (Lit.int .i64 b).wf = true ∧ (Lit.int .i64 c).wf = true ∧ (Lit.int .i64 e).wf = true := by
  have ht := Tryz.underlying46
  obtain ⟨cs, rfl, hsz⟩ : ∃ cs, v = .agg cs ∧ cs.size = Tryz.prog.cellsOf 46 := by
    unfold Value.okWide at hval
    rw [ht] at hval
    obtain ⟨cs, h1, h2, _⟩ := hval
    exact ⟨cs, h1, h2⟩
  rw [cellsA4O] at hsz
  obtain ⟨c0, c1, c2, c3, rfl⟩ : ∃ c0 c1 c2 c3, cs = #[c0, c1, c2, c3] := by
    obtain ⟨l⟩ := cs
    match l, hsz with
    | [c0, c1, c2, c3], _ => exact ⟨c0, c1, c2, c3, rfl⟩
  obtain ⟨fuel, hf⟩ := hd
  have hf' : DataW.trod enc Tryz.prog w base sp held fuel 46 [c0, c1, c2, c3] = some (d, ps) := hf
  obtain ⟨y0, y1, y2, y3, n, hx, h0, h1, h2, h3⟩ := trod_array4 ht cellsI hf'
  obtain ⟨a, e0, rfl, w0⟩ := DataW.trod_int Tryz.underlying3 h0
  obtain ⟨b, e1, rfl, w1⟩ := DataW.trod_int Tryz.underlying3 h1
  obtain ⟨c, e2, rfl, w2⟩ := DataW.trod_int Tryz.underlying3 h2
  obtain ⟨z, e3, rfl, w3⟩ := DataW.trod_int Tryz.underlying3 h3
  simp only [List.cons.injEq, and_true] at e0 e1 e2 e3
  subst e0 e1 e2 e3
  simp only [Prod.mk.injEq] at hx
  exact ⟨a, b, c, z, rfl, hx.1, hx.2, w0, w1, w2, w3⟩
end Go.Proofs.YtaalecdokidmnaaGreatDoor

/-! OMoreM -/
namespace Go.Proofs.YtaalecdokidmnaaGreatDoor
open Go Go.RowKit

def XXo : ByteArray := ⟨#[36, 120, 120]⟩
def txO : Nat → ByteArray
  | 0 => ⟨#[42]⟩
  | 1 => ⟨#[36, 101, 117]⟩
  | 2 => ⟨#[33, 101, 117]⟩
  | 3 => ⟨#[36, 120, 120]⟩
  | _ => ⟨#[117, 115]⟩
def d2O (lv i : Nat) : ByteArray := if 3 ≤ lv then txO i else ⟨#[]⟩
def d1O (lv : Nat) : ByteArray := if 2 ≤ lv then ⟨#[42]⟩ else ⟨#[]⟩
def rlO (lv co i j : Nat) : Rl := ⟨lv, co, false, ⟨#[42]⟩, d1O lv, d2O lv i, ⟨#[42]⟩, d1O lv, d2O lv j⟩
theorem rlO_right : ∀ lv i j : Nat, lv < 4 → i < 5 → j < 5 → ∀ co, co ≤ 100 → rightRl (rlO lv co i j) = decide (1 ≤ lv) := by
  have h : ∀ lv : Fin 4, ∀ i j : Fin 5, rightRl (rlO lv.val 0 i.val j.val) = decide (1 ≤ lv.val) := by decide +kernel
  intro lv i j hl hi hj co hc
  rw [← h ⟨lv, hl⟩ ⟨i, hi⟩ ⟨j, hj⟩]
  have e1 : decide ((0 : Int) ≤ (co : Int)) = true := decide_eq_true (by omega)
  have e2 : decide ((co : Int) ≤ 100) = true := decide_eq_true (by omega)
  show (decide (1 ≤ (lv : Int)) && (decide ((lv : Int) ≤ 3) && (decide ((0 : Int) ≤ (co : Int)) && (decide ((co : Int) ≤ 100) && _)))) = (decide (1 ≤ (lv : Int)) && (decide ((lv : Int) ≤ 3) && (decide ((0 : Int) ≤ ((0 : Nat) : Int)) && (decide (((0 : Nat) : Int) ≤ 100) && _))))
  rw [e1, e2]
  rfl
theorem rlO_small (lv co i j : Nat) (hl : lv < 4) (hi : i < 5) (hj : j < 5) (hc : co ≤ 100) : RlS (rlO lv co i j) := by
  have h : ∀ lv : Fin 4, ∀ i j : Fin 5, ∀ t ∈ rlT (rlO lv.val 0 i.val j.val), t.size ≤ 1000 := by decide +kernel
  refine ⟨wf_fewZ ⟨by show (0 : Int) ≤ (lv : Int); omega, by show (lv : Int) ≤ 1000; omega⟩, wf_fewZ ⟨by show (0 : Int) ≤ (co : Int); omega, by show (co : Int) ≤ 1000; omega⟩, ?_⟩
  exact h ⟨lv, hl⟩ ⟨i, hi⟩ ⟨j, hj⟩
/-- Members are of the set eu alone, and one there is. -/
structure EuI (im : Im) : Prop where
  all : ∀ x ∈ im.mbs, x.st = EUz
  one : ∃ x, x ∈ im.mbs
theorem eu_base {S : SeedZ} {im : Im} (h : BaseI S im) (odd : Nat) : EuI (spI im odd) := by
  obtain ⟨l, hl⟩ := h.m.hd
  have h0 : EuI im := ⟨h.m.eu, ⟨_, by rw [hl]; exact List.mem_cons_self⟩⟩
  unfold spI
  split
  · exact ⟨h0.all, h0.one⟩
  · exact ⟨h0.all, h0.one⟩
  · exact ⟨h0.all, h0.one⟩
  · refine ⟨fun x hx => ?_, ⟨_, List.mem_append_left _ h0.one.choose_spec⟩⟩
    rcases List.mem_append.1 hx with hx | hx
    · exact h0.all x hx
    · obtain rfl := List.mem_singleton.1 hx; rfl
  · exact ⟨h0.all, h0.one⟩
  · exact ⟨h0.all, h0.one⟩
  · exact ⟨h0.all, h0.one⟩
  · exact ⟨h0.all, h0.one⟩
  · exact h0
theorem setB_eu {L : List Mb} (h : ∀ x ∈ L, x.st = EUz) (h1 : ∃ x, x ∈ L) : setB L EUz = true := by
  unfold setB
  obtain ⟨x, hx⟩ := h1
  rw [List.any_eq_true]
  exact ⟨x, hx, decide_eq_true (h x hx)⟩
theorem setB_no {L : List Mb} (h : ∀ x ∈ L, x.st = EUz) {s : ByteArray} (hs : s ≠ EUz) : setB L s = false := by
  unfold setB
  rw [List.any_eq_false]
  intro x hx he
  exact hs ((of_decide_eq_true he).symm.trans (h x hx))
theorem known_tx {L : List Mb} (h : ∀ x ∈ L, x.st = EUz) (h1 : ∃ x, x ∈ L) {i : Nat} (hi : i < 5) : knownB L (txO i) = decide (txO i ≠ XXo) := by
  rcases (show i = 0 ∨ i = 1 ∨ i = 2 ∨ i = 3 ∨ i = 4 by omega) with rfl | rfl | rfl | rfl | rfl
  · rw [show knownB L (txO 0) = true from rfl]; decide +kernel
  · rw [show knownB L (txO 1) = setB L EUz from by unfold knownB; rw [show markS (txO 1) = true by decide +kernel, if_pos rfl, show (txO 1).extract 1 (txO 1).size = EUz by decide +kernel], setB_eu h h1]; decide +kernel
  · rw [show knownB L (txO 2) = setB L EUz from by unfold knownB; rw [show markS (txO 2) = true by decide +kernel, if_pos rfl, show (txO 2).extract 1 (txO 2).size = EUz by decide +kernel], setB_eu h h1]; decide +kernel
  · rw [show knownB L (txO 3) = setB L ⟨#[120, 120]⟩ from by unfold knownB; rw [show markS (txO 3) = true by decide +kernel, if_pos rfl, show (txO 3).extract 1 (txO 3).size = ⟨#[120, 120]⟩ by decide +kernel], setB_no h (by decide)]; decide +kernel
  · rw [show knownB L (txO 4) = true from rfl]; decide +kernel
theorem known_d2 {L : List Mb} (h : ∀ x ∈ L, x.st = EUz) (h1 : ∃ x, x ∈ L) {lv i : Nat} (hi : i < 5) : knownB L (d2O lv i) = decide (d2O lv i ≠ XXo) := by
  unfold d2O
  by_cases hl : 3 ≤ lv
  · rw [if_pos hl]; exact known_tx h h1 hi
  · rw [if_neg hl, show knownB L ⟨#[]⟩ = true from rfl]; decide +kernel
theorem more_enc {im : Im} {r : Rl} (h : encE im = none) (hl : im.rls.length ≤ 60) (hr : rightRl r = true) : encE { im with rls := r :: im.rls } = none := by
  obtain ⟨h1, h2, h3, h4⟩ := (encE_noneZ im).1 h
  have hc := manyB_false h1
  refine (encE_noneZ _).2 ⟨manyB_none (fun k hk => ?_), h2, fun j hj => ?_, fun j hj => ?_⟩
  · rcases four k hk with rfl | rfl | rfl | rfl
    · exact hc 0
    · exact hc 1
    · show (r :: im.rls).length ≤ 4000; rw [List.length_cons]; omega
    · exact hc 3
  · rcases four j hj with rfl | rfl | rfl | rfl
    · exact h3 0 (by decide)
    · exact h3 1 (by decide)
    · show badL rightRl (r :: im.rls) = none
      rw [badL_allZ]
      intro x hx
      rcases List.mem_cons.1 hx with rfl | hx
      · exact hr
      · exact (badL_allZ.1 (h3 2 (by decide))) x hx
    · exact h3 3 (by decide)
  · rcases four j hj with rfl | rfl | rfl | rfl
    · exact h4 0 (by decide)
    · exact h4 1 (by decide)
    · rfl
    · exact h4 3 (by decide)
theorem more_wrong {im : Im} {r : Rl} (h : chkE im = none) (hl : im.rls.length ≤ 60) (hr : rightRl r = false) : chkE { im with rls := r :: im.rls } = some (12, 0, ⟨#[114, 117, 108, 101]⟩) := by
  obtain ⟨h1, h2, h3, h4⟩ := (encE_noneZ im).1 (chkE_none.1 h).1
  have hc := manyB_false h1
  have m : manyB { im with rls := r :: im.rls } = false := manyB_none (fun k hk => by
    rcases four k hk with rfl | rfl | rfl | rfl
    · exact hc 0
    · exact hc 1
    · show (r :: im.rls).length ≤ 4000; rw [List.length_cons]; omega
    · exact hc 3)
  have b : badN { im with rls := r :: im.rls } 2 = some 0 := by
    show badL rightRl (r :: im.rls) = some 0
    unfold badL
    rw [List.findIdx?_cons, hr]
    rfl
  refine chkE_enc ?_
  rw [encE_rest m h2, wrongZ_at (k := 2) (by decide) (fun j hj => ?_) b]
  · rfl
  · rcases (show j = 0 ∨ j = 1 by omega) with rfl | rfl
    · exact h3 0 (by decide)
    · exact h3 1 (by decide)
theorem more_chk {im : Im} {r : Rl} (h : chkE im = none) (hl : im.rls.length ≤ 60) (hr : rightRl r = true) : (ruleB im.mbs r = true → chkE { im with rls := r :: im.rls } = none) ∧ (ruleB im.mbs r = false → ∃ e, chkE { im with rls := r :: im.rls } = some e) := by
  obtain ⟨he, hm⟩ := chkE_none.1 h
  have he' := more_enc (r := r) he hl hr
  constructor
  · intro hb
    refine chkE_none.2 ⟨he', fun j hj i hi => ?_⟩
    rcases four j hj with rfl | rfl | rfl | rfl
    · exact hm 0 (by decide) i hi
    · exact hm 1 (by decide) i hi
    · rcases i with _ | i
      · rw [holds_2 (x := r) rfl]; exact hb
      · obtain ⟨x, hx⟩ : ∃ x, im.rls[i]? = some x := ⟨_, List.getElem?_eq_getElem (by have : i + 1 < (r :: im.rls).length := hi; rw [List.length_cons] at this; omega)⟩
        rw [holds_2 (x := x) (by show (r :: im.rls)[i + 1]? = some x; rw [List.getElem?_cons_succ]; exact hx)]
        have := hm 2 (by decide) i (List.getElem?_eq_some_iff.1 hx).1
        rw [holds_2 hx] at this
        exact this
    · have := hm 3 (by decide) 0 (show 0 < 1 by decide)
      have : everyB im.rls = true := this
      show everyB (r :: im.rls) = true
      unfold everyB levelB at this ⊢
      rw [Bool.and_eq_true, Bool.and_eq_true] at this ⊢
      simp only [List.any_cons, this.1, this.2.1, this.2.2, Bool.or_true, and_self]
  · intro hb
    cases hc : chkE { im with rls := r :: im.rls } with
    | some e => exact ⟨e, rfl⟩
    | none =>
      have := (chkE_none.1 hc).2 2 (by decide) 0 (by show 0 < (r :: im.rls).length; rw [List.length_cons]; omega)
      rw [holds_2 (x := r) rfl] at this
      rw [show ruleB im.mbs r = true from this] at hb
      cases hb
/-- What Check tells with one rule more. -/
inductive MoreO (im : Im) (r : Rl) (lv : Nat) (d s : ByteArray) : Prop where
  | no (h0 : lv = 0) (hr : rightRl r = false) (hc : chkE { im with rls := r :: im.rls } = some (12, 0, ⟨#[114, 117, 108, 101]⟩))
  | yes (hr : rightRl r = true) (hd : d ≠ XXo) (hs : s ≠ XXo) (hc : chkE { im with rls := r :: im.rls } = none)
  | bad (hr : rightRl r = true) (hd : d = XXo ∨ s = XXo) (hc : ∃ e, chkE { im with rls := r :: im.rls } = some e)
theorem moreO {im : Im} {lv co i j : Nat} (h : chkE im = none) (he : EuI im) (hl : im.rls.length ≤ 60) (h1 : lv < 4) (hi : i < 5) (hj : j < 5) (hc : co ≤ 100) : MoreO im (rlO lv co i j) lv (d2O lv i) (d2O lv j) := by
  have hr := rlO_right lv i j h1 hi hj co hc
  by_cases h0 : lv = 0
  · have hr0 : rightRl (rlO lv co i j) = false := by rw [hr, decide_eq_false (by omega)]
    exact .no h0 hr0 (more_wrong h hl hr0)
  · have hr1 : rightRl (rlO lv co i j) = true := by rw [hr, decide_eq_true (by omega)]
    obtain ⟨g1, g2⟩ := more_chk h hl hr1
    have hb : ruleB im.mbs (rlO lv co i j) = (decide (d2O lv i ≠ XXo) && decide (d2O lv j ≠ XXo)) := by
      show (knownB im.mbs (d2O lv i) && knownB im.mbs (d2O lv j)) = _
      rw [known_d2 he.all he.one hi, known_d2 he.all he.one hj]
    by_cases hd : d2O lv i = XXo
    · exact .bad hr1 (.inl hd) (g2 (by rw [hb, decide_eq_false (fun h => h hd)]; rfl))
    · by_cases hs : d2O lv j = XXo
      · exact .bad hr1 (.inr hs) (g2 (by rw [hb, decide_eq_false (fun h : d2O lv j ≠ XXo => h hs), Bool.and_false]))
      · exact .yes hr1 hd hs (g1 (by rw [hb, decide_eq_true hd, decide_eq_true hs]; rfl))
theorem ne_xx {s : ByteArray} {b : Bool} (h : decide (s = XXo) = b) : (s.toList == ({ data := #[36, 120, 120] } : ByteArray).toList) = b ∧ (s.toList == [36, 120, 120]) = b := by
  have h1 := same_bool s XXo
  rw [h] at h1
  have h2 : (s.toList == ({ data := #[36, 120, 120] } : ByteArray).toList) = b := h1
  refine ⟨h2, ?_⟩
  rw [show (({ data := #[36, 120, 120] } : ByteArray).toList) = [36, 120, 120] from by rw [ByteArray.toList_eq]] at h2
  exact h2
end Go.Proofs.YtaalecdokidmnaaGreatDoor

/-! OMoreLaw -/
namespace Go.Proofs.YtaalecdokidmnaaGreatDoor
open Go Go.RowKit

theorem held_shellO {P : Program} {md : Region.Mode} {ops : Array Oper} {S : World → Prop} {R : World → Prop} {Q : Exit → Act → World → Prop} {n : Nat} {l : Array Bool} {a : Act} {w : World} {aF : Act} (h1 : ∀ c (a : Act) d v w, Q (.panic c) (a.put d v) w → Q (.panic c) a w) (h2 : ∀ w, R w → Q .normal aF w)
    (h3 : ∀ K : Exit → Act → World → Prop, (∀ c (a : Act) d v w, K (.panic c) (a.put d v) w → K (.panic c) a w) → (∀ w, R w → K .normal aF w) → wpAnyH P md ops K S n l a w) : wpAnyH P md ops Q S n l a w := h3 Q h1 h2
set_option maxRecDepth 100000 in
theorem rest14_any (x : Int) (n : Nat) (w : World) (hn : 1 ≤ n) (hn2 : n ≤ 1000) :
    Calls Tryz.prog 12 #[.int .i64 x, .int .i64 (n : Int)] w fun e w' => e = .returned (.int .i64 (restV x n : Int)) ∧ w' = w := by
  have HE := Lib.hid (rest_numZ x n hn hn2)
  have h0 : ((n : Int) == 0) = false := by rw [beq_eq_false_iff_ne]; omega
  have h1 : (n : Int) ≠ 0 := by omega
  clear hn hn2
  generalize hm : (n : Int) = m at *
  go_enter Tryz.func12, Tryz.ntmps12
  go_wp2
  go_ret
  exact ⟨ret_int HE.out, rfl⟩
theorem own_newsR {W : World} {b sz m c n : Nat} {ao : Option Addr} {e : TypeId} {xs : List Value} (h : W.ownsRow b e sz (.slice ao m c) n xs) : ∀ ad, ao = some ad → ∀ j u, xs[j]? = some u → W.cell? (ad.add j) = some u := fun ad ha j u hu => by
  subst ha
  rcases owned_casesW h with ⟨h1, -⟩ | ⟨g, cap, h1⟩
  · cases h1
  · injection h1 with h1 _ _
    injection h1 with h1
    subst h1
    exact h.cells rfl j u hu
theorem own_noneR {W : World} {b sz m c n : Nat} {e : TypeId} {xs : List Value} (h : W.ownsRow b e sz (.slice none m c) n xs) : m = 0 := by
  rcases owned_casesW h with ⟨h1, h0⟩ | ⟨g, cap, h1⟩
  · injection h1
  · cases h1
theorem flat_lenR (l : List Rl) : ((l.map rlC).flatMap id).length = l.length * 9 := by
  induction l with
  | nil => rfl
  | cons x l ih => rw [List.map_cons, List.flatMap_cons, List.length_append, ih, List.length_cons, Nat.succ_mul]; show 9 + _ = _; omega
/-- The image's box, and the rule's. -/
structure MrI (w wx : World) (I R b : Nat) (im : Im) (va vl vr vm : Value) (cs : Array Value) : Prop where
  i : wx.heap[I]? = some (.cells #[va, vl, vr, vm, .int .i64 im.th, .int .i64 im.de] 34 (0, 0))
  r : wx.heap[R]? = some (.cells cs 50 (0, 0))
  o : Own4 wx b im va vl vr vm
  bel : Below w.heap.size w wx
  lR : w.heap.size ≤ R
  ne : I < R
  lo : ∀ g, vr.ownBlock = some g → g < R
  lb : b ≤ R
theorem MrI.below {w wx wy : World} {I R b : Nat} {im : Im} {va vl vr vm : Value} {cs : Array Value} (h : MrI w wx I R b im va vl vr vm cs) (hb : Below wx.heap.size wx wy) : MrI w wy I R b im va vl vr vm cs :=
  { h with i := (hb.block _ (lt_of_block h.i)).trans h.i, r := (hb.block _ (lt_of_block h.r)).trans h.r, o := h.o.below hb, bel := h.bel.trans (hb.mono h.bel.size) }
theorem MrI.set {w wx : World} {I R b : Nat} {im : Im} {va vl vr vm : Value} {cs : Array Value} (h : MrI w wx I R b im va vl vr vm cs) (k : Nat) (v : Value) : MrI w (wx.setCell ⟨R, k, none⟩ v) I R b im va vl vr vm (cs.setIfInBounds k v) := by
  have hne := h.ne
  have hr : vr.ownBlock = none ∨ vr.ownBlock ≠ some R := by
    cases hv : vr.ownBlock with
    | none => exact .inl rfl
    | some g => exact .inr fun e => by have := h.lo g hv; injection e with e; omega
  exact { h with
    i := (heap_setCellZ (by omega)).trans h.i
    r := setY h.r v
    o := ⟨h.o.a.kept (gr_setZ gr_reflZ k v) (own_imgZ h.o.a h.r (by decide)), h.o.l.kept (gr_setZ gr_reflZ k v) (own_imgZ h.o.l h.r (by decide)), h.o.r.kept (gr_setZ gr_reflZ k v) hr, h.o.m.kept (gr_setZ gr_reflZ k v) (own_imgZ h.o.m h.r (by decide)), h.o.s⟩
    bel := h.bel.setCell (p := ⟨R, k, none⟩) h.lR v }
theorem Own4.frontO {W w7 : World} {b b' n3 : Nat} {im : Im} {va vl vr vm v' : Value} {r : Rl} {cs : Array Value} (h : Own4 W b im va vl vr vm) (hg : (W.alloc (.cells cs 50)).grownBy w7 (some W.heap.size)) (h1 : w7.ownsRow b' 50 9 v' (1 + n3) (rlC r ++ (im.rls.map rlC).flatMap id)) (hn : n3 = im.rls.length) (hb : b ≤ b') (hr : RlS r) : Own4 w7 b { im with rls := r :: im.rls } va vl v' vm := by
  subst hn
  refine { a := (h.a.alloc _).kept hg (own_topZ h.a), l := (h.l.alloc _).kept hg (own_topZ h.l), m := (h.m.alloc _).kept hg (own_topZ h.m), r := own_lowW ?_ hb, s := { h.s with rls := fun x hm => ?_ } }
  · show w7.ownsRow b' 50 9 v' (im.rls.length + 1) (rlC r ++ (im.rls.map rlC).flatMap id)
    rw [Nat.add_comm im.rls.length 1]
    exact h1
  · rcases List.mem_cons.1 hm with rfl | hm
    · exact hr
    · exact h.s.rls x hm
set_option maxRecDepth 1000000 in
set_option maxHeartbeats 16000000 in
theorem checkMore_law (S : SeedZ) (va0 vl0 vr0 vm0 : Value) (q0 q1 q2 q3 : Int) (w : World) (hS : SdR w va0 vl0 vr0 vm0 S) (hL : TypeLaid w ∧ GL w) :
    Calls Tryz.prog 5 #[.agg #[va0, vl0, vr0, vm0, .int .i64 S.th, .int .i64 S.de, .int .i64 S.odd], .agg #[.int .i64 q0, .int .i64 q1, .int .i64 q2, .int .i64 q3]] w fun e w' => e = .returned (.bool true) ∧ Below w.heap.size w w' := by
  obtain ⟨hT, hg⟩ := hL
  obtain ⟨W0, hW0⟩ : ∃ W0, w.alloc (.cells #[va0, vl0, vr0, vm0, .int .i64 S.th, .int .i64 S.de, .int .i64 S.odd] 25) = W0 := ⟨_, rfl⟩
  obtain ⟨W1, hW1⟩ : ∃ W1, W0.alloc (.cells #[.int .i64 q0, .int .i64 q1, .int .i64 q2, .int .i64 q3] 46) = W1 := ⟨_, rfl⟩
  have hs0 : W0.heap.size = w.heap.size + 1 := by rw [← hW0]; simp
  have hb0 : Below w.heap.size w W0 := by rw [← hW0]; exact (Below.refl _ w).alloc (Nat.le_refl _) _
  have hb1 : Below w.heap.size w W1 := by rw [← hW1]; exact hb0.alloc hb0.size _
  have hA : W1.heap[w.heap.size]? = some (.cells #[va0, vl0, vr0, vm0, .int .i64 S.th, .int .i64 S.de, .int .i64 S.odd] 25 (0, 0)) := by rw [← hW1]; refine (Below.heap_alloc _ _ _ (by omega)).trans ?_; rw [← hW0]; exact World.alloc_heap_new w _
  have hD : W1.heap[w.heap.size + 1]? = some (.cells #[.int .i64 q0, .int .i64 q1, .int .i64 q2, .int .i64 q3] 46 (0, 0)) := by rw [← hW1, ← hs0]; exact World.alloc_heap_new W0 _
  have H7 := Lib.hid (fun w' (h : Below W1.heap.size W1 w') => cells7 ((h.block _ (lt_of_block hA)).trans hA))
  have HQ1 := Lib.hid (fun w' (h : Below W1.heap.size W1 w') => show w'.cell? ⟨w.heap.size + 1, 0, none⟩ = some (.int .i64 q0) ∧ w'.cell? ⟨w.heap.size + 1, 1, none⟩ = some (.int .i64 q1) ∧ w'.cell? ⟨w.heap.size + 1, 2, none⟩ = some (.int .i64 q2) ∧ w'.cell? ⟨w.heap.size + 1, 3, none⟩ = some (.int .i64 q3) from ⟨cellAtY ((h.block _ (lt_of_block hD)).trans hD) 0 _ rfl, cellAtY ((h.block _ (lt_of_block hD)).trans hD) 1 _ rfl, cellAtY ((h.block _ (lt_of_block hD)).trans hD) 2 _ rfl, cellAtY ((h.block _ (lt_of_block hD)).trans hD) 3 _ rfl⟩)
  have HAW := Lib.hid (awake14_any W1 (hT.below hb1 hT.size) (hg.below hb1 hg.size))
  have HMD := Lib.hid (fun w' (h : Below W1.heap.size W1 w') => made13_any S va0 vl0 vr0 vm0 w' (hS.below (hb1.trans (h.mono hb1.size))))
  have HGL := Lib.hid (fun w' (h : Below w.heap.size w w') => hg.below h hg.size)
  have HTL := Lib.hid (fun w' (h : Below w.heap.size w w') => hT.below h hT.size)
  have HR0 := Lib.hid (fun w' => show Calls Tryz.prog 12 #[.int .i64 q0, .int .i64 4] w' (fun e w'' => e = .returned (.int .i64 (restV q0 4 : Int)) ∧ w'' = w') from rest14_any q0 4 w' (by decide) (by decide))
  have HR1 := Lib.hid (fun w' => show Calls Tryz.prog 12 #[.int .i64 q1, .int .i64 101] w' (fun e w'' => e = .returned (.int .i64 (restV q1 101 : Int)) ∧ w'' = w') from rest14_any q1 101 w' (by decide) (by decide))
  have HR2 := Lib.hid (fun w' => show Calls Tryz.prog 12 #[.int .i64 q2, .int .i64 5] w' (fun e w'' => e = .returned (.int .i64 (restV q2 5 : Int)) ∧ w'' = w') from rest14_any q2 5 w' (by decide) (by decide))
  have HR3 := Lib.hid (fun w' => show Calls Tryz.prog 12 #[.int .i64 q3, .int .i64 5] w' (fun e w'' => e = .returned (.int .i64 (restV q3 5 : Int)) ∧ w'' = w') from rest14_any q3 5 w' (by decide) (by decide))
  have hlv := restV_lt q0 4 (by decide)
  have hco := restV_lt q1 101 (by decide)
  have hi5 := restV_lt q2 5 (by decide)
  have hj5 := restV_lt q3 5 (by decide)
  generalize restV q0 4 = lv at *
  generalize restV q1 101 = co at *
  generalize restV q2 5 = i at *
  generalize restV q3 5 = j at *
  have HB1 := Lib.hid hb1
  have HW0 := Lib.hid hW0
  have HW1 := Lib.hid hW1
  have HS0 := Lib.hid hs0
  clear hW0 hW1 hs0 hb0 hA hD hb1 hS hg hT
  go_enter Tryz.func5, Tryz.ntmps5
  go_upto_region 1 with fail
  try rw [HW0.out]
  try rw [HW1.out]
  try rw [HS0.out]
  go_upto_region 2 with (go_at_call 7; (with_reducible refine HAW.out.mono ?_); rintro e w2 ⟨rfl, hb2⟩)
  obtain ⟨d0, d1, d2, d3, d4, d5, d6⟩ := H7.out _ hb2
  have HM2 := Lib.hid (HMD.out _ hb2)
  have HB2 := Lib.hid hb2
  clear hb2
  go_upto_region 3 with (go_at_call 8; (with_reducible refine HM2.out.mono ?_); intro e w5 hE; unfold MdE ImO at hE; obtain ⟨im0, hBI, va, vl, vr, vm, rfl, hO5, hb5⟩ := hE; obtain ⟨a1, c1, a2, c2, a3, c3, a4, c4, h1, h2, h3, h4⟩ := hO5.rows.slices; subst h1 h2 h3 h4)
  have hFW := hBI.few (restV S.odd 12)
  have hEU := eu_base hBI (restV S.odd 12)
  generalize spI im0 (restV S.odd 12) = im at *
  obtain ⟨wr, hW6⟩ : ∃ W6, w5.alloc (.cells #[.slice a1 (cntN im 0) c1, .slice a2 (cntN im 1) c2, .slice a3 (cntN im 2) c3, .slice a4 (cntN im 3) c4, .int .i64 im.th, .int .i64 im.de] 34) = W6 := ⟨_, rfl⟩
  have hI6 : wr.heap[w5.heap.size]? = some (.cells #[.slice a1 (cntN im 0) c1, .slice a2 (cntN im 1) c2, .slice a3 (cntN im 2) c3, .slice a4 (cntN im 3) c4, .int .i64 im.th, .int .i64 im.de] 34 (0, 0)) := by rw [← hW6]; exact World.alloc_heap_new _ _
  have hb6 : Below w5.heap.size w5 wr := by rw [← hW6]; exact (Below.refl _ _).alloc (Nat.le_refl _) _
  have hB56 : Below W1.heap.size W1 wr := (HB2.out.trans (hb5.mono HB2.out.size)).trans (hb6.mono (Nat.le_trans HB2.out.size hb5.size))
  have hz : w2.heap.size ≤ wr.heap.size := Nat.le_trans hb5.size hb6.size
  have hO6 := hO5.below hb6
  have hBw : Below w.heap.size w wr := HB1.out.trans (hB56.mono HB1.out.size)
  have HC6 := Lib.hid (chkO_any a1 a2 a3 a4 c1 c2 c3 c4 im wr hO6.rows hO6.s (HGL.out _ hBw))
  rw [hW6]
  clear hW6 hb6 hO5 hBI d0 d1 d2 d3 d4 d5 d6 HM2 HMD HAW hb5 HB2 H7 HB1
  generalize w5.heap.size = nI at *
  generalize w2.heap.size = b at *
  obtain ⟨x0, x1, x2, x3, x4, x5⟩ := cells6 hI6
  have HI6 := Lib.hid hI6
  have HO6 := Lib.hid hO6
  have HBw := Lib.hid hBw
  have HB56 := Lib.hid hB56
  have HFW := Lib.hid hFW
  have HEU := Lib.hid hEU
  have HZ := Lib.hid hz
  clear hI6 hO6 hBw hB56 hFW hEU hz
  cases hc : chkE im with
  | some z =>
    obtain ⟨zk, zp, zs⟩ := z
    rw [hc] at HC6
    clear hc
    go_wp2_with (go_at_call 10; (with_reducible refine HC6.out.mono ?_); rintro e w6 ⟨v5, rfl, hz5, hb5⟩; obtain ⟨q5, rfl, hq5⟩ : FaultZ w6 v5 zk zp zs := hz5)
    go_ret
    exact ⟨rfl, HBw.out.trans (hb5.mono HBw.out.size)⟩
  | none =>
    rw [hc] at HC6
    have HMO := Lib.hid (moreO (lv := lv) (co := co) (i := i) (j := j) hc HEU.out HFW.out.r hlv hi5 hj5 (by omega))
    clear hc
    go_upto_region 5 with (go_at_call 10; (with_reducible refine HC6.out.mono ?_); rintro e wq ⟨v5, rfl, hz5, hbq⟩; obtain rfl : v5 = .nilIface := hz5)
    have HBq := Lib.hid hbq
    have hbq1 := HB56.out.trans (hbq.mono HB56.out.size)
    have HQ := Lib.hid (fun w' (h : Below wq.heap.size wq w') => HQ1.out w' (hbq1.trans (h.mono hbq1.size)))
    obtain ⟨BQ, hBQ⟩ : ∃ B, w.heap.size + 1 = B := ⟨_, rfl⟩
    rw [hBQ] at HQ ⊢
    have HC := Lib.hid (fun w' (h : Below wq.heap.size wq w') => show Below wq.heap.size wq w' ∧ w'.cell? ⟨BQ, 0, none⟩ = some (.int .i64 q0) ∧ w'.cell? ⟨BQ, 1, none⟩ = some (.int .i64 q1) from ⟨h, (HQ.out w' h).1, (HQ.out w' h).2.1⟩)
    have HIq := Lib.hid ((hbq.block _ (lt_of_block HI6.out)).trans HI6.out)
    have HOq := Lib.hid (HO6.out.below hbq)
    have HBwq := Lib.hid (HBw.out.trans (hbq.mono HBw.out.size))
    have hlo : ∀ g, (Value.slice a3 (cntN im 2) c3).ownBlock = some g → g < wq.heap.size := fun g e => (HOq.out.r.lt g e).2
    have HLO := Lib.hid hlo
    have HZq := Lib.hid (Nat.le_trans HZ.out hbq.size)
    clear x0 x1 x2 x3 x4 x5 hbq hbq1 hBQ hlo HQ1 HI6 HO6 HBw HB56 HC6 HBq HZ
    refine wp_region_held_drew (S := fun w' => Below wq.heap.size wq w' ∧ w'.cell? ⟨BQ, 0, none⟩ = some (.int .i64 q0) ∧ w'.cell? ⟨BQ, 1, none⟩ = some (.int .i64 q1)) (by kernel_rfl) (HC.out _ (Below.drew (Below.refl _ _))) (fun hHeld => ?_)
    apply held_shellO (R := fun w' => Below wq.heap.size wq w' ∧ w'.heap[wq.heap.size]? = some (.cells #[.int .i64 (lv : Int), .int .i64 (co : Int), .bool false, .string { data := #[] }, .string { data := #[] }, .string { data := #[] }, .string { data := #[] }, .string { data := #[] }, .string { data := #[] }] 50 (0, 0)))
    exact fun _ _ d _ _ h => by cases d <;> exact h
    rotate_left 1
    · intro KK hKp hfin
      refine wpAnyH_take (i := 0) (v := .pointer (some ⟨BQ, 0, none⟩)) rfl (by kernel_rfl) (by kernel_rfl) (by kernel_rfl) (fun c a w h => hKp c a _ _ w h) (Or.inl ⟨by kernel_rfl, fun w hSw => by dsimp only at hSw; obtain ⟨-, g0, g1⟩ := hSw; go_simp⟩) (by assumption) ?_
      simp only [Act.put, List.getElem_toArray, List.getElem_cons_zero, List.setIfInBounds_toArray, List.set_cons_zero, List.set_cons_succ]
      refine wpAnyH_take (i := 1) (v := .int .i64 q0) rfl (by kernel_rfl) (by kernel_rfl) (by kernel_rfl) (fun c a w h => hKp c a _ _ w h) (Or.inl ⟨by kernel_rfl, fun w hSw => by dsimp only at hSw; obtain ⟨-, g0, g1⟩ := hSw; go_simp⟩) (by assumption) ?_
      simp only [Act.put, List.getElem_toArray, List.getElem_cons_zero, List.getElem_cons_succ, List.setIfInBounds_toArray, List.set_cons_zero, List.set_cons_succ]
      refine wpAnyH_take (i := 3) (v := .pointer (some ⟨BQ, 1, none⟩)) rfl (by kernel_rfl) (by kernel_rfl) (by kernel_rfl) (fun c a w h => hKp c a _ _ w h) (Or.inl ⟨by kernel_rfl, fun w hSw => by dsimp only at hSw; obtain ⟨-, g0, g1⟩ := hSw; go_simp⟩) (by assumption) ?_
      simp only [Act.put, List.getElem_toArray, List.getElem_cons_zero, List.getElem_cons_succ, List.setIfInBounds_toArray, List.set_cons_zero, List.set_cons_succ]
      refine wpAnyH_take (i := 4) (v := .int .i64 q1) rfl (by kernel_rfl) (by kernel_rfl) (by kernel_rfl) (fun c a w h => hKp c a _ _ w h) (Or.inl ⟨by kernel_rfl, fun w hSw => by dsimp only at hSw; obtain ⟨-, g0, g1⟩ := hSw; go_simp⟩) (by assumption) ?_
      simp only [Act.put, List.getElem_toArray, List.getElem_cons_zero, List.getElem_cons_succ, List.setIfInBounds_toArray, List.set_cons_zero, List.set_cons_succ]
      refine wpAnyH_ready (rs := [2, 7]) (by kernel_rfl) (by simp) ?_
      refine AllReadyH.cons rfl (fun Kx hKx => ?_) (AllReadyH.cons rfl (fun Kx hKx => ?_) AllReadyH.nil)
      focus ((try rw [if_pos (by kernel_rfl)]); go_simp; refine (HR0.out _).mono ?_; rintro e w5 ⟨rfl, rfl⟩; refine hKx.out _ _ (HC.out _ (Below.drew (Below.refl _ _))) (fun hHeld => ?_); clear hKx Kx; (try simp only [Act.put, List.getElem_toArray, List.getElem_cons_zero, List.getElem_cons_succ, List.setIfInBounds_toArray, List.set_cons_zero, List.set_cons_succ]))
      rotate_left 1
      focus ((try rw [if_pos (by kernel_rfl)]); go_simp; refine hKx.out _ _ (HC.out _ ((Below.drew (Below.refl _ _)).alloc (Nat.le_refl _) _)) (fun hHeld => ?_); clear hKx Kx; (try simp only [Act.put, List.getElem_toArray, List.getElem_cons_zero, List.getElem_cons_succ, List.setIfInBounds_toArray, List.set_cons_zero, List.set_cons_succ]))
      all_goals try (refine wpAnyH_ready (rs := [2]) (by kernel_rfl) (by simp) ?_; refine AllReadyH.cons rfl (fun Kx hKx => ?_) AllReadyH.nil; (try rw [if_pos (by kernel_rfl)]); go_simp; refine (HR0.out _).mono ?_; rintro e w5 ⟨rfl, rfl⟩; refine hKx.out _ _ (HC.out _ ((Below.drew (Below.refl _ _)).alloc (Nat.le_refl _) _)) (fun hHeld => ?_); clear hKx Kx; (try simp only [Act.put, List.getElem_toArray, List.getElem_cons_zero, List.getElem_cons_succ, List.setIfInBounds_toArray, List.set_cons_zero, List.set_cons_succ]))
      rotate_right 1
      refine wpAnyH_ready (rs := [5, 7]) (by kernel_rfl) (by simp) ?_
      refine AllReadyH.cons rfl (fun Kx hKx => ?_) (AllReadyH.cons rfl (fun Kx hKx => ?_) AllReadyH.nil)
      focus ((try rw [if_pos (by kernel_rfl)]); go_simp; refine (HR1.out _).mono ?_; rintro e w5 ⟨rfl, rfl⟩; refine hKx.out _ _ (HC.out _ (Below.drew (Below.refl _ _))) (fun hHeld => ?_); clear hKx Kx; (try simp only [Act.put, List.getElem_toArray, List.getElem_cons_zero, List.getElem_cons_succ, List.setIfInBounds_toArray, List.set_cons_zero, List.set_cons_succ]))
      rotate_left 1
      focus ((try rw [if_pos (by kernel_rfl)]); go_simp; refine hKx.out _ _ (HC.out _ ((Below.drew (Below.refl _ _)).alloc (Nat.le_refl _) _)) (fun hHeld => ?_); clear hKx Kx; (try simp only [Act.put, List.getElem_toArray, List.getElem_cons_zero, List.getElem_cons_succ, List.setIfInBounds_toArray, List.set_cons_zero, List.set_cons_succ]))
      all_goals try (refine wpAnyH_ready (rs := [5]) (by kernel_rfl) (by simp) ?_; refine AllReadyH.cons rfl (fun Kx hKx => ?_) AllReadyH.nil; (try rw [if_pos (by kernel_rfl)]); go_simp; refine (HR1.out _).mono ?_; rintro e w5 ⟨rfl, rfl⟩; refine hKx.out _ _ (HC.out _ ((Below.drew (Below.refl _ _)).alloc (Nat.le_refl _) _)) (fun hHeld => ?_); clear hKx Kx; (try simp only [Act.put, List.getElem_toArray, List.getElem_cons_zero, List.getElem_cons_succ, List.setIfInBounds_toArray, List.set_cons_zero, List.set_cons_succ]))
      rotate_right 1
      all_goals (refine wpAnyH_take (i := 6) (v := .agg #[.int .i64 (lv : Int), .int .i64 (co : Int), .bool false, .string { data := #[] }, .string { data := #[] }, .string { data := #[] }, .string { data := #[] }, .string { data := #[] }, .string { data := #[] }]) rfl (by kernel_rfl) (by kernel_rfl) (by kernel_rfl) (fun c a w h => hKp c a _ _ w h) (Or.inl ⟨by kernel_rfl, fun w hSw => by go_simp⟩) (by assumption) ?_; simp only [Act.put, List.getElem_toArray, List.getElem_cons_zero, List.getElem_cons_succ, List.setIfInBounds_toArray, List.set_cons_zero, List.set_cons_succ])
      refine wpAnyH_ready (rs := [7]) (by kernel_rfl) (by simp) ?_
      refine AllReadyH.cons rfl (fun Kx hKx => ?_) AllReadyH.nil
      focus ((try rw [if_pos (by kernel_rfl)]); go_simp; refine hKx.out _ _ (HC.out _ ((Below.drew (Below.refl _ _)).alloc (Nat.le_refl _) _)) (fun hHeld => ?_); clear hKx Kx; (try simp only [Act.put, List.getElem_toArray, List.getElem_cons_zero, List.getElem_cons_succ, List.setIfInBounds_toArray, List.set_cons_zero, List.set_cons_succ]))
      all_goals (refine wpAnyH_ready (rs := [8]) (by kernel_rfl) (by simp) ?_; refine AllReadyH.cons rfl (fun Kx hKx => ?_) AllReadyH.nil; (try rw [if_pos (by kernel_rfl)]); go_simp; refine hKx.out _ _ (HC.out _ ((Below.drew (Below.refl _ _)).alloc (Nat.le_refl _) _)) (fun hHeld => ?_); clear hKx Kx; (try simp only [Act.put, List.getElem_toArray, List.getElem_cons_zero, List.getElem_cons_succ, List.setIfInBounds_toArray, List.set_cons_zero, List.set_cons_succ]); refine wpAnyH_done (by kernel_rfl) ?_ _; exact hfin _ ⟨hHeld.1, World.alloc_heap_new _ _⟩)
    rintro w6 ⟨hb6, hR6⟩
    have hM6 : MrI w w6 nI wq.heap.size b im (.slice a1 (cntN im 0) c1) (.slice a2 (cntN im 1) c2) (.slice a3 (cntN im 2) c3) (.slice a4 (cntN im 3) c4) #[.int .i64 (lv : Int), .int .i64 (co : Int), .bool false, .string { data := #[] }, .string { data := #[] }, .string { data := #[] }, .string { data := #[] }, .string { data := #[] }, .string { data := #[] }] := ⟨(hb6.block _ (lt_of_block HIq.out)).trans HIq.out, hR6, HOq.out.below hb6, HBwq.out.trans (hb6.mono HBwq.out.size), HBwq.out.size, lt_of_block HIq.out, HLO.out, HZq.out⟩
    have HQ6 := Lib.hid (fun w' (h : Below w6.heap.size w6 w') => HQ.out w' (hb6.trans (h.mono hb6.size)))
    have hqR : BQ < wq.heap.size := lt_cellZ (HQ.out _ (Below.refl _ _)).1
    clear HC HIq HOq HBwq HLO HZq HR0 HR1 hR6 hb6 HQ
    generalize wq.heap.size = R at *
    go_upto_region 7 with fail
    obtain ⟨V6, hV6⟩ : ∃ V, w6.alloc (.cells #[.string { data := #[42] }, .string { data := #[36, 101, 117] }, .string { data := #[33, 101, 117] }, .string { data := #[36, 120, 120] }, .string { data := #[117, 115] }] 51) = V := ⟨_, rfl⟩
    have hbV : Below w6.heap.size w6 V6 := by rw [← hV6]; exact (Below.refl _ _).alloc (Nat.le_refl _) _
    have hL6 : V6.heap[w6.heap.size]? = some (.cells #[.string { data := #[42] }, .string { data := #[36, 101, 117] }, .string { data := #[33, 101, 117] }, .string { data := #[36, 120, 120] }, .string { data := #[117, 115] }] 51 (0, 0)) := by rw [← hV6]; exact World.alloc_heap_new _ _
    have hM7 := hM6.below hbV
    have hneL : w6.heap.size ≠ R := by have := lt_of_block hM6.r; omega
    have hQV := HQ6.out _ hbV
    rw [hV6]
    clear hV6 hM6 hbV HQ6
    generalize w6.heap.size = L6 at *
    have HTX := Lib.hid (fun (W : World) (h : W.heap[L6]? = V6.heap[L6]?) (k : Nat) (hk : k < 5) => show W.cell? ⟨L6, k, none⟩ = some (.string (txO k)) from by
      have h5 := h.trans hL6
      rcases (show k = 0 ∨ k = 1 ∨ k = 2 ∨ k = 3 ∨ k = 4 by omega) with rfl | rfl | rfl | rfl | rfl
      · exact cellAtY h5 0 _ rfl
      · exact cellAtY h5 1 _ rfl
      · exact cellAtY h5 2 _ rfl
      · exact cellAtY h5 3 _ rfl
      · exact cellAtY h5 4 _ rfl)
    obtain ⟨r0, r1, r2, r3, r4, r5, r6, r7, r8⟩ := cells9Z hM7.r
    have f3 := frozenY hM7.r 3
    have f4 := frozenY hM7.r 4
    have f5 := frozenY hM7.r 5
    obtain ⟨-, -, qc2, qc3⟩ := hQV
    have tI := HTX.out V6 rfl i hi5
    have hi0 : (0 : Int) ≤ (i : Int) := by omega
    have hi1 : (i : Int) < 5 := by omega
    have hj0 : (0 : Int) ≤ (j : Int) := by omega
    have hj1 : (j : Int) < 5 := by omega
    have hM8 := ((hM7.set 3 (.string { data := #[42] })).set 4 (.string { data := #[42] })).set 5 (.string (txO i))
    have hh8 : ∀ k, k ≠ R → (((V6.setCell ⟨R, 3, none⟩ (.string { data := #[42] })).setCell ⟨R, 4, none⟩ (.string { data := #[42] })).setCell ⟨R, 5, none⟩ (.string (txO i))).heap[k]? = V6.heap[k]? := fun k hk => (heap_setCellZ hk).trans ((heap_setCellZ hk).trans (heap_setCellZ hk))
    have HM8 := Lib.hid hM8
    have HH8 := Lib.hid hh8
    have q8 : (((V6.setCell ⟨R, 3, none⟩ (.string { data := #[42] })).setCell ⟨R, 4, none⟩ (.string { data := #[42] })).setCell ⟨R, 5, none⟩ (.string (txO i))).cell? ⟨BQ, 3, none⟩ = some (.int .i64 q3) := (World.cell?_of_block (hh8 BQ (by omega))).trans qc3
    have Q8 := Lib.hid q8
    have HNL := Lib.hid hneL
    have HQR := Lib.hid hqR
    clear hM7 hL6 hM8 hh8 q8 hneL hqR
    go_upto_region 8 with (go_at_call 12; (with_reducible refine (HR2.out _).mono ?_); rintro e w7 ⟨rfl, hw7⟩; obtain rfl : V6 = w7 := hw7.symm)
    clear r0 r1 r2 r3 r4 r5 r6 r7 r8 f3 f4 f5 tI qc2 qc3
    have tJ := HTX.out _ (HH8.out L6 HNL.out) j hj5
    have qc3 := Q8.out
    clear HTX HH8 Q8
    generalize (((V6.setCell ⟨R, 3, none⟩ (.string { data := #[42] })).setCell ⟨R, 4, none⟩ (.string { data := #[42] })).setCell ⟨R, 5, none⟩ (.string (txO i))) = V8 at *
    obtain ⟨r0, r1, r2, r3, r4, r5, r6, r7, r8⟩ := cells9Z (show V8.heap[R]? = some (.cells #[.int .i64 (lv : Int), .int .i64 (co : Int), .bool false, .string { data := #[42] }, .string { data := #[42] }, .string (txO i), .string { data := #[] }, .string { data := #[] }, .string { data := #[] }] 50 (0, 0)) from HM8.out.r)
    have f3 := frozenY HM8.out.r 6
    have f4 := frozenY HM8.out.r 7
    have f5 := frozenY HM8.out.r 8
    have HM9 := Lib.hid (((HM8.out.set 6 (.string { data := #[42] })).set 7 (.string { data := #[42] })).set 8 (.string (txO j)))
    clear HM8
    go_upto_if 43 with (go_at_call 12; (with_reducible refine (HR3.out _).mono ?_); rintro e w7 ⟨rfl, hw7⟩; obtain rfl : V8 = w7 := hw7.symm)
    clear r0 r1 r2 r3 r4 r5 r6 r7 r8 f3 f4 f5 tJ qc3
    generalize (((V8.setCell ⟨R, 6, none⟩ (.string { data := #[42] })).setCell ⟨R, 7, none⟩ (.string { data := #[42] })).setCell ⟨R, 8, none⟩ (.string (txO j))) = V9 at *
    have hM9 : MrI w V9 nI R b im (.slice a1 (cntN im 0) c1) (.slice a2 (cntN im 1) c2) (.slice a3 (cntN im 2) c3) (.slice a4 (cntN im 3) c4) #[.int .i64 (lv : Int), .int .i64 (co : Int), .bool false, .string { data := #[42] }, .string { data := #[42] }, .string (txO i), .string { data := #[42] }, .string { data := #[42] }, .string (txO j)] := HM9.out
    clear HM9
    obtain ⟨r0, r1, r2, r3, r4, r5, r6, r7, r8⟩ := cells9Z hM9.r
    have HM9 := Lib.hid hM9
    have f5 := frozenY hM9.r 5
    have f8 := frozenY hM9.r 8
    have HM9c := Lib.hid ((hM9.set 5 (.string { data := #[] })).set 8 (.string { data := #[] }))
    clear hM9
    go_cut [43] from 43 to 47 (fun _ wx => MrI w wx nI R b im (.slice a1 (cntN im 0) c1) (.slice a2 (cntN im 1) c2) (.slice a3 (cntN im 2) c3) (.slice a4 (cntN im 3) c4) #[.int .i64 (lv : Int), .int .i64 (co : Int), .bool false, .string { data := #[42] }, .string { data := #[42] }, .string (d2O lv i), .string { data := #[42] }, .string { data := #[42] }, .string (d2O lv j)])
    case first =>
      by_cases hl3 : 3 ≤ lv
      · have hl3' : ¬ (lv : Int) < 3 := by omega
        go_wp2_with fail
        go_meet
        case rel => rw [show d2O lv i = txO i by unfold d2O; rw [if_pos hl3], show d2O lv j = txO j by unfold d2O; rw [if_pos hl3]]; exact HM9.out
      · have hl3' : (lv : Int) < 3 := by omega
        go_wp2_with fail
        go_meet
        case rel => rw [show d2O lv i = ⟨#[]⟩ by unfold d2O; rw [if_neg hl3], show d2O lv j = ⟨#[]⟩ by unfold d2O; rw [if_neg hl3]]; exact HM9c.out
    case rest =>
    have hM9 := hcut
    obtain ⟨wo, rfl⟩ : ∃ x, x = wc := ⟨_, rfl⟩
    clear hcut r0 r1 r2 r3 r4 r5 r6 r7 r8 f5 f8 HM9 HM9c
    obtain ⟨r0, r1, r2, r3, r4, r5, r6, r7, r8⟩ := cells9Z hM9.r
    have HM9 := Lib.hid hM9
    have f4 := frozenY hM9.r 4
    have f7 := frozenY hM9.r 7
    have HM9c := Lib.hid ((hM9.set 4 (.string { data := #[] })).set 7 (.string { data := #[] }))
    clear hM9
    go_upto_if 50 with fail
    go_cut [50] from 50 to 54 (fun _ wx => MrI w wx nI R b im (.slice a1 (cntN im 0) c1) (.slice a2 (cntN im 1) c2) (.slice a3 (cntN im 2) c3) (.slice a4 (cntN im 3) c4) #[.int .i64 (lv : Int), .int .i64 (co : Int), .bool false, .string { data := #[42] }, .string (d1O lv), .string (d2O lv i), .string { data := #[42] }, .string (d1O lv), .string (d2O lv j)])
    case first =>
      by_cases hl2 : 2 ≤ lv
      · have hl2' : ¬ (lv : Int) < 2 := by omega
        go_wp2_with fail
        go_meet
        case rel => rw [show d1O lv = ⟨#[42]⟩ by unfold d1O; rw [if_pos hl2]]; exact HM9.out
      · have hl2' : (lv : Int) < 2 := by omega
        go_wp2_with fail
        go_meet
        case rel => rw [show d1O lv = ⟨#[]⟩ by unfold d1O; rw [if_neg hl2]]; exact HM9c.out
    case rest =>
    have hM9 := hcut
    obtain ⟨w8, rfl⟩ : ∃ x, x = wc := ⟨_, rfl⟩
    clear hcut r0 r1 r2 r3 r4 r5 r6 r7 r8 f4 f7 HM9 HM9c
    obtain ⟨x0, x1, x2, x3, x4, x5⟩ := cells6 hM9.i
    go_upto_region 16 with fail
    obtain ⟨W1, hW1⟩ : ∃ W, w8.alloc (.cells #[.slice a1 (cntN im 0) c1, .slice a2 (cntN im 1) c2, .slice a3 (cntN im 2) c3, .slice a4 (cntN im 3) c4, .int .i64 im.th, .int .i64 im.de] 34) = W := ⟨_, rfl⟩
    have hb1 : Below w8.heap.size w8 W1 := by rw [← hW1]; exact (Below.refl _ _).alloc (Nat.le_refl _) _
    have hX1 : W1.heap[w8.heap.size]? = some (.cells #[.slice a1 (cntN im 0) c1, .slice a2 (cntN im 1) c2, .slice a3 (cntN im 2) c3, .slice a4 (cntN im 3) c4, .int .i64 im.th, .int .i64 im.de] 34 (0, 0)) := by rw [← hW1]; exact World.alloc_heap_new _ _
    have hlX : w8.heap.size ≠ R := by have := lt_of_block hM9.r; omega
    have hwX : w.heap.size ≤ w8.heap.size := hM9.bel.size
    have hM1 := hM9.below hb1
    rw [hW1]
    clear hW1 hb1 hM9 x0 x1 x2 x3 x4 x5
    generalize w8.heap.size = nX at *
    obtain ⟨i0, hi, hz0, hz1, hz2⟩ := info_parts rlInfo
    have hXL : (W1.alloc (.cells #[.int .i64 (lv : Int), .int .i64 (co : Int), .bool false, .string { data := #[42] }, .string (d1O lv), .string (d2O lv i), .string { data := #[42] }, .string (d1O lv), .string (d2O lv j)] 50)).heap[nX]? = _ := (Below.heap_alloc _ _ _ (lt_of_block hX1)).trans hX1
    have hRL : (W1.alloc (.cells #[.int .i64 (lv : Int), .int .i64 (co : Int), .bool false, .string { data := #[42] }, .string (d1O lv), .string (d2O lv i), .string { data := #[42] }, .string (d1O lv), .string (d2O lv j)] 50)).heap[R]? = _ := (Below.heap_alloc _ _ _ (lt_of_block hM1.r)).trans hM1.r
    have hIL : (W1.alloc (.cells #[.int .i64 (lv : Int), .int .i64 (co : Int), .bool false, .string { data := #[42] }, .string (d1O lv), .string (d2O lv i), .string { data := #[42] }, .string (d1O lv), .string (d2O lv j)] 50)).heap[nI]? = _ := (Below.heap_alloc _ _ _ (lt_of_block hM1.i)).trans hM1.i
    obtain ⟨y0, y1, y2, y3, y4, y5⟩ := cells6 hIL
    obtain ⟨r0, r1, r2, r3, r4, r5, r6, r7, r8⟩ := cells9Z hM1.r
    have HM1 := Lib.hid hM1
    have HXL := Lib.hid hXL
    have HRL := Lib.hid hRL
    have hlen : im.rls.length ≤ 60 := HFW.out.r
    have HLN := Lib.hid (show cntN im 2 = im.rls.length from rfl)
    have hl60 : cntN im 2 ≤ 60 := hlen
    obtain ⟨-, -, g3, h3⟩ := own_infoZ hM1.o.r HFW.out.r1
    subst h3
    have HNW := Lib.hid (own_newsR (own_belowW hM1.o.r ((Below.refl _ _).alloc (Nat.le_refl _) (.cells #[.int .i64 (lv : Int), .int .i64 (co : Int), .bool false, .string { data := #[42] }, .string (d1O lv), .string (d2O lv i), .string { data := #[42] }, .string (d1O lv), .string (d2O lv j)] 50))))
    have HLS := Lib.hid (show (W1.alloc (.cells #[.int .i64 (lv : Int), .int .i64 (co : Int), .bool false, .string { data := #[42] }, .string (d1O lv), .string (d2O lv i), .string { data := #[42] }, .string (d1O lv), .string (d2O lv j)] 50)).heap.size = W1.heap.size + 1 by simp)
    have HNX := Lib.hid hlX
    have HWX := Lib.hid hwX
    have HXB := Lib.hid (lt_of_block hX1)
    have HRB := Lib.hid (lt_of_block hM1.r)
    have hbR := Lib.hid (Nat.le_of_lt (lt_of_block hM1.r))
    have HLB := Lib.hid (Nat.le_trans hM1.lb hbR.out)
    clear hX1 hM1 hXL hRL hIL hlX hwX
    go_upto_region 17 with (at_builtin; refine wpList_append_own _ rfl _ _ 31 rfl W1.heap.size 50 i0 (.agg #[.int .i64 0, .int .i64 0, .bool false, .string ByteArray.empty, .string ByteArray.empty, .string ByteArray.empty, .string ByteArray.empty, .string ByteArray.empty, .string ByteArray.empty]) 9 120 Tryz.underlying31 hi hz0 hz1 hz2 rfl (by decide) _ _ _ rfl (World.ownsRow_lit W1 #[.int .i64 (lv : Int), .int .i64 (co : Int), .bool false, .string { data := #[42] }, .string (d1O lv), .string (d2O lv i), .string { data := #[42] }, .string (d1O lv), .string (d2O lv j)] 1 (Nat.le_refl _) (by decide) rfl) ⟨g3, 0, none⟩ (cntN im 2) c3 ((im.rls.map rlC).flatMap id) rfl (flat_lenR im.rls) (HNW.out _ rfl) (flat_oneZ im.rls) (by unfold maxLen; omega) (by omega) (by rw [HLS.out]; omega) ?_; intro v9 w9 hown9 hgrow9 _; have hg9 : (W1.alloc (.cells #[.int .i64 (lv : Int), .int .i64 (co : Int), .bool false, .string { data := #[42] }, .string (d1O lv), .string (d2O lv i), .string { data := #[42] }, .string (d1O lv), .string (d2O lv j)] 50)).grownBy w9 (some W1.heap.size) := hgrow9; have hXB := HXB.out; have hx9 := (hg9.block nX (by rw [HLS.out]; omega) (by simp; omega)).trans HXL.out; obtain ⟨q0', q1', q2', q3', q4', q5'⟩ := cells6 hx9; have f2 := frozenY hx9 2; have HX9' := Lib.hid hx9; have HOW9 := Lib.hid hown9; have HG9 := Lib.hid hg9; obtain ⟨a8, n8, c8, rfl⟩ := own_sliceZ hown9; clear hown9 hgrow9 hx9 hg9 hXB)
    have HO9 := Lib.hid (HM1.out.o.frontO (r := rlO lv co i j) HG9.out HOW9.out HLN.out HLB.out (rlO_small lv co i j hlv hi5 hj5 (by omega)))
    have hRB := HRB.out
    have HR9' := Lib.hid ((HG9.out.block R (by rw [HLS.out]; omega) (by simp; omega)).trans HRL.out)
    have HB9' := Lib.hid ((HM1.out.bel.alloc HM1.out.bel.size _).grown HG9.out (by rw [HLS.out]; have := HM1.out.bel.size; omega) (fun r e => by cases e; exact HM1.out.bel.size))
    clear hRB
    have HX9 := Lib.hid (setY HX9'.out (k := 2) (.slice a8 n8 c8))
    have HR9 := Lib.hid ((heap_setCellZ (g := nX) (k := 2) (v := .slice a8 n8 c8) (fun h => HNX.out h.symm)).trans HR9'.out)
    have HO9 := Lib.hid (HO9.out.kept (gr_setZ gr_reflZ 2 (.slice a8 n8 c8)) HX9'.out)
    have HB9 := Lib.hid (HB9'.out.setCell (p := ⟨nX, 2, none⟩) HWX.out (.slice a8 n8 c8))
    generalize w9.setCell ⟨nX, 2, none⟩ (.slice a8 n8 c8) = W9 at *
    clear y0 y1 y2 y3 y4 y5 r0 r1 r2 r3 r4 r5 r6 r7 r8 q0' q1' q2' q3' q4' q5' f2 HX9' HR9' HB9' HNW HLS HOW9 HG9 HXL HRL
    have hn8 : n8 = (rlO lv co i j :: im.rls).length := (own_lenZ HO9.out.r).1
    have HCH := Lib.hid (show Calls Tryz.prog 10 #[.agg #[.slice a1 (cntN im 0) c1, .slice a2 (cntN im 1) c2, .slice a8 n8 c8, .slice a4 (cntN im 3) c4, .int .i64 im.th, .int .i64 im.de]] W9 (fun e w' => ∃ v, e = .returned v ∧ EncZ w' v (chkE { im with rls := rlO lv co i j :: im.rls }) ∧ Below W9.heap.size W9 w') from by
      have h := chkO_any a1 a2 a8 a4 c1 c2 c8 c4 { im with rls := rlO lv co i j :: im.rls } W9 (by rw [show cntN { im with rls := rlO lv co i j :: im.rls } 2 = n8 from hn8.symm]; exact HO9.out.rows) HO9.out.s (HGL.out _ HB9.out)
      rw [show cntN { im with rls := rlO lv co i j :: im.rls } 2 = n8 from hn8.symm] at h
      exact h)
    have HRT := Lib.hid (fun w' b (hr : rightRl (rlO lv co i j) = b) => (rightRuleD_any (rlO lv co i j) w' (rlO_small lv co i j hlv hi5 hj5 (by omega)).z).mono (R' := fun e w'' => e = .returned (.bool b) ∧ Below w'.heap.size w' w'') fun e w'' ⟨p, q⟩ => ⟨by rw [p, hr], q⟩)
    clear hn8 HO9 HFW HEU HLN hlen hl60 hi hz0 hz1 hz2 HGL HNX HWX hbR
    cases HMO.out with
    | no h0 hr hc =>
      have NX : d2O lv i ≠ XXo ∧ d2O lv j ≠ XXo := by rw [h0]; unfold d2O; refine ⟨?_, ?_⟩ <;> (rw [if_neg (by omega)]; decide)
      clear h0 HMO
      have nx := ne_xx (s := d2O lv i) (b := false) (decide_eq_false NX.1)
      have ny := ne_xx (s := d2O lv j) (b := false) (decide_eq_false NX.2)
      obtain ⟨nx1, nx2⟩ := nx
      obtain ⟨ny1, ny2⟩ := ny
      have HCK := Lib.hid (show Calls Tryz.prog 10 #[.agg #[.slice a1 (cntN im 0) c1, .slice a2 (cntN im 1) c2, .slice a8 n8 c8, .slice a4 (cntN im 3) c4, .int .i64 im.th, .int .i64 im.de]] W9 (fun e w' => ∃ q, e = .returned (.iface 91 (.pointer (some ⟨q, 0, none⟩))) ∧ FaultZ w' (.iface 91 (.pointer (some ⟨q, 0, none⟩))) 12 0 ⟨#[114, 117, 108, 101]⟩ ∧ Below W9.heap.size W9 w') from HCH.out.mono fun e w' ⟨v, p, q, r⟩ => by rw [hc] at q; obtain ⟨b9, rfl, hb9⟩ := q; exact ⟨b9, p, ⟨b9, rfl, hb9⟩, r⟩)
      have HRR := Lib.hid (fun w' => show Calls Tryz.prog 13 #[.agg #[.int .i64 (lv : Int), .int .i64 (co : Int), .bool false, .string { data := #[42] }, .string (d1O lv), .string (d2O lv i), .string { data := #[42] }, .string (d1O lv), .string (d2O lv j)]] w' (fun e w'' => e = .returned (.bool false) ∧ Below w'.heap.size w' w'') from HRT.out w' _ hr)
      clear hr hc NX
      obtain ⟨x0, x1, x2, x3, x4, x5⟩ := cells6 HX9.out
      obtain ⟨r0, r1, r2, r3, r4, r5, r6, r7, r8⟩ := cells9Z HR9.out
      go_wp2_with (first
        | (go_at_call 10; (with_reducible refine HCK.out.mono ?_); rintro e w10 ⟨q, rfl, hq10, hb10⟩; have HK := Lib.hid (fun w' (h : Below w10.heap.size w10 w') => kindO_any w' (hq10.below h) (HTL.out _ (HB9.out.trans ((hb10.trans (h.mono hb10.size)).mono HB9.out.size)))); have HP := Lib.hid (fun w' (h : Below w10.heap.size w10 w') => placeO_any w' (hq10.below h)); clear hq10; obtain ⟨r0, r1, r2, r3, r4, r5, r6, r7, r8⟩ := cells9Z ((hb10.block _ (lt_of_block HR9.out)).trans HR9.out))
        | (go_at_call 13; (with_reducible refine (HRR.out _).mono ?_); rintro e w11 ⟨rfl, hb11⟩)
        | (go_at_call 14; (with_reducible refine (HK.out _ hb11).mono ?_); rintro e w12 ⟨rfl, hb12⟩)
        | (go_at_call 15; (with_reducible refine (HP.out _ (hb11.trans (hb12.mono hb11.size))).mono ?_); rintro e w13 ⟨rfl, hb13⟩))
      go_ret
      exact ⟨rfl, HB9.out.trans ((hb10.trans ((hb11.trans ((hb12.trans (hb13.mono hb12.size)).mono hb11.size)).mono hb10.size)).mono HB9.out.size)⟩
    | yes hr hd hs hc =>
      clear HMO
      have nx := ne_xx (s := d2O lv i) (b := false) (decide_eq_false hd)
      have ny := ne_xx (s := d2O lv j) (b := false) (decide_eq_false hs)
      obtain ⟨nx1, nx2⟩ := nx
      obtain ⟨ny1, ny2⟩ := ny
      have HCK := Lib.hid (show Calls Tryz.prog 10 #[.agg #[.slice a1 (cntN im 0) c1, .slice a2 (cntN im 1) c2, .slice a8 n8 c8, .slice a4 (cntN im 3) c4, .int .i64 im.th, .int .i64 im.de]] W9 (fun e w' => e = .returned .nilIface ∧ Below W9.heap.size W9 w') from HCH.out.mono fun e w' ⟨v, p, q, r⟩ => by rw [hc] at q; obtain rfl : v = .nilIface := q; exact ⟨p, r⟩)
      have HRR := Lib.hid (fun w' => show Calls Tryz.prog 13 #[.agg #[.int .i64 (lv : Int), .int .i64 (co : Int), .bool false, .string { data := #[42] }, .string (d1O lv), .string (d2O lv i), .string { data := #[42] }, .string (d1O lv), .string (d2O lv j)]] w' (fun e w'' => e = .returned (.bool true) ∧ Below w'.heap.size w' w'') from HRT.out w' _ hr)
      clear hr hc hd hs
      obtain ⟨x0, x1, x2, x3, x4, x5⟩ := cells6 HX9.out
      obtain ⟨r0, r1, r2, r3, r4, r5, r6, r7, r8⟩ := cells9Z HR9.out
      go_wp2_with (first
        | (go_at_call 10; (with_reducible refine HCK.out.mono ?_); rintro e w10 ⟨rfl, hb10⟩; obtain ⟨r0, r1, r2, r3, r4, r5, r6, r7, r8⟩ := cells9Z ((hb10.block _ (lt_of_block HR9.out)).trans HR9.out))
        | (go_at_call 13; (with_reducible refine (HRR.out _).mono ?_); rintro e w11 ⟨rfl, hb11⟩))
      go_ret
      exact ⟨rfl, HB9.out.trans ((hb10.trans (hb11.mono hb10.size)).mono HB9.out.size)⟩
    | bad hr hds hc =>
      clear HMO
      by_cases hd : d2O lv i = XXo
      · clear hds
        have nx := ne_xx (s := d2O lv i) (b := true) (decide_eq_true hd)
        obtain ⟨nx1, nx2⟩ := nx
        obtain ⟨⟨ek, ep, es⟩, hc⟩ := hc
        have HCK := Lib.hid (show Calls Tryz.prog 10 #[.agg #[.slice a1 (cntN im 0) c1, .slice a2 (cntN im 1) c2, .slice a8 n8 c8, .slice a4 (cntN im 3) c4, .int .i64 im.th, .int .i64 im.de]] W9 (fun e w' => ∃ q, e = .returned (.iface 91 (.pointer (some ⟨q, 0, none⟩))) ∧ FaultZ w' (.iface 91 (.pointer (some ⟨q, 0, none⟩))) ek ep es ∧ Below W9.heap.size W9 w') from HCH.out.mono fun e w' ⟨v, p, q, r⟩ => by rw [hc] at q; obtain ⟨b9, rfl, hb9⟩ := q; exact ⟨b9, p, ⟨b9, rfl, hb9⟩, r⟩)
        have HRR := Lib.hid (fun w' => show Calls Tryz.prog 13 #[.agg #[.int .i64 (lv : Int), .int .i64 (co : Int), .bool false, .string { data := #[42] }, .string (d1O lv), .string (d2O lv i), .string { data := #[42] }, .string (d1O lv), .string (d2O lv j)]] w' (fun e w'' => e = .returned (.bool true) ∧ Below w'.heap.size w' w'') from HRT.out w' _ hr)
        clear hr hc hd
        obtain ⟨x0, x1, x2, x3, x4, x5⟩ := cells6 HX9.out
        obtain ⟨r0, r1, r2, r3, r4, r5, r6, r7, r8⟩ := cells9Z HR9.out
        go_wp2_with (first
          | (go_at_call 10; (with_reducible refine HCK.out.mono ?_); rintro e w10 ⟨q, rfl, -, hb10⟩; obtain ⟨r0, r1, r2, r3, r4, r5, r6, r7, r8⟩ := cells9Z ((hb10.block _ (lt_of_block HR9.out)).trans HR9.out))
          | (go_at_call 13; (with_reducible refine (HRR.out _).mono ?_); rintro e w11 ⟨rfl, hb11⟩))
        go_ret
        exact ⟨rfl, HB9.out.trans ((hb10.trans (hb11.mono hb10.size)).mono HB9.out.size)⟩
      · have hs := hds.resolve_left hd
        clear hds
        have nx := ne_xx (s := d2O lv i) (b := false) (decide_eq_false hd)
        have ny := ne_xx (s := d2O lv j) (b := true) (decide_eq_true hs)
        obtain ⟨nx1, nx2⟩ := nx
        obtain ⟨ny1, ny2⟩ := ny
        obtain ⟨⟨ek, ep, es⟩, hc⟩ := hc
        have HCK := Lib.hid (show Calls Tryz.prog 10 #[.agg #[.slice a1 (cntN im 0) c1, .slice a2 (cntN im 1) c2, .slice a8 n8 c8, .slice a4 (cntN im 3) c4, .int .i64 im.th, .int .i64 im.de]] W9 (fun e w' => ∃ q, e = .returned (.iface 91 (.pointer (some ⟨q, 0, none⟩))) ∧ FaultZ w' (.iface 91 (.pointer (some ⟨q, 0, none⟩))) ek ep es ∧ Below W9.heap.size W9 w') from HCH.out.mono fun e w' ⟨v, p, q, r⟩ => by rw [hc] at q; obtain ⟨b9, rfl, hb9⟩ := q; exact ⟨b9, p, ⟨b9, rfl, hb9⟩, r⟩)
        have HRR := Lib.hid (fun w' => show Calls Tryz.prog 13 #[.agg #[.int .i64 (lv : Int), .int .i64 (co : Int), .bool false, .string { data := #[42] }, .string (d1O lv), .string (d2O lv i), .string { data := #[42] }, .string (d1O lv), .string (d2O lv j)]] w' (fun e w'' => e = .returned (.bool true) ∧ Below w'.heap.size w' w'') from HRT.out w' _ hr)
        clear hr hc hd hs
        obtain ⟨x0, x1, x2, x3, x4, x5⟩ := cells6 HX9.out
        obtain ⟨r0, r1, r2, r3, r4, r5, r6, r7, r8⟩ := cells9Z HR9.out
        go_wp2_with (first
          | (go_at_call 10; (with_reducible refine HCK.out.mono ?_); rintro e w10 ⟨q, rfl, -, hb10⟩; obtain ⟨r0, r1, r2, r3, r4, r5, r6, r7, r8⟩ := cells9Z ((hb10.block _ (lt_of_block HR9.out)).trans HR9.out))
          | (go_at_call 13; (with_reducible refine (HRR.out _).mono ?_); rintro e w11 ⟨rfl, hb11⟩))
        go_ret
        exact ⟨rfl, HB9.out.trans ((hb10.trans (hb11.mono hb10.size)).mono HB9.out.size)⟩
end Go.Proofs.YtaalecdokidmnaaGreatDoor
