/-
  The document's RightLikely, RightMember, RightRule (layer 13). (Printed by wip/gen_zrefr.py.)
-/
import Derived.Test.YtgjifikahlmioaaGreatDoorZLik
namespace Go.Proofs.YtgjifikahlmioaaGreatDoor
open Go Go.RowKit

set_option maxRecDepth 100000 in
theorem smallD_any (s : ByteArray) (w : World) (hs : s.size ≤ 1048576) :
    Calls Tryz.prog 155 #[.string s] w fun e w' => e = .returned (.bool (smallS s)) ∧ Below w.heap.size w w' := by
  have HL := Lib.hid (fun w5 => lower_ref s w5 (by omega))
  have HE := Lib.hid (same_bool s (lowS s))
  go_enter Tryz.func155, Tryz.ntmps155
  go_wp2_with (go_at_call 116; (with_reducible refine (HL.out _).mono ?_); rintro e w5 ⟨rfl, hb5⟩)
  go_ret
  exact ⟨ret_bool HE.out, by assumption⟩
set_option maxRecDepth 100000 in
theorem languageD_any (s : ByteArray) (w : World) (hs : s.size ≤ 1048576) :
    Calls Tryz.prog 125 #[.string s] w fun e w' => e = .returned (.bool (smallS s && languageS s)) ∧ Below w.heap.size w w' := by
  have HB := Lib.hid (fun w5 => smallD_any s w5 hs)
  have HR := Lib.hid (fun w5 => language_ref s w5 (by omega))
  generalize smallS s = q at *
  generalize languageS s = r at *
  clear hs
  cases q with
  | true =>
    go_enter Tryz.func125, Tryz.ntmps125
    go_wp2_with (first | (go_at_call 155; (with_reducible refine (HB.out _).mono ?_); rintro e w5 ⟨rfl, hb5⟩) | (go_at_call 121; (with_reducible refine (HR.out _).mono ?_); rintro e w6 ⟨rfl, rfl⟩))
    go_ret
    exact ⟨rfl, hb5⟩
  | false =>
    go_enter Tryz.func125, Tryz.ntmps125
    go_wp2_with (go_at_call 155; (with_reducible refine (HB.out _).mono ?_); rintro e w5 ⟨rfl, hb5⟩)
    go_ret
    exact ⟨rfl, hb5⟩
set_option maxRecDepth 100000 in
theorem scriptD_any (s : ByteArray) (w : World) (hs : s.size ≤ 1048576) :
    Calls Tryz.prog 126 #[.string s] w fun e w' => e = .returned (.bool (smallS s && scriptS s)) ∧ Below w.heap.size w w' := by
  have HB := Lib.hid (fun w5 => smallD_any s w5 hs)
  have HR := Lib.hid (fun w5 => script_ref s w5 (by omega))
  generalize smallS s = q at *
  generalize scriptS s = r at *
  clear hs
  cases q with
  | true =>
    go_enter Tryz.func126, Tryz.ntmps126
    go_wp2_with (first | (go_at_call 155; (with_reducible refine (HB.out _).mono ?_); rintro e w5 ⟨rfl, hb5⟩) | (go_at_call 123; (with_reducible refine (HR.out _).mono ?_); rintro e w6 ⟨rfl, rfl⟩))
    go_ret
    exact ⟨rfl, hb5⟩
  | false =>
    go_enter Tryz.func126, Tryz.ntmps126
    go_wp2_with (go_at_call 155; (with_reducible refine (HB.out _).mono ?_); rintro e w5 ⟨rfl, hb5⟩)
    go_ret
    exact ⟨rfl, hb5⟩
set_option maxRecDepth 100000 in
theorem regionD_any (s : ByteArray) (w : World) (hs : s.size ≤ 1048576) :
    Calls Tryz.prog 127 #[.string s] w fun e w' => e = .returned (.bool (smallS s && regionS s)) ∧ Below w.heap.size w w' := by
  have HB := Lib.hid (fun w5 => smallD_any s w5 hs)
  have HR := Lib.hid (fun w5 => region_ref s w5 (by omega))
  generalize smallS s = q at *
  generalize regionS s = r at *
  clear hs
  cases q with
  | true =>
    go_enter Tryz.func127, Tryz.ntmps127
    go_wp2_with (first | (go_at_call 155; (with_reducible refine (HB.out _).mono ?_); rintro e w5 ⟨rfl, hb5⟩) | (go_at_call 122; (with_reducible refine (HR.out _).mono ?_); rintro e w6 ⟨rfl, rfl⟩))
    go_ret
    exact ⟨rfl, hb5⟩
  | false =>
    go_enter Tryz.func127, Tryz.ntmps127
    go_wp2_with (go_at_call 155; (with_reducible refine (HB.out _).mono ?_); rintro e w5 ⟨rfl, hb5⟩)
    go_ret
    exact ⟨rfl, hb5⟩
theorem class_posZ (s : ByteArray) : (0 < classS s) ↔ alnumS s = true := by
  have h : ∀ p : UInt8 → Bool, (∀ c, p c = true → isN c = true) → has p s = true → alnumS s = true := fun p hp h => by
    unfold alnumS has at *
    rw [Bool.and_eq_true] at h ⊢
    exact ⟨h.1, List.all_eq_true.2 fun c hc => hp c (List.all_eq_true.1 h.2 c hc)⟩
  unfold classS
  by_cases h1 : alphaS s = true
  · rw [if_pos h1]; exact ⟨fun _ => h isA (fun c hc => by unfold isN; simp [hc]) h1, fun _ => by decide⟩
  · rw [if_neg h1]
    by_cases h2 : digitS s = true
    · rw [if_pos h2]; exact ⟨fun _ => h isD (fun c hc => by unfold isN; simp [hc]) h2, fun _ => by decide⟩
    · rw [if_neg h2]
      by_cases h3 : alnumS s = true
      · rw [if_pos h3]; exact ⟨fun _ => h3, fun _ => by decide⟩
      · rw [if_neg h3]; exact ⟨fun hh => absurd hh (by decide), fun hh => absurd hh h3⟩
theorem class_nonnegZ (s : ByteArray) : 0 ≤ classS s ∧ classS s ≤ 3 := by
  unfold classS
  split
  · exact ⟨by decide, by decide⟩
  · split
    · exact ⟨by decide, by decide⟩
    · split <;> exact ⟨by decide, by decide⟩
set_option maxRecDepth 100000 in
theorem nameD_any (s : ByteArray) (w : World) (hs : s.size ≤ 1048576) :
    Calls Tryz.prog 129 #[.string s] w fun e w' => e = .returned (.bool (nameS s)) ∧ Below w.heap.size w w' := by
  have HB := Lib.hid (fun w5 => smallD_any s w5 hs)
  obtain ⟨c, hc⟩ : ∃ c, classS s = c := ⟨_, rfl⟩
  have HR := Lib.hid (fun w5 => show Calls Tryz.prog 119 #[.string s] w5 fun e w' => e = .returned (.int .i64 c) ∧ w5 = w' from by rw [← hc]; exact class_ref s w5 (by omega))
  have hcn := class_nonnegZ s
  have hcp := class_posZ s
  rw [hc] at hcn hcp
  have HN := Lib.hid (show nameS s = (decide (s.size ≤ 7) && (alnumS s && smallS s)) from rfl)
  have hal : alnumS s = decide (0 < c) := by rw [Bool.eq_iff_iff, decide_eq_true_iff]; exact hcp.symm
  rw [hal] at HN
  generalize smallS s = q at *
  clear hc hcp hal hs
  cases q with
  | false =>
    go_enter Tryz.func129, Tryz.ntmps129
    go_wp2_with (go_at_call 155; (with_reducible refine (HB.out _).mono ?_); rintro e w5 ⟨rfl, hb5⟩)
    go_ret
    exact ⟨ret_bool (show nameS s = false by rw [HN.out, Bool.and_false, Bool.and_false]).symm, hb5⟩
  | true =>
    by_cases h7 : s.size ≤ 7
    · have h7' : (s.size : Int) ≤ 7 := by omega
      have HN2 := Lib.hid (show nameS s = decide (0 < c) by rw [HN.out, decide_eq_true h7, Bool.and_true, Bool.true_and])
      clear h7
      by_cases hp : 0 < c
      · have HN3 := Lib.hid (HN2.out.trans (decide_eq_true hp))
        go_enter Tryz.func129, Tryz.ntmps129
        go_wp2_with (first | (go_at_call 155; (with_reducible refine (HB.out _).mono ?_); rintro e w5 ⟨rfl, hb5⟩) | (go_at_call 119; (with_reducible refine (HR.out _).mono ?_); rintro e w6 ⟨rfl, rfl⟩))
        go_ret
        exact ⟨ret_bool HN3.out.symm, hb5⟩
      · go_enter Tryz.func129, Tryz.ntmps129
        go_wp2_with (first | (go_at_call 155; (with_reducible refine (HB.out _).mono ?_); rintro e w5 ⟨rfl, hb5⟩) | (go_at_call 119; (with_reducible refine (HR.out _).mono ?_); rintro e w6 ⟨rfl, rfl⟩))
        go_ret
        exact ⟨ret_bool HN2.out.symm, hb5⟩
    · have h7' : ¬ (s.size : Int) ≤ 7 := by omega
      have HN3 := Lib.hid (show nameS s = false by rw [HN.out, decide_eq_false h7]; rfl)
      clear h7
      go_enter Tryz.func129, Tryz.ntmps129
      go_wp2_with (go_at_call 155; (with_reducible refine (HB.out _).mono ?_); rintro e w5 ⟨rfl, hb5⟩)
      go_ret
      exact ⟨ret_bool HN3.out.symm, hb5⟩
/-! Likely rows, members. -/
theorem small_emptyZ {s : ByteArray} (h : s.size = 0) : smallS s = true := by
  have : s = ⟨#[]⟩ := ofL_ext (List.eq_nil_of_length_eq_zero h)
  rw [this]; decide
theorem maybe_smallZ (p : ByteArray → Bool) (s : ByteArray) : (decide (s.size = 0) || (smallS s && p s)) = (smallS s && maybeS p s) := by
  by_cases h : s.size = 0
  · rw [small_emptyZ h, decide_eq_true h]; unfold maybeS noneS; simp [h]
  · rw [decide_eq_false h]; unfold maybeS noneS; simp [h]
theorem rightLk_refZ (x : Lk) : rightLk x = ((smallS x.l && languageS x.l) && ((smallS x.tl && languageS x.tl) && ((decide (x.s.size = 0) || (smallS x.s && scriptS x.s)) && ((decide (x.r.size = 0) || (smallS x.r && regionS x.r)) && ((smallS x.ts && scriptS x.ts) && ((smallS x.tr && regionS x.tr) && !decide (x.tl = UND))))))) := by
  rw [maybe_smallZ, maybe_smallZ]
  unfold rightLk lkT
  simp only [List.all_cons, List.all_nil, Bool.and_true]
  generalize smallS x.l = a1
  generalize smallS x.s = a2
  generalize smallS x.r = a3
  generalize smallS x.tl = a4
  generalize smallS x.ts = a5
  generalize smallS x.tr = a6
  rw [Bool.eq_iff_iff]
  simp only [Bool.and_eq_true]
  constructor
  · rintro ⟨⟨h1, h2, h3, h4, h5, h6⟩, g1, g2, g3, g4, g5, g6, g7⟩
    exact ⟨⟨h1, g1⟩, ⟨h4, g4⟩, ⟨h2, g2⟩, ⟨h3, g3⟩, ⟨h5, g6⟩, ⟨h6, g7⟩, g5⟩
  · rintro ⟨⟨h1, g1⟩, ⟨h4, g4⟩, ⟨h2, g2⟩, ⟨h3, g3⟩, ⟨h5, g6⟩, ⟨h6, g7⟩, g5⟩
    exact ⟨⟨h1, h2, h3, h4, h5, h6⟩, g1, g2, g3, g4, g5, g6, g7⟩
theorem rightMb_refZ (x : Mb) : rightMb x = (nameS x.st && (smallS x.rg && regionS x.rg)) := by
  unfold rightMb
  rw [Bool.and_comm (regionS x.rg)]
set_option maxRecDepth 100000 in
set_option maxHeartbeats 2000000 in
theorem rightMemberD_any (x : Mb) (w : World) (hx : MbS x) :
    Calls Tryz.prog 89 #[.agg #[.string x.st, .string x.rg]] w fun e w' => e = .returned (.bool (rightMb x)) ∧ Below w.heap.size w w' := by
  obtain ⟨W1, hW1⟩ : ∃ W1, w.alloc (.cells #[.string x.st, .string x.rg] 54) = W1 := ⟨_, rfl⟩
  have hb1 : Below w.heap.size w W1 := by rw [← hW1]; exact (Below.refl _ w).alloc (Nat.le_refl _) _
  have hA : W1.heap[w.heap.size]? = some (.cells #[.string x.st, .string x.rg] 54 (0, 0)) := by rw [← hW1]; exact World.alloc_heap_new w _
  have HC := Lib.hid (fun w' (h : Below W1.heap.size W1 w') => cells2Z ((h.block _ (lt_of_block hA)).trans hA))
  have HB := Lib.hid (fun w' (h : Below W1.heap.size W1 w') => hb1.trans (h.mono hb1.size))
  have HM := Lib.hid (rightMb_refZ x)
  have HN := onward W1 (fun w5 => nameD_any x.st w5 (by have := hx.st; omega))
  have HR := onward W1 (fun w5 => regionD_any x.rg w5 (by have := hx.rg; omega))
  have HW1 := Lib.hid hW1
  obtain ⟨d0, d1⟩ := HC.out _ (Below.refl _ _)
  clear hW1 hb1 hA hx
  generalize nameS x.st = q at *
  generalize (smallS x.rg && regionS x.rg) = r at *
  cases q with
  | false =>
    go_enter Tryz.func89, Tryz.ntmps89
    go_upto_region 1 with fail
    rw [HW1.out]
    go_wp2_with (go_at_call 129; (with_reducible refine (HN.out _ (Below.refl _ _)).mono ?_); rintro e w5 ⟨rfl, hb5⟩)
    go_ret
    exact ⟨by rw [HM.out]; rfl, HB.out _ hb5⟩
  | true =>
    go_enter Tryz.func89, Tryz.ntmps89
    go_upto_region 1 with fail
    rw [HW1.out]
    go_wp2_with (first | (go_at_call 129; (with_reducible refine (HN.out _ (Below.refl _ _)).mono ?_); rintro e w5 ⟨rfl, hb5⟩; obtain ⟨e0, e1⟩ := HC.out _ hb5) | (go_at_call 127; (with_reducible refine (HR.out _ (by assumption)).mono ?_); rintro e w6 ⟨rfl, hb6⟩))
    go_ret
    exact ⟨by rw [HM.out]; rfl, HB.out _ hb6⟩
end Go.Proofs.YtgjifikahlmioaaGreatDoor
