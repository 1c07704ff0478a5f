/-
  TagKinds: the walk of the law.
-/
import Derived.Test.YtdgeaelblebaoaaGAwake
namespace Go.Proofs.Ytdgeaelblebaoaa
open Go Go.RowKit

set_option maxHeartbeats 1600000 in
theorem kinds_both (s : ByteArray) (w : World) (hs : s.size ≤ 1000000) :
    Calls Try.prog 10 #[.string s] w fun e w' => e = .returned (.bool true) ∧ Below w.heap.size w w' := by
  have HR := Lib.hid (show s.size ≤ 140737488351232 by omega)
  have HM := Lib.hid (show s.size ≤ maxLen by unfold maxLen; omega)
  have A1 := onward w (fun w5 => language_own s w5 HM.out)
  have A2 := onward w (fun w5 => extlang_own s w5 HM.out)
  have A3 := onward w (fun w5 => script_own s w5 HM.out)
  have A4 := onward w (fun w5 => region_own s w5 HM.out)
  have A5 := onward w (fun w5 => variant_own s w5 HM.out)
  have A6 := onward w (fun w5 => singleton_own s w5 HM.out)
  have B1 := onwardS w (fun w5 => language_ref s w5 HR.out)
  have B2 := onwardS w (fun w5 => extlang_ref s w5 HR.out)
  have B3 := onwardS w (fun w5 => script_ref s w5 HR.out)
  have B4 := onwardS w (fun w5 => region_ref s w5 HR.out)
  have B5 := onwardS w (fun w5 => variant_ref s w5 HR.out)
  have B6 := onwardS w (fun w5 => singleton_ref s w5 HR.out)
  have hB0 : Below w.heap.size w w := Below.refl _ _
  clear hs
  generalize languageS s = v1 at *
  generalize extlangS s = v2 at *
  generalize scriptS s = v3 at *
  generalize regionS s = v4 at *
  generalize variantS s = v5 at *
  generalize singletonS s = v6 at *
  have q1 : (v1 == v1) = true := beq_self_eq_true v1
  have q2 : (v2 == v2) = true := beq_self_eq_true v2
  have q3 : (v3 == v3) = true := beq_self_eq_true v3
  have q4 : (v4 == v4) = true := beq_self_eq_true v4
  have q5 : (v5 == v5) = true := beq_self_eq_true v5
  have q6 : (v6 == v6) = true := beq_self_eq_true v6
  go_enter Try.func10, Try.ntmps10
  go_wp2_with (first | (go_at_call 13; refine (A1.out _ (by assumption)).mono ?_; rintro e w5 ⟨rfl, hb5⟩) | (go_at_call 19; refine (A2.out _ (by assumption)).mono ?_; rintro e w5 ⟨rfl, hb5⟩) | (go_at_call 20; refine (A3.out _ (by assumption)).mono ?_; rintro e w5 ⟨rfl, hb5⟩) | (go_at_call 14; refine (A4.out _ (by assumption)).mono ?_; rintro e w5 ⟨rfl, hb5⟩) | (go_at_call 15; refine (A5.out _ (by assumption)).mono ?_; rintro e w5 ⟨rfl, hb5⟩) | (go_at_call 17; refine (A6.out _ (by assumption)).mono ?_; rintro e w5 ⟨rfl, hb5⟩) | (go_at_call 29; refine (B1.out _ (by assumption)).mono ?_; rintro e w5 ⟨rfl, hb5⟩) | (go_at_call 30; refine (B2.out _ (by assumption)).mono ?_; rintro e w5 ⟨rfl, hb5⟩) | (go_at_call 31; refine (B3.out _ (by assumption)).mono ?_; rintro e w5 ⟨rfl, hb5⟩) | (go_at_call 32; refine (B4.out _ (by assumption)).mono ?_; rintro e w5 ⟨rfl, hb5⟩) | (go_at_call 33; refine (B5.out _ (by assumption)).mono ?_; rintro e w5 ⟨rfl, hb5⟩) | (go_at_call 34; refine (B6.out _ (by assumption)).mono ?_; rintro e w5 ⟨rfl, hb5⟩))
  go_ret
  exact ⟨rfl, by assumption⟩

set_option maxHeartbeats 1600000 in
theorem kinds_law (s : ByteArray) (w : World) (hs : s.size ≤ maxLen) :
    Calls Try.prog 3 #[.string s] w fun e w' => e = .returned (.bool true) ∧ Below w.heap.size w w' := by
  obtain ⟨t, ht⟩ : ∃ t, cut12 s = t := ⟨_, rfl⟩
  have h12 : t.size ≤ 12 := by rw [← ht]; exact size_cut12 s
  have A1 := onward w awake6_any
  have A2 := told (onwardS w fun w5 => short12_any s w5 hs) (ret_string ht)
  have B1 := onward w fun w5 => upper_ref t w5 (by omega)
  have B2 := onward w fun w5 => lower_ref t w5 (by omega)
  have K1 := onward w fun w5 => kinds_both t w5 (by omega)
  have K2 := onward w fun w5 => kinds_both (upS t) w5 (by rw [size_upS]; omega)
  have K3 := onward w fun w5 => kinds_both (lowS t) w5 (by rw [size_lowS]; omega)
  have hB0 : Below w.heap.size w w := Below.refl _ _
  clear ht h12 hs
  generalize upS t = tu at *
  generalize lowS t = tl at *
  go_enter Try.func3, Try.ntmps3
  go_wp2_with (first | (go_at_call 8; refine (A1.out _ (by assumption)).mono ?_; rintro e w5 ⟨rfl, hb5⟩) | (go_at_call 9; refine (A2.out _ (by assumption)).mono ?_; rintro e w5 ⟨rfl, hb5⟩) | (go_at_call 11; refine (B1.out _ (by assumption)).mono ?_; rintro e w5 ⟨rfl, hb5⟩) | (go_at_call 12; refine (B2.out _ (by assumption)).mono ?_; rintro e w5 ⟨rfl, hb5⟩) | (go_at_call 10; (first | (with_reducible refine (K1.out _ (by assumption)).mono ?_) | (with_reducible refine (K2.out _ (by assumption)).mono ?_) | (with_reducible refine (K3.out _ (by assumption)).mono ?_)); rintro e w5 ⟨rfl, hb5⟩))
  go_ret
  exact ⟨rfl, by assumption⟩
end Go.Proofs.Ytdgeaelblebaoaa
