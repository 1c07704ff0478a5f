/-
  AsciiTells: the walk of the law.
-/
import Derived.Test.YtejmkjnepanfaaaBKit
namespace Go.Proofs.Ytejmkjnepanfaaa
open Go Go.RowKit

set_option maxHeartbeats 1600000 in
theorem tells_law (s : ByteArray) (w : World) (hs : s.size ≤ maxLen) :
    Calls Try.prog 3 #[.string s] w fun e w' => e = .returned (.bool true) ∧ Below w.heap.size w w' := by
  obtain ⟨t, ht⟩ : ∃ t, cut s = t := ⟨_, rfl⟩
  have h40 : t.size ≤ 40 := by rw [← ht]; exact size_cut s
  have A1 := onward w awake_any
  have A2 := told (onwardS w fun w5 => short_any s w5 hs) (ret_string ht)
  have HR := Lib.hid (show t.size ≤ 140737488351232 by omega)
  have HM := Lib.hid (show t.size ≤ maxLen by unfold maxLen; omega)
  have B0 := onwardS w fun w5 => class_ref t w5 HR.out
  have B1 := onward w fun w5 => class_any t w5 HM.out
  have B2 := onward w fun w5 => alpha_any t w5 HM.out
  have B3 := onward w fun w5 => digitS_any t w5 HM.out
  have B4 := onward w fun w5 => alnum_any t w5 HM.out
  have B5 := onward w fun w5 => lower_text t w5 HR.out
  have B6 := onward w fun w5 => lower_ref t w5 HR.out
  have B7 := onward w fun w5 => upper_text t w5 HR.out
  have B8 := onward w fun w5 => upper_ref t w5 HR.out
  have B9 := onward w fun w5 => title_text t w5 HR.out
  have B10 := onward w fun w5 => title_ref t w5 HR.out
  have hB0 : Below w.heap.size w w := Below.refl _ _
  clear ht h40
  obtain ⟨c, a, d, n, hC⟩ := classIs t
  rcases hC with ⟨h0, h1, h2, h3⟩ | ⟨h0, h1, h2, h3⟩ | ⟨h0, h1, h2, h3⟩ | ⟨h0, h1, h2, h3⟩
  all_goals
    rw [h0] at B0 B1
    rw [h1] at B2
    rw [h2] at B3
    rw [h3] at B4
    clear h0 h1 h2 h3
    go_enter Try.func3, Try.ntmps3
    go_wp2_with (first | (go_at_call 9; refine (A1.out _ (by assumption)).mono ?_; rintro e w5 ⟨rfl, hb5⟩) | (go_at_call 10; refine (A2.out _ (by assumption)).mono ?_; rintro e w5 ⟨rfl, hb5⟩) | (go_at_call 11; refine (B0.out _ (by assumption)).mono ?_; rintro e w5 ⟨rfl, hb5⟩) | (go_at_call 12; refine (B1.out _ (by assumption)).mono ?_; rintro e w5 ⟨rfl, hb5⟩) | (go_at_call 13; refine (B2.out _ (by assumption)).mono ?_; rintro e w5 ⟨rfl, hb5⟩) | (go_at_call 14; refine (B3.out _ (by assumption)).mono ?_; rintro e w5 ⟨rfl, hb5⟩) | (go_at_call 15; refine (B4.out _ (by assumption)).mono ?_; rintro e w5 ⟨rfl, hb5⟩) | (go_at_call 16; refine (B5.out _ (by assumption)).mono ?_; rintro e w5 ⟨rfl, hb5⟩) | (go_at_call 17; refine (B6.out _ (by assumption)).mono ?_; rintro e w5 ⟨rfl, hb5⟩) | (go_at_call 18; refine (B7.out _ (by assumption)).mono ?_; rintro e w5 ⟨rfl, hb5⟩) | (go_at_call 19; refine (B8.out _ (by assumption)).mono ?_; rintro e w5 ⟨rfl, hb5⟩) | (go_at_call 20; refine (B9.out _ (by assumption)).mono ?_; rintro e w5 ⟨rfl, hb5⟩) | (go_at_call 21; refine (B10.out _ (by assumption)).mono ?_; rintro e w5 ⟨rfl, hb5⟩))
    go_ret
    exact ⟨rfl, by assumption⟩
end Go.Proofs.Ytejmkjnepanfaaa
