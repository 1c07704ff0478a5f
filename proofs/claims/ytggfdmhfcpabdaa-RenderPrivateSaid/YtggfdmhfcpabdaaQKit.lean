/-
  Package render: what its statements share.
-/
import Derived.Test.YtggfdmhfcpabdaaQCase
namespace Go.Proofs.Ytggfdmhfcpabdaa
open Go Go.RowKit

def cut8 (s : ByteArray) : ByteArray := if 80 < s.size then s.extract 0 80 else s
theorem size_cut8 (s : ByteArray) : (cut8 s).size ≤ 80 := by
  unfold cut8; split
  · rw [ByteArray.size_extract]; omega
  · omega
set_option maxRecDepth 100000 in
theorem short8_any (s : ByteArray) (w : World) (hs : s.size ≤ maxLen) :
    Calls Try.prog 11 #[.string s] w fun e w' => e = .returned (.string (cut8 s)) ∧ w = w' := by
  unfold maxLen at hs
  by_cases h : 80 < s.size
  · have HE := Lib.hid (show cut8 s = s.extract 0 80 by unfold cut8; rw [if_pos h])
    have h' : (80 : Int) < (s.size : Int) := by omega
    have h'' : (80 : Int) ≤ (s.size : Int) := by omega
    go_enter Try.func11, Try.ntmps11
    go_wp2
    go_ret
    exact ⟨ret_string HE.out.symm, rfl⟩
  · have HE := Lib.hid (show cut8 s = s by unfold cut8; rw [if_neg h])
    have h' : ¬ (80 : Int) < (s.size : Int) := by omega
    go_enter Try.func11, Try.ntmps11
    go_wp2
    go_ret
    exact ⟨ret_string HE.out.symm, rfl⟩

set_option maxRecDepth 100000 in
theorem awake8_any (w : World) :
    Calls Try.prog 9 #[] w fun e w' => e = .returned (.bool true) ∧ Below w.heap.size w w' := by
  have H1 := told (onward w (fun w5 => case_any ⟨#[83, 71, 78, 45, 98, 101, 45, 70, 82]⟩ w5 (by decide))) (ret_string ex_case1)
  have H2 := told (onward w (fun w5 => case_any ⟨#[101, 110, 45, 99, 97, 45, 88, 45, 67, 65, 45, 108, 97, 116, 110]⟩ w5 (by decide))) (ret_string ex_case2)
  have H3 := told (onward w (fun w5 => case_any ⟨#[65, 90, 45, 76, 65, 84, 78, 45, 97, 122]⟩ w5 (by decide))) (ret_string ex_case3)
  have hB := Below.refl w.heap.size w
  go_enter Try.func9, Try.ntmps9
  go_wp2_with (first
    | (go_at_call 17; (with_reducible refine (H1.out _ (by assumption)).mono ?_); rintro e w1 ⟨rfl, hb1⟩)
    | (go_at_call 17; (with_reducible refine (H2.out _ (by assumption)).mono ?_); rintro e w2 ⟨rfl, hb2⟩)
    | (go_at_call 17; (with_reducible refine (H3.out _ (by assumption)).mono ?_); rintro e w3 ⟨rfl, hb3⟩))
  go_ret
  exact ⟨rfl, hb3⟩
end Go.Proofs.Ytggfdmhfcpabdaa
