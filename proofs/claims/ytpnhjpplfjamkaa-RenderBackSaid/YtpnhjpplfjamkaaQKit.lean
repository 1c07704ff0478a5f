/-
  Package render: what its statements share.
-/
import Derived.Test.YtpnhjpplfjamkaaQCase
namespace Go.Proofs.Ytpnhjpplfjamkaa
open Go Go.RowKit

def cut8 (s : ByteArray) : ByteArray := if 80 < s.size then s.extract 0 80 else s
set_option maxRecDepth 100000 in
theorem awake8_any (w : World) :
    Calls Try.prog 4 #[] w fun e w' => e = .returned (.bool true) ∧ Below w.heap.size w w' := by
  have H1 := told (onward w (fun w5 => case_any ⟨#[83, 71, 78, 45, 98, 101, 45, 70, 82]⟩ w5 (by decide))) (ret_string ex_case1)
  have H2 := told (onward w (fun w5 => case_any ⟨#[101, 110, 45, 99, 97, 45, 88, 45, 67, 65, 45, 108, 97, 116, 110]⟩ w5 (by decide))) (ret_string ex_case2)
  have H3 := told (onward w (fun w5 => case_any ⟨#[65, 90, 45, 76, 65, 84, 78, 45, 97, 122]⟩ w5 (by decide))) (ret_string ex_case3)
  have hB := Below.refl w.heap.size w
  go_enter Try.func4, Try.ntmps4
  go_wp2_with (first
    | (go_at_call 12; (with_reducible refine (H1.out _ (by assumption)).mono ?_); rintro e w1 ⟨rfl, hb1⟩)
    | (go_at_call 12; (with_reducible refine (H2.out _ (by assumption)).mono ?_); rintro e w2 ⟨rfl, hb2⟩)
    | (go_at_call 12; (with_reducible refine (H3.out _ (by assumption)).mono ?_); rintro e w3 ⟨rfl, hb3⟩))
  go_ret
  exact ⟨rfl, hb3⟩
end Go.Proofs.Ytpnhjpplfjamkaa
