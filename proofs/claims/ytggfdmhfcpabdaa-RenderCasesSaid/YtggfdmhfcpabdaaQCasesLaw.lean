/-
  RenderCases: the walk of the law.
-/
import Derived.Test.YtggfdmhfcpabdaaQKit
namespace Go.Proofs.Ytggfdmhfcpabdaa
open Go Go.RowKit

set_option maxRecDepth 100000 in
set_option maxHeartbeats 1600000 in
theorem rcases_law (a : ByteArray) (w : World) (hsa : a.size ≤ maxLen) :
    Calls Try.prog 5 #[.string a] w fun e w' => e = .returned (.bool true) ∧ Below w.heap.size w w' := by
  obtain ⟨x, htx⟩ : ∃ x, cut8 a = x := ⟨_, rfl⟩
  have hx : x.size ≤ 80 := by rw [← htx]; exact size_cut8 a
  have Sx := told (onwardS w fun w5 => short8_any a w5 hsa) (ret_string htx)
  clear htx
  have A1 := onward w awake8_any
  obtain ⟨c, hc⟩ : ∃ c, caseS x = c := ⟨_, rfl⟩
  obtain ⟨l, hl⟩ : ∃ l, lowS x = l := ⟨_, rfl⟩
  obtain ⟨u, hu⟩ : ∃ u, upS x = u := ⟨_, rfl⟩
  have hcs : c.size = x.size := by rw [← hc, size_caseS]
  have hus : u.size = x.size := by rw [← hu, size_upS]
  have C1 := told (onward w fun w5 => case_any x w5 (by omega)) (ret_string hc)
  have C2 := told (onward w fun w5 => case_any c w5 (by omega)) (ret_string (show caseS c = c by rw [← hc, case_caseS]))
  have C3 := told (onward w fun w5 => case_any u w5 (by omega)) (ret_string (show caseS u = c by rw [← hu, case_upS, hc]))
  have L1 := told (onward w fun w5 => lower_ref x w5 (by omega)) (ret_string hl)
  have L2 := told (onward w fun w5 => lower_ref c w5 (by omega)) (ret_string (show lowS c = l by rw [← hc, low_caseS, hl]))
  have U1 := told (onward w fun w5 => upper_ref x w5 (by omega)) (ret_string hu)
  have hB := Below.refl w.heap.size w
  clear hc hl hu hus hx hsa
  go_enter Try.func5, Try.ntmps5
  go_wp2_with (first
    | (go_at_call 9; (with_reducible refine (A1.out _ (by assumption)).mono ?_); rintro e w1 ⟨rfl, hb1⟩)
    | (go_at_call 11; (with_reducible refine (Sx.out _ (by assumption)).mono ?_); rintro e w2 ⟨rfl, hb2⟩)
    | (go_at_call 17; (with_reducible refine (C1.out _ (by assumption)).mono ?_); rintro e w3 ⟨rfl, hb3⟩)
    | (go_at_call 17; (with_reducible refine (C2.out _ (by assumption)).mono ?_); rintro e w4 ⟨rfl, hb4⟩)
    | (go_at_call 17; (with_reducible refine (C3.out _ (by assumption)).mono ?_); rintro e w5 ⟨rfl, hb5⟩)
    | (go_at_call 24; (with_reducible refine (L1.out _ (by assumption)).mono ?_); rintro e w6 ⟨rfl, hb6⟩)
    | (go_at_call 24; (with_reducible refine (L2.out _ (by assumption)).mono ?_); rintro e w7 ⟨rfl, hb7⟩)
    | (go_at_call 25; (with_reducible refine (U1.out _ (by assumption)).mono ?_); rintro e w8 ⟨rfl, hb8⟩))
  go_ret
  exact ⟨rfl, hb5⟩
end Go.Proofs.Ytggfdmhfcpabdaa
