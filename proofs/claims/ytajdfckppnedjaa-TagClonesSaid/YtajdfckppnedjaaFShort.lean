/-
  Layer 6's statements: short.
-/
import Derived.Test.YtajdfckppnedjaaFKinds
namespace Go.Proofs.Ytajdfckppnedjaa
open Go Go.RowKit

/-- A text cut to 12 bytes. -/
def cut12 (s : ByteArray) : ByteArray := if 12 < s.size then s.extract 0 12 else s
theorem size_cut12 (s : ByteArray) : (cut12 s).size ≤ 12 := by
  unfold cut12; split
  · rw [ByteArray.size_extract]; omega
  · omega
theorem short12_any (s : ByteArray) (w : World) (hs : s.size ≤ maxLen) :
    Calls Try.prog 21 #[.string s] w fun e w' => e = .returned (.string (cut12 s)) ∧ w = w' := by
  unfold maxLen at hs
  by_cases h : 12 < s.size
  · have HE := Lib.hid (show cut12 s = s.extract 0 12 by unfold cut12; rw [if_pos h])
    have h' : (12 : Int) < (s.size : Int) := by omega
    have h'' : (12 : Int) ≤ (s.size : Int) := by omega
    go_enter Try.func21, Try.ntmps21
    go_wp2
    go_ret
    exact ⟨ret_string HE.out.symm, rfl⟩
  · have HE := Lib.hid (show cut12 s = s by unfold cut12; rw [if_neg h])
    have h' : ¬ (12 : Int) < (s.size : Int) := by omega
    go_enter Try.func21, Try.ntmps21
    go_wp2
    go_ret
    exact ⟨ret_string HE.out.symm, rfl⟩
end Go.Proofs.Ytajdfckppnedjaa
