/-
  What the rows of the parse statements share: both listed variables.
-/
import Derived.Test.YtpnhjpplfjamkaaGreatDoorPParsed
import Derived.Test.YtpnhjpplfjamkaaGreatDoorRowKits
namespace Go.Proofs.YtpnhjpplfjamkaaGreatDoor
open Go.ChangeShapes Go.WideShapes Go.ChangeAt Go.RowKit Go.Deep

/-- What the condition gives a walk. -/
theorem parseLaid_of {W : World} (h : laidMetH Tryz.prog laid7 W) : ParseLaid W := by
  have h' : laidMet Tryz.prog [("isogloss/grand.tags", Rows.laid_isogloss_grand_tags)] W ∧ handlesMet Tryz.prog [("errors.errorType", Rows.laid_errors_errorType)] W := h
  refine ⟨typeLaid_of ⟨laidMet_nil _ _, h'.2⟩, gl_of_laid ?_⟩
  rw [MakeChecks.laidMetH_plain _ _ _ (by kernel_rfl)]
  exact h'.1
end Go.Proofs.YtpnhjpplfjamkaaGreatDoor
