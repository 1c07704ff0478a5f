/-
  What the rows of the image statements share: both listed variables.
-/
import Derived.Test.YtlpjdknmnomdlaaGreatDoorERowKit
import Derived.Test.YtlpjdknmnomdlaaGreatDoorRowKit
namespace Go.Proofs.YtlpjdknmnomdlaaGreatDoor
open Go.ChangeShapes Go.WideShapes Go.ChangeAt Go.RowKit Go.Deep

def laid7 : List (String × DataW Unit) := [("errors.errorType", Rows.laid_errors_errorType), ("isogloss/grand.tags", Rows.laid_isogloss_grand_tags)]
/-- What the condition gives a walk. -/
theorem zLaid_of {W : World} (h : laidMetH Tryz.prog laid7 W) : TypeLaid W ∧ GL W := by
  have h' : laidMet Tryz.prog [("isogloss/grand.tags", Rows.laid_isogloss_grand_tags)] W ∧ handlesMet Tryz.prog [("errors.errorType", Rows.laid_errors_errorType)] W := h
  refine ⟨typeLaid_of ⟨laidMet_nil _ _, h'.2⟩, gl_of_laid ?_⟩
  rw [MakeChecks.laidMetH_plain _ _ _ (by kernel_rfl)]
  exact h'.1
/-- A world that meets the condition: the settled one, the two variables laid. -/
noncomputable def laidWorld7 (os : Os) : World :=
  let w0 := World.holding Tryz.prog os ⟨#[], #[], []⟩
  let put (b : Nat) (l : List Value) (h : Array Obj) : Array Obj := h.modify b fun
    | .cells _ t frozen => .cells l.toArray t frozen
    | o => o
  { w0 with heap := put 2 gC (put 0 [.iface 243 (.agg #[.pointer (some ⟨5, 58, none⟩)])] w0.heap) }
theorem laidWorld7_plain (os : Os) (args : Array Value) : laidMet Tryz.prog [("isogloss/grand.tags", Rows.laid_isogloss_grand_tags)] ((laidWorld7 os).forCall (fun _ _ => 0) ⟨#[], args, []⟩).memory :=
  (LaidIn.of_run [2] 8 (by kernel_rfl) (by kernel_rfl) (by kernel_rfl) (by kernel_rfl)).met
theorem laidWorld7_met (os : Os) (args : Array Value) : laidMetH Tryz.prog laid7 ((laidWorld7 os).forCall (fun _ _ => 0) ⟨#[], args, []⟩).memory :=
  laidMetH_of_parts (laidWorld7_plain os args) (by kernel_rfl)
end Go.Proofs.YtlpjdknmnomdlaaGreatDoor
