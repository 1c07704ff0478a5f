/-
  Package fault: an error's row as a list, and row's iterator.
-/
import Derived.Test.YtajdfckppnedjaaAsk
import Derived.Test.YtajdfckppnedjaaSeq
import Derived.OwnWalkIn
import Derived.LaidEqlPtr
import Derived.TacticsInMore
import Derived.LoopNIn
import Derived.LoopIn
namespace Go.Proofs.Ytajdfckppnedjaa
open Go Go.RowKit

attribute [local go_sem] Oper.semAt_some

/-- An error of a row: a number; a fault, its block, place and words; an error of another make, what lies within it. -/
inductive El where
  | num (k : Int)
  | fault (b : Nat) (p : Int) (s : ByteArray)
/-- The faults of a row: block, place, words. -/
def fsOf : List El → List (Nat × Int × ByteArray)
  | [] => []
  | .fault b p s :: rest => (b, p, s) :: fsOf rest
  | .num _ :: rest => fsOf rest
theorem fsOf_append (a b : List El) : fsOf (a ++ b) = fsOf a ++ fsOf b := by
  induction a with
  | nil => rfl
  | cons x r ih => cases x <;> simp [fsOf, ih]
theorem fsOf_prefix {a b : List El} (h : a <+: b) : fsOf a <+: fsOf b := by
  obtain ⟨r, rfl⟩ := h
  exact ⟨fsOf r, (fsOf_append a r).symm⟩

end Go.Proofs.Ytajdfckppnedjaa
