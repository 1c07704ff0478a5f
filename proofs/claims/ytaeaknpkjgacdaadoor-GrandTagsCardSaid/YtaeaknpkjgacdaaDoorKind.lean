/-
  Package fault: Kind and Has of an error whose row is known.
-/
import Derived.Test.YtaeaknpkjgacdaaDoorFaults
import Derived.OneCell
namespace Go.Proofs.YtaeaknpkjgacdaaDoor
open Go Go.RowKit

attribute [local go_sem] Oper.semAt_some

def kindOf : List El → Int
  | [] => 1
  | .num k :: _ => k
  | .fault _ _ _ :: r => kindOf r
def KiX (w : World) (B : Nat) (c : Code) (pre : List El) (W : World) : Prop :=
  c = .ret ∧ (∃ k, (∀ rest, kindOf (pre ++ rest) = k) ∧ W.heap[B]? = some (.cells #[.int .i64 k] 42 (0, 0))) ∧ Below w.heap.size w W

end Go.Proofs.YtaeaknpkjgacdaaDoor
