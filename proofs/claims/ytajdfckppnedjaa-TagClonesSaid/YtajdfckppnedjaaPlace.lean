/-
  Package fault: Place of an error whose row is known.
-/
import Derived.Test.YtajdfckppnedjaaKind
namespace Go.Proofs.Ytajdfckppnedjaa
open Go Go.RowKit

attribute [local go_sem] Oper.semAt_some

def placeOf : List (Nat × Int × ByteArray) → Int
  | [] => -1
  | (_, p, _) :: _ => p

def PlI (w : World) (pre : List (Nat × Int × ByteArray)) (W : World) : Prop :=
  pre = [] ∧ W.heap[w.heap.size]? = some (.cells #[.int .i64 0] 3 (0, 0)) ∧ Below w.heap.size w W
def PlX (w : World) (c : Code) (pre : List (Nat × Int × ByteArray)) (W : World) : Prop :=
  c = .ret ∧ (∃ p, (∀ rest, placeOf (pre ++ rest) = p) ∧ W.heap[w.heap.size]? = some (.cells #[.int .i64 p] 3 (0, 0))) ∧ Below w.heap.size w W

end Go.Proofs.Ytajdfckppnedjaa
