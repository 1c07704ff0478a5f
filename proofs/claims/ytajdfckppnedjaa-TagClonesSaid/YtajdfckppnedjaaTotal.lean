/-
  Package fault: Total of an error whose row is known.
-/
import Derived.Test.YtajdfckppnedjaaPlace
namespace Go.Proofs.Ytajdfckppnedjaa
open Go Go.RowKit

attribute [local go_sem] Oper.semAt_some

def totalOf (l : List (Nat × Int × ByteArray)) : Int := l.foldl (fun a x => IntKind.i64.wrap (a + x.2.1)) 0
theorem totalOf_snoc (l : List (Nat × Int × ByteArray)) (x : Nat × Int × ByteArray) : totalOf (l ++ [x]) = IntKind.i64.wrap (totalOf l + x.2.1) := by simp [totalOf]

def ToI (w : World) (pre : List (Nat × Int × ByteArray)) (W : World) : Prop :=
  W.heap[w.heap.size]? = some (.cells #[.int .i64 (totalOf pre)] 3 (0, 0)) ∧ Below w.heap.size w W

end Go.Proofs.Ytajdfckppnedjaa
