/-
  Package fault: the iterator that faults hands back: it ranges over row's.
-/
import Derived.Test.YtajdfckppnedjaaRow
import Derived.Shelf.Abstract
namespace Go.Proofs.Ytajdfckppnedjaa
open Go Go.RowKit

attribute [local go_sem] Oper.semAt_some

def FaX (Jx : List (Nat × Int × ByteArray) → World → Prop) (c : Code) (pre : List El) (W : World) : Prop := c = .ret ∧ Jx (fsOf pre) W

end Go.Proofs.Ytajdfckppnedjaa
