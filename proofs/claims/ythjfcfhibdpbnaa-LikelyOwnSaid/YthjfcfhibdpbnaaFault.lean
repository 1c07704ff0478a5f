/-
  Package fault: an error's row as a list, and row's iterator. Package fault: the iterator that faults hands back: it ranges over row's. Package fault: Kind and Has of an error whose row is known. Package fault: Place of an error whose row is known. Package fault: Total of an error whose row is known. Package fault: Whats of an error whose row is known. Package fault: New and Wrap; and the chapter's example, asked of Kind, Place and Total. The statements' own function row: a row of items, cut to nine, their texts to twelve bytes.
-/
import Derived.Test.YthjfcfhibdpbnaaErr
import Derived.Test.YthjfcfhibdpbnaaSeqs
import Derived.OwnWalkIn
import Derived.LaidEqlPtr
import Derived.TacticsInMore
import Derived.LoopNIn
import Derived.LoopIn
import Derived.Shelf.Abstract
import Derived.OneCell
import Derived.RangeFuncBox
import Derived.Maps.AppendAt
import Derived.OwnWalk
import Derived.OrdersIn
import Derived.Deep.RegionHeld3
import Derived.Test.YthjfcfhibdpbnaaProg
import Derived.WalkKit
import Derived.Lib.Hide
import Derived.WalkSmall
import Derived.Laws.NewBlocks
/-! Package fault: an error's row as a list, and row's iterator. -/
namespace Go.Proofs.Ythjfcfhibdpbnaa
open Go Go.RowKit

attribute [local go_sem] Oper.semAt_some

/-- An error of a row: a number; a fault, its block, place and words; an error of another make, what lies within it. -/
inductive El where
  | num (k : Int)
  | fault (b : Nat) (p : Int) (s : ByteArray)
end Go.Proofs.Ythjfcfhibdpbnaa

/-! Package fault: the iterator that faults hands back: it ranges over row's. -/
namespace Go.Proofs.Ythjfcfhibdpbnaa
open Go Go.RowKit

attribute [local go_sem] Oper.semAt_some

end Go.Proofs.Ythjfcfhibdpbnaa

/-! Package fault: Kind and Has of an error whose row is known. -/
namespace Go.Proofs.Ythjfcfhibdpbnaa
open Go Go.RowKit

attribute [local go_sem] Oper.semAt_some

end Go.Proofs.Ythjfcfhibdpbnaa

/-! Package fault: Place of an error whose row is known. -/
namespace Go.Proofs.Ythjfcfhibdpbnaa
open Go Go.RowKit

attribute [local go_sem] Oper.semAt_some

end Go.Proofs.Ythjfcfhibdpbnaa

/-! Package fault: Total of an error whose row is known. -/
namespace Go.Proofs.Ythjfcfhibdpbnaa
open Go Go.RowKit

attribute [local go_sem] Oper.semAt_some

end Go.Proofs.Ythjfcfhibdpbnaa

/-! Package fault: Whats of an error whose row is known. -/
namespace Go.Proofs.Ythjfcfhibdpbnaa
open Go Go.RowKit

attribute [local go_sem] Oper.semAt_some

theorem stringInfo : (Try.prog.info? 9).map (fun i => (i.zero, i.size, i.bytes)) = some (some (.string ByteArray.empty), 1, 16) := by kernel_rfl

end Go.Proofs.Ythjfcfhibdpbnaa

/-! Package fault: New and Wrap; and the chapter's example, asked of Kind, Place and Total. -/
namespace Go.Proofs.Ythjfcfhibdpbnaa
open Go Go.RowKit

end Go.Proofs.Ythjfcfhibdpbnaa

/-! The statements' own function row: a row of items, cut to nine, their texts to twelve bytes. -/
namespace Go.Proofs.Ythjfcfhibdpbnaa
open Go Go.RowKit

end Go.Proofs.Ythjfcfhibdpbnaa
