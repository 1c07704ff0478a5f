/-
  The project's Same: rows of texts, extensions, tags.
-/
import Derived.Test.YtpnhjpplfjamkaaGreatDoorFSame
import Derived.Deep.RegionHeld3
namespace Go.Proofs.YtpnhjpplfjamkaaGreatDoor
open Go Go.RowKit

theorem lt_of_heapJ {w : World} {k : Nat} {o : Obj} (h : w.heap[k]? = some o) : k < w.heap.size := (Array.getElem?_eq_some_iff.1 h).1
end Go.Proofs.YtpnhjpplfjamkaaGreatDoor
