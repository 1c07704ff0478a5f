/-
  Layer 5's statements: rest, awake, finds, names.
-/
import Derived.Test.YtbafmnafhaoggaaGreatDoorGrandR
namespace Go.Proofs.YtbafmnafhaoggaaGreatDoor
open Go Go.RowKit

end Go.Proofs.YtbafmnafhaoggaaGreatDoor
