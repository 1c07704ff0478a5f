/-
  Layer 5's statements: rest, awake, finds, names.
-/
import Derived.Test.YtpnhjpplfjamkaaGreatDoorGrandR
namespace Go.Proofs.YtpnhjpplfjamkaaGreatDoor
open Go Go.RowKit

end Go.Proofs.YtpnhjpplfjamkaaGreatDoor
