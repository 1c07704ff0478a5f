/-
  Layer 6's statements: few.
-/
import Derived.Test.YtpnhjpplfjamkaaGreatDoorHExt
import Derived.Test.YtpnhjpplfjamkaaGreatDoorRFree
import Derived.Deep.AppendLies
namespace Go.Proofs.YtpnhjpplfjamkaaGreatDoor
open Go Go.RowKit

theorem tagSize : (Tryz.prog.info? 31).map (·.size) = some 8 := by kernel_rfl
theorem extInfo : (Tryz.prog.info? 51).map (fun i => (i.zero, i.size, i.bytes)) = some (some (.agg #[.string ByteArray.empty, .slice none 0 0]), 2, 40) := by kernel_rfl

end Go.Proofs.YtpnhjpplfjamkaaGreatDoor
