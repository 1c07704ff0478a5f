/-
  The project's Clone: rows copied, an extension, a row of extensions, a tag.
-/
import Derived.Test.YtpnhjpplfjamkaaGreatDoorLSubtags
import Derived.Test.YtpnhjpplfjamkaaGreatDoorIMade
namespace Go.Proofs.YtpnhjpplfjamkaaGreatDoor
open Go Go.RowKit

theorem extInfoM : (Tryz.prog.info? 51).map (fun i => (i.zero, i.size, i.bytes)) = some (some (.agg #[.string ByteArray.empty, .slice none 0 0]), 2, 40) := by kernel_rfl

end Go.Proofs.YtpnhjpplfjamkaaGreatDoor
