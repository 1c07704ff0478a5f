/-
  Layer 6's statements: few.
-/
import Derived.Test.YtpnhjpplfjamkaaHExt
import Derived.Test.YtpnhjpplfjamkaaRFree
import Derived.Deep.AppendLies
namespace Go.Proofs.Ytpnhjpplfjamkaa
open Go Go.RowKit

theorem tagSize : (Try.prog.info? 29).map (·.size) = some 8 := by kernel_rfl
theorem extInfo : (Try.prog.info? 43).map (fun i => (i.zero, i.size, i.bytes)) = some (some (.agg #[.string ByteArray.empty, .slice none 0 0]), 2, 40) := by kernel_rfl

end Go.Proofs.Ytpnhjpplfjamkaa
