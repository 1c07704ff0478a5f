/-
  The project's Clone: rows copied, an extension, a row of extensions, a tag.
-/
import Derived.Test.YtpnhjpplfjamkaaLSubtags
import Derived.Test.YtpnhjpplfjamkaaIMade
namespace Go.Proofs.Ytpnhjpplfjamkaa
open Go Go.RowKit

theorem extInfoM : (Try.prog.info? 43).map (fun i => (i.zero, i.size, i.bytes)) = some (some (.agg #[.string ByteArray.empty, .slice none 0 0]), 2, 40) := by kernel_rfl

end Go.Proofs.Ytpnhjpplfjamkaa
