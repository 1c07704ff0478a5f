/-
  Layer 6's statements: few.
-/
import Derived.Test.YtgdcdijdpflmdaaHExt
import Derived.Test.YtgdcdijdpflmdaaRFree
import Derived.Deep.AppendLies
namespace Go.Proofs.Ytgdcdijdpflmdaa
open Go Go.RowKit

/-- Extensions cut to 4, with texts of 12 bytes, and 4 subtags each. -/
def extsT (l : List (ByteArray × List ByteArray)) : List (ByteArray × List ByteArray) := (l.take 4).map fun x => (cut12 x.1, rowT x.2)
theorem tagSize : (Try.prog.info? 29).map (·.size) = some 8 := by kernel_rfl
theorem extInfo : (Try.prog.info? 53).map (fun i => (i.zero, i.size, i.bytes)) = some (some (.agg #[.string ByteArray.empty, .slice none 0 0]), 2, 40) := by kernel_rfl

end Go.Proofs.Ytgdcdijdpflmdaa
