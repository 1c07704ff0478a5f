/-
  The document's own answers for package tag: what a subtag is. Layer 6's statements: short. The project's own answers for package tag: what a subtag is. Layer 6's statements: awake.
-/
import Derived.Test.YthjfcfhibdpbnaaBase
import Derived.Test.YthjfcfhibdpbnaaPiece
/-! The document's own answers for package tag: what a subtag is. -/
namespace Go.Proofs.Ythjfcfhibdpbnaa
open Go Go.RowKit

end Go.Proofs.Ythjfcfhibdpbnaa

/-! Layer 6's statements: short. -/
namespace Go.Proofs.Ythjfcfhibdpbnaa
open Go Go.RowKit

/-- A text cut to 12 bytes. -/
def cut12 (s : ByteArray) : ByteArray := if 12 < s.size then s.extract 0 12 else s
theorem size_cut12 (s : ByteArray) : (cut12 s).size ≤ 12 := by
  unfold cut12; split
  · rw [ByteArray.size_extract]; omega
  · omega
end Go.Proofs.Ythjfcfhibdpbnaa

/-! The project's own answers for package tag: what a subtag is. -/
namespace Go.Proofs.Ythjfcfhibdpbnaa
open Go Go.RowKit

end Go.Proofs.Ythjfcfhibdpbnaa

/-! Layer 6's statements: awake. -/
namespace Go.Proofs.Ythjfcfhibdpbnaa
open Go Go.RowKit

end Go.Proofs.Ythjfcfhibdpbnaa
