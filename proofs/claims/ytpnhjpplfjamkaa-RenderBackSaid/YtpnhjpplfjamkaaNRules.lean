/-
  Package tag: the rules, one by one. Package tag: the rules, one by one (the others). Package tag: the rules that hold whole tags against others; extensions.
-/
import Derived.Test.YtpnhjpplfjamkaaNRow
import Derived.Test.YtpnhjpplfjamkaaKinds
import Derived.Test.YtpnhjpplfjamkaaJSame
import Derived.Test.YtpnhjpplfjamkaaETags
import Derived.Test.YtpnhjpplfjamkaaKTags
import Derived.Test.YtpnhjpplfjamkaaFRows
import Derived.Deep.RegionHeld3
import Derived.Test.YtpnhjpplfjamkaaHExt
/-! Package tag: the rules, one by one. -/
namespace Go.Proofs.Ytpnhjpplfjamkaa
open Go Go.RowKit

end Go.Proofs.Ytpnhjpplfjamkaa

/-! Package tag: the rules, one by one (the others). -/
namespace Go.Proofs.Ytpnhjpplfjamkaa
open Go Go.RowKit

end Go.Proofs.Ytpnhjpplfjamkaa

/-! Package tag: the rules that hold whole tags against others; extensions. -/
namespace Go.Proofs.Ytpnhjpplfjamkaa
open Go Go.RowKit

theorem Acc.below {W0 W W' : World} {L : List ByteArray} {v : Value} (h : Acc W0 L v W) (hb : Below W.heap.size W W') : Acc W0 L v W' := ⟨ownsRow_belowF h.1 hb, h.2.trans (hb.mono h.2.size)⟩
end Go.Proofs.Ytpnhjpplfjamkaa
