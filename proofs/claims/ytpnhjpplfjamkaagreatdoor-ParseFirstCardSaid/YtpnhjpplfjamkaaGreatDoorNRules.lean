/-
  Package tag: the rules, one by one. Package tag: the rules, one by one (the others). Package tag: the rules that hold whole tags against others; extensions.
-/
import Derived.Test.YtpnhjpplfjamkaaGreatDoorNRow
import Derived.Test.YtpnhjpplfjamkaaGreatDoorKinds
import Derived.Test.YtpnhjpplfjamkaaGreatDoorJSame
import Derived.Test.YtpnhjpplfjamkaaGreatDoorETags
import Derived.Test.YtpnhjpplfjamkaaGreatDoorKTags
import Derived.Test.YtpnhjpplfjamkaaGreatDoorFRows
import Derived.Deep.RegionHeld3
import Derived.Test.YtpnhjpplfjamkaaGreatDoorHExt
/-! Package tag: the rules, one by one. -/
namespace Go.Proofs.YtpnhjpplfjamkaaGreatDoor
open Go Go.RowKit

end Go.Proofs.YtpnhjpplfjamkaaGreatDoor

/-! Package tag: the rules, one by one (the others). -/
namespace Go.Proofs.YtpnhjpplfjamkaaGreatDoor
open Go Go.RowKit

theorem law_str : Maps.Keyed Tryz.prog 9 := Maps.string_keyed Tryz.underlying9
end Go.Proofs.YtpnhjpplfjamkaaGreatDoor

/-! Package tag: the rules that hold whole tags against others; extensions. -/
namespace Go.Proofs.YtpnhjpplfjamkaaGreatDoor
open Go Go.RowKit

theorem row_nil (W : World) : Row W (.slice none 0 0) [] := ⟨none, 0, rfl, fun i x h => by simp at h⟩
theorem xrow_nil (W : World) : ExtRow W (.slice none 0 0) [] := ⟨none, 0, rfl, fun i x h => by simp at h⟩
theorem Acc.below {W0 W W' : World} {L : List ByteArray} {v : Value} (h : Acc W0 L v W) (hb : Below W.heap.size W W') : Acc W0 L v W' := ⟨ownsRow_belowF h.1 hb, h.2.trans (hb.mono h.2.size)⟩
end Go.Proofs.YtpnhjpplfjamkaaGreatDoor
