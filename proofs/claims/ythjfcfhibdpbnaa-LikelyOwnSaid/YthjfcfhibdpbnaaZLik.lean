/-
  Package image: RightLikely, and the closures that make rows of likely rows, rules and members. (Printed by wip/gen_zlik.py.)
-/
import Derived.Test.YthjfcfhibdpbnaaZPacks
namespace Go.Proofs.Ythjfcfhibdpbnaa
open Go Go.RowKit

def LkS (x : Lk) : Prop := ∀ t ∈ lkT x, t.size ≤ 1000
/-! The closures. -/
end Go.Proofs.Ythjfcfhibdpbnaa
