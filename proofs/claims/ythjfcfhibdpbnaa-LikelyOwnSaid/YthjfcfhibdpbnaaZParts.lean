/-
  Package image: the parts of an image. (Printed by wip/gen_zparts.py.)
-/
import Derived.Test.YthjfcfhibdpbnaaZPacks
import Derived.Test.YthjfcfhibdpbnaaZLik
import Derived.Test.YthjfcfhibdpbnaaYCode
import Derived.Test.YthjfcfhibdpbnaaZHeads
namespace Go.Proofs.Ythjfcfhibdpbnaa
open Go Go.RowKit

/-- What an image's texts and numbers are like. -/
structure ImS (im : Im) : Prop where
  als : ∀ x ∈ im.als, AlS x
  lks : ∀ x ∈ im.lks, LkS x
  rls : ∀ x ∈ im.rls, RlS x
  mbs : ∀ x ∈ im.mbs, MbS x
end Go.Proofs.Ythjfcfhibdpbnaa
