/-
  Package fault: New and Wrap; and the chapter's example, asked of Kind, Place and Total.
-/
import Derived.Test.YtajdfckppnedjaaTotal
import Derived.Deep.RegionHeld3
namespace Go.Proofs.Ytajdfckppnedjaa
open Go Go.RowKit

end Go.Proofs.Ytajdfckppnedjaa
