/-
  Package fault: New and Wrap; and the chapter's example, asked of Kind, Place and Total.
-/
import Derived.Test.YtdgeaelblebaoaaTotal
import Derived.Deep.RegionHeld3
namespace Go.Proofs.Ytdgeaelblebaoaa
open Go Go.RowKit

end Go.Proofs.Ytdgeaelblebaoaa
