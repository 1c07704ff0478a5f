/-
  Package fault: New and Wrap; and the chapter's example, asked of Kind, Place and Total.
-/
import Derived.Test.YtaeaknpkjgacdaaDoorTotal
import Derived.Deep.RegionHeld3
namespace Go.Proofs.YtaeaknpkjgacdaaDoor
open Go Go.RowKit

end Go.Proofs.YtaeaknpkjgacdaaDoor
