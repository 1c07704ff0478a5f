/-
  Package fault: one error of a row asked by itself: asErrno and isErrno.
-/
import Derived.Test.YtaeaknpkjgacdaaDoorAs
import Derived.Test.YtaeaknpkjgacdaaDoorIs
namespace Go.Proofs.YtaeaknpkjgacdaaDoor
open Go Go.RowKit

end Go.Proofs.YtaeaknpkjgacdaaDoor
