/-
  Package fault: one error of a row asked by itself: asErrno and isErrno.
-/
import Derived.Test.YtdgeaelblebaoaaAs
import Derived.Test.YtdgeaelblebaoaaIs
namespace Go.Proofs.Ytdgeaelblebaoaa
open Go Go.RowKit

end Go.Proofs.Ytdgeaelblebaoaa
