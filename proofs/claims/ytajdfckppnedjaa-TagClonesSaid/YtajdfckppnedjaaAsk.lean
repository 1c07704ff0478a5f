/-
  Package fault: one error of a row asked by itself: asErrno and isErrno.
-/
import Derived.Test.YtajdfckppnedjaaAs
import Derived.Test.YtajdfckppnedjaaIs
namespace Go.Proofs.Ytajdfckppnedjaa
open Go Go.RowKit

end Go.Proofs.Ytajdfckppnedjaa
