/-
  errors.Is, asked of one error by itself (what fault.alone hands it), at a target of type api.Errno.
-/
import Derived.Test.YtajdfckppnedjaaFa
import Derived.Lib.Hide
namespace Go.Proofs.Ytajdfckppnedjaa
open Go Go.RowKit Go.Extern.Stop Go.Stop Go.Extern

end Go.Proofs.Ytajdfckppnedjaa
