/-
  Closed facts on the dump: what type assertions find at the makes of errors that the statements meet.
-/
import Derived.Test.YtajdfckppnedjaaProg
import Derived.WalkKit
import Derived.LaidEql
import Derived.Stop.Asserts
import Derived.RowKitTokens
namespace Go.Proofs.Ytajdfckppnedjaa
open Go Go.RowKit

end Go.Proofs.Ytajdfckppnedjaa
