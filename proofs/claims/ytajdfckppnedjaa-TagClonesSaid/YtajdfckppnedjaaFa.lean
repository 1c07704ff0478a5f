/-
  Package fault: what lies within an error (inner), for each make of error that the statements meet.
-/
import Derived.Test.YtajdfckppnedjaaFacts
import Derived.WalkKit
import Derived.Defers
import Derived.Recover
import Derived.LaidEql
import Derived.Stop.Asserts
import Derived.RowKitTokens
import Derived.Outline
namespace Go.Proofs.Ytajdfckppnedjaa
open Go Go.RowKit

end Go.Proofs.Ytajdfckppnedjaa
