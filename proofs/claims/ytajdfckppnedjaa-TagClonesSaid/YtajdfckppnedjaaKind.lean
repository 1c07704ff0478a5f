/-
  Package fault: Kind and Has of an error whose row is known.
-/
import Derived.Test.YtajdfckppnedjaaFaults
import Derived.OneCell
namespace Go.Proofs.Ytajdfckppnedjaa
open Go Go.RowKit

attribute [local go_sem] Oper.semAt_some

def kindOf : List El → Int
  | [] => 1
  | .num k :: _ => k
  | .fault _ _ _ :: r => kindOf r
end Go.Proofs.Ytajdfckppnedjaa
