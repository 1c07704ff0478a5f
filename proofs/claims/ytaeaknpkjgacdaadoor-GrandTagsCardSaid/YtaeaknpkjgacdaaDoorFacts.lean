/-
  Closed facts on the dump: what type assertions find at the makes of errors that the statements meet.
-/
import Derived.Test.YtaeaknpkjgacdaaDoorProg
import Derived.WalkKit
import Derived.LaidEql
import Derived.Stop.Asserts
import Derived.RowKitTokens
namespace Go.Proofs.YtaeaknpkjgacdaaDoor
open Go Go.RowKit

theorem erError (v : Value) (w : World) : (Go.method 181 42 v "Error").run Tryd.prog w = .ok (59, v) w := by kernel_rfl
end Go.Proofs.YtaeaknpkjgacdaaDoor
