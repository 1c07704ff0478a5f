/-
  Package grand: its array as the program's text lays it; Search's question; Search; Find; Regular.
-/
import Derived.Test.YthjfcfhibdpbnaaBase
import Derived.Test.YthjfcfhibdpbnaaBMaths
import Derived.Test.YthjfcfhibdpbnaaSeqs
import Derived.Deep.MidRow
import Derived.LaidLaws
namespace Go.Proofs.Ythjfcfhibdpbnaa
open Go Go.RowKit

/-- The array's cells. -/
def gC : List Value := gL.flatMap fun x => [.string x.1, .bool x.2]
theorem gC_name (k : Nat) (hk : k < 26) : gC[k * 2]? = some (.string (nameG k)) := by
  have h : k = 0 ∨ k = 1 ∨ k = 2 ∨ k = 3 ∨ k = 4 ∨ k = 5 ∨ k = 6 ∨ k = 7 ∨ k = 8 ∨ k = 9 ∨ k = 10 ∨ k = 11 ∨ k = 12 ∨ k = 13 ∨ k = 14 ∨ k = 15 ∨ k = 16 ∨ k = 17 ∨ k = 18 ∨ k = 19 ∨ k = 20 ∨ k = 21 ∨ k = 22 ∨ k = 23 ∨ k = 24 ∨ k = 25 := by omega
  rcases h with rfl | rfl | rfl | rfl | rfl | rfl | rfl | rfl | rfl | rfl | rfl | rfl | rfl | rfl | rfl | rfl | rfl | rfl | rfl | rfl | rfl | rfl | rfl | rfl | rfl | rfl <;> rfl
/-- The variable holds the tags. -/
def GL (W : World) : Prop := W.var? Try.prog "isogloss/grand.tags" = some gC.toArray
end Go.Proofs.Ythjfcfhibdpbnaa
