/-
  Package grand: Len, Regular, All and its iterator. Package grand: Name. The document's List, Name and Find of layer 5; the statements' own rest.
-/
import Derived.Test.YthjfcfhibdpbnaaETags
import Derived.OwnWalkIn
import Derived.OneCell
import Derived.TacticsInMore
import Derived.LoopNIn
import Derived.LoopIn
import Derived.RangeFuncKeeps
import Derived.Shelf.Abstract
import Derived.IntWalk
/-! Package grand: Len, Regular, All and its iterator. -/
namespace Go.Proofs.Ythjfcfhibdpbnaa
open Go Go.RowKit

attribute [local go_sem] Oper.semAt_some

end Go.Proofs.Ythjfcfhibdpbnaa

/-! Package grand: Name. -/
namespace Go.Proofs.Ythjfcfhibdpbnaa
open Go Go.RowKit

attribute [local go_sem] Oper.semAt_some

end Go.Proofs.Ythjfcfhibdpbnaa

/-! The document's List, Name and Find of layer 5; the statements' own rest. -/
namespace Go.Proofs.Ythjfcfhibdpbnaa
open Go Go.RowKit

/-- The document's list lies in block b. -/
def LG (b : Nat) (W : World) : Prop := ∀ k, k < 26 → W.cell? ⟨b, k, none⟩ = some (.string (starG k))
theorem LG.below {b B : Nat} {w w' : World} (h : LG b w) (hb : Below B w w') (hB : b < B) : LG b w' := fun k hk => (hb.cell (p := ⟨b, k, none⟩) hB).trans (h k hk)
theorem texts_ne {p q : ByteArray} (h : ¬ p = q) : (p.toList == q.toList) = false := by
  rw [beq_eq_false_iff_ne]
  intro e
  apply h
  rw [ByteArray.toList_eq, ByteArray.toList_eq] at e
  exact ByteArray.ext (Array.toList_inj.1 e)
end Go.Proofs.Ythjfcfhibdpbnaa
