/-
  Package alias: unpacked, Encode, Decode, Key.
-/
import Derived.Test.YthjfcfhibdpbnaaYRights
namespace Go.Proofs.Ythjfcfhibdpbnaa
open Go Go.RowKit

/-! pack.Get beyond the text's end. -/
/-! unpacked. -/
theorem sizeAl : (Try.prog.info? 54).map (·.size) = some 6 := by kernel_rfl

theorem frozenY {W : World} {g : Nat} {cs : Array Value} {t : TypeId} (h : W.heap[g]? = some (.cells cs t (0, 0))) (k : Nat) : W.frozen? ⟨g, k, none⟩ = false := by
  simp [World.frozen?, h]
theorem cellAtY {W : World} {g : Nat} {cs : Array Value} {t : TypeId} (h : W.heap[g]? = some (.cells cs t (0, 0))) (k : Nat) (v : Value) (hv : cs[k]? = some v) : W.cell? ⟨g, k, none⟩ = some v := by
  rw [← hv]; simp [World.cell?, h]
theorem al_store {w : World} {B : Nat} {t : TypeId} {a0 a1 a2 a3 a4 a5 : Value} (h : w.heap[B]? = some (.cells #[a0, a1, a2, a3, a4, a5] t (0, 0))) (b0 b1 b2 b3 b4 b5 : Value) :
    ((((((w.setCell ⟨B, 0, none⟩ b0).setCell ⟨B, 1, none⟩ b1).setCell ⟨B, 2, none⟩ b2).setCell ⟨B, 3, none⟩ b3).setCell ⟨B, 4, none⟩ b4).setCell ⟨B, 5, none⟩ b5).heap[B]? = some (.cells #[b0, b1, b2, b3, b4, b5] t (0, 0)) ∧
    ∀ B0, B0 ≤ B → Below B0 w ((((((w.setCell ⟨B, 0, none⟩ b0).setCell ⟨B, 1, none⟩ b1).setCell ⟨B, 2, none⟩ b2).setCell ⟨B, 3, none⟩ b3).setCell ⟨B, 4, none⟩ b4).setCell ⟨B, 5, none⟩ b5) := by
  have e0 : (w.setCell ⟨B, 0, none⟩ b0).heap[B]? = some (.cells #[b0, a1, a2, a3, a4, a5] t (0, 0)) := setY h b0
  have e1 : ((w.setCell ⟨B, 0, none⟩ b0).setCell ⟨B, 1, none⟩ b1).heap[B]? = some (.cells #[b0, b1, a2, a3, a4, a5] t (0, 0)) := setY e0 b1
  have e2 : (((w.setCell ⟨B, 0, none⟩ b0).setCell ⟨B, 1, none⟩ b1).setCell ⟨B, 2, none⟩ b2).heap[B]? = some (.cells #[b0, b1, b2, a3, a4, a5] t (0, 0)) := setY e1 b2
  have e3 : ((((w.setCell ⟨B, 0, none⟩ b0).setCell ⟨B, 1, none⟩ b1).setCell ⟨B, 2, none⟩ b2).setCell ⟨B, 3, none⟩ b3).heap[B]? = some (.cells #[b0, b1, b2, b3, a4, a5] t (0, 0)) := setY e2 b3
  have e4 : (((((w.setCell ⟨B, 0, none⟩ b0).setCell ⟨B, 1, none⟩ b1).setCell ⟨B, 2, none⟩ b2).setCell ⟨B, 3, none⟩ b3).setCell ⟨B, 4, none⟩ b4).heap[B]? = some (.cells #[b0, b1, b2, b3, b4, a5] t (0, 0)) := setY e3 b4
  have e5 : ((((((w.setCell ⟨B, 0, none⟩ b0).setCell ⟨B, 1, none⟩ b1).setCell ⟨B, 2, none⟩ b2).setCell ⟨B, 3, none⟩ b3).setCell ⟨B, 4, none⟩ b4).setCell ⟨B, 5, none⟩ b5).heap[B]? = some (.cells #[b0, b1, b2, b3, b4, b5] t (0, 0)) := setY e4 b5
  exact ⟨e5, fun B0 hB => ((((((Below.refl B0 w).setCell (p := ⟨B, 0, none⟩) hB b0).setCell (p := ⟨B, 1, none⟩) hB b1).setCell (p := ⟨B, 2, none⟩) hB b2).setCell (p := ⟨B, 3, none⟩) hB b3).setCell (p := ⟨B, 4, none⟩) hB b4).setCell (p := ⟨B, 5, none⟩) hB b5⟩
theorem al_cells {W : World} {B : Nat} {a b c d e f : Value} {t : TypeId} (h : W.heap[B]? = some (.cells #[a, b, c, d, e, f] t (0, 0))) :
    (W.cell? ⟨B, 0, none⟩ = some a ∧ W.cell? ⟨B, 1, none⟩ = some b ∧ W.cell? ⟨B, 2, none⟩ = some c ∧ W.cell? ⟨B, 3, none⟩ = some d ∧ W.cell? ⟨B, 4, none⟩ = some e ∧ W.cell? ⟨B, 5, none⟩ = some f) ∧
    (W.frozen? ⟨B, 0, none⟩ = false ∧ W.frozen? ⟨B, 1, none⟩ = false ∧ W.frozen? ⟨B, 2, none⟩ = false ∧ W.frozen? ⟨B, 3, none⟩ = false ∧ W.frozen? ⟨B, 4, none⟩ = false ∧ W.frozen? ⟨B, 5, none⟩ = false) := by
  constructor
  · exact cells6 h
  · simp [World.frozen?, h]
/-! Encode, Decode, Key. -/
/-! Key. -/
end Go.Proofs.Ythjfcfhibdpbnaa
