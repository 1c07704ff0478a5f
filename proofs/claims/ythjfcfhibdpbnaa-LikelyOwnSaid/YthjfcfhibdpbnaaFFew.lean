/-
  Layer 6's statements: row.
-/
import Derived.Test.YthjfcfhibdpbnaaFTag
import Derived.Test.YthjfcfhibdpbnaaKinds
namespace Go.Proofs.Ythjfcfhibdpbnaa
open Go Go.RowKit

/-- A row cut to 4 texts, of 12 bytes each. -/
def rowT (l : List ByteArray) : List ByteArray := (l.take 4).map cut12
theorem rowT_len (l : List ByteArray) : (rowT l).length ≤ 4 := by unfold rowT; rw [List.length_map, List.length_take]; omega

/-- A row of texts that came in, wherever it lies. -/
def RowA (W : World) (v : Value) (l : List ByteArray) : Prop :=
  ∃ ao cap, v = .slice ao l.length cap ∧ l.length ≤ maxLen ∧ ∀ i x, l[i]? = some x → ∃ b o, ao = some ⟨b, o, none⟩ ∧ W.cell? ⟨b, o + i, none⟩ = some (.string x) ∧ x.size ≤ maxLen
theorem RowA.below {W W' : World} {v : Value} {l : List ByteArray} (h : RowA W v l) (hb : Below W.heap.size W W') : RowA W' v l := by
  obtain ⟨ao, cap, rfl, hl, hc⟩ := h
  refine ⟨ao, cap, rfl, hl, fun i x hx => ?_⟩
  obtain ⟨b, o, h1, h2, h3⟩ := hc i x hx
  exact ⟨b, o, h1, (hb.cell (p := ⟨b, o + i, none⟩) (lt_of_cellF h2)).trans h2, h3⟩
/-- A row that the call itself has made, as a row. -/
theorem Row.of_own {w : World} {base : Nat} {u : Value} {l : List ByteArray} (h : w.ownsRow base 9 1 u l.length (strs l)) : Row w u l := by
  rcases owned_cases h with ⟨rfl, h0⟩ | ⟨g, cap, rfl⟩
  · obtain rfl : l = [] := List.eq_nil_of_length_eq_zero h0
    exact ⟨none, 0, rfl, fun i x hx => by simp at hx⟩
  · exact ⟨some ⟨g, 0, none⟩, cap, rfl, fun i x hx => ⟨g, rfl, own_cell h i x hx⟩⟩

end Go.Proofs.Ythjfcfhibdpbnaa
