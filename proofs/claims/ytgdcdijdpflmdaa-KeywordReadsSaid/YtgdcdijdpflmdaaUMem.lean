/-
  Keywords in memory: rows of texts wherever they lie, extensions, keywords.
-/
import Derived.Test.YtgdcdijdpflmdaaUMath
import Derived.Test.YtgdcdijdpflmdaaHExt
namespace Go.Proofs.Ytgdcdijdpflmdaa
open Go Go.RowKit

/-- A row of texts, wherever it lies. -/
def RowU (W : World) (v : Value) (l : List ByteArray) : Prop :=
  ∃ ao cap, v = .slice ao l.length cap ∧ ∀ i x, l[i]? = some x → ∃ g o, ao = some ⟨g, o, none⟩ ∧ W.cell? ⟨g, o + i, none⟩ = some (.string x)
theorem RowU.below {W W' : World} {v : Value} {l : List ByteArray} (h : RowU W v l) (hb : Below W.heap.size W W') : RowU W' v l := by
  obtain ⟨ao, cap, rfl, hc⟩ := h
  refine ⟨ao, cap, rfl, fun i x hx => ?_⟩
  obtain ⟨g, o, h1, h2⟩ := hc i x hx
  exact ⟨g, o, h1, (hb.cell (p := ⟨g, o + i, none⟩) (lt_of_cellF h2)).trans h2⟩
theorem RowU.of_row {W : World} {v : Value} {l : List ByteArray} (h : Row W v l) : RowU W v l := by
  obtain ⟨ao, cap, rfl, hc⟩ := h
  refine ⟨ao, cap, rfl, fun i x hx => ?_⟩
  obtain ⟨g, h1, h2⟩ := hc i x hx
  exact ⟨g, 0, h1, by rw [Nat.zero_add]; exact h2⟩
theorem RowU.of_own {w : World} {base : Nat} {u : Value} {l : List ByteArray} (h : w.ownsRow base 9 1 u l.length (strs l)) : RowU w u l := .of_row (Row.of_own h)
theorem RowU.of_arg {W : World} {v : Value} {l : List ByteArray} (h : RowA W v l) : RowU W v l := by
  obtain ⟨ao, cap, rfl, _, hc⟩ := h
  refine ⟨ao, cap, rfl, fun i x hx => ?_⟩
  obtain ⟨g, o, h1, h2, _⟩ := hc i x hx
  exact ⟨g, o, h1, h2⟩
theorem RowU.nil (W : World) (n : Nat) : RowU W (.slice none 0 n) [] := ⟨none, n, rfl, fun i x hx => by simp at hx⟩
/-- Extensions, wherever they lie. -/
def ExtU (W : World) (v : Value) (l : KX) : Prop :=
  ∃ ao cap, v = .slice ao l.length cap ∧ ∀ i x, l[i]? = some x → ∃ g o vs, ao = some ⟨g, o, none⟩ ∧ W.cell? ⟨g, o + i * 2, none⟩ = some (.string x.1) ∧ W.cell? ⟨g, o + i * 2 + 1, none⟩ = some vs ∧ RowU W vs x.2
theorem ExtU.below {W W' : World} {v : Value} {l : KX} (h : ExtU W v l) (hb : Below W.heap.size W W') : ExtU W' v l := by
  obtain ⟨ao, cap, rfl, hc⟩ := h
  refine ⟨ao, cap, rfl, fun i x hx => ?_⟩
  obtain ⟨g, o, vs, h1, h2, h3, h4⟩ := hc i x hx
  exact ⟨g, o, vs, h1, (hb.cell (p := ⟨g, o + i * 2, none⟩) (lt_of_cellF h2)).trans h2, (hb.cell (p := ⟨g, o + i * 2 + 1, none⟩) (lt_of_cellF h3)).trans h3, h4.below hb⟩
theorem ExtU.nil (W : World) (n : Nat) : ExtU W (.slice none 0 n) [] := ⟨none, n, rfl, fun i x hx => by simp at hx⟩
/-- Keywords. -/
def KeyU (W : World) (v : Value) (k : List ByteArray × KX) : Prop := ∃ va vk, v = .agg #[va, vk] ∧ RowU W va k.1 ∧ ExtU W vk k.2
theorem KeyU.below {W W' : World} {v : Value} {k : List ByteArray × KX} (h : KeyU W v k) (hb : Below W.heap.size W W') : KeyU W' v k := by
  obtain ⟨va, vk, rfl, h1, h2⟩ := h
  exact ⟨va, vk, rfl, h1.below hb, h2.below hb⟩
/-- A row of extensions that the call itself has made; their rows lie anywhere. -/
def ExtW (W : World) (base : Nat) (v : Value) (L : KX) : Prop :=
  ∃ us : List Value, us.length = L.length ∧ W.ownsRow base 53 2 v L.length (extCells L us) ∧ ∀ (i : Nat) (u : Value) (x : ByteArray × List ByteArray), us[i]? = some u → L[i]? = some x → RowU W u x.2
theorem ExtW.nil (W : World) (base : Nat) : ExtW W base (.slice none 0 0) [] := ⟨[], rfl, World.ownsRow_nil _ _ _ _, fun i u x hu => by simp at hu⟩
theorem ExtW.row {W : World} {base : Nat} {v : Value} {L : KX} (h : ExtW W base v L) : ExtU W v L := by
  obtain ⟨us, h1, h2, h3⟩ := h
  rcases owned_cases h2 with ⟨rfl, h0⟩ | ⟨g, cap, rfl⟩
  · obtain rfl : L = [] := List.eq_nil_of_length_eq_zero h0
    exact ⟨none, 0, rfl, fun i x hx => by simp at hx⟩
  · refine ⟨some ⟨g, 0, none⟩, cap, rfl, fun i x hx => ?_⟩
    have hi : i < L.length := (List.getElem?_eq_some_iff.1 hx).1
    obtain ⟨u, hu⟩ : ∃ u, us[i]? = some u := ⟨_, List.getElem?_eq_getElem (by omega)⟩
    obtain ⟨c1, c2⟩ := extCells_get h1 hx hu
    have k1 := h2.cells rfl _ _ c1
    have k2 := h2.cells rfl _ _ c2
    rw [Addr.add_lit, Nat.zero_add] at k1 k2
    exact ⟨g, 0, u, rfl, by rw [Nat.zero_add]; exact k1, by rw [Nat.zero_add]; exact k2, h3 i u x hu hx⟩
theorem ExtW.below {W W' : World} {base : Nat} {v : Value} {L : KX} (h : ExtW W base v L) (hb : Below W.heap.size W W') : ExtW W' base v L := by
  obtain ⟨us, h1, h2, h3⟩ := h
  exact ⟨us, h1, ownsRow_belowF h2 hb, fun i u x hu hx => (h3 i u x hu hx).below hb⟩
theorem ExtW.base {W : World} {b b' : Nat} {v : Value} {L : KX} (h : ExtW W b v L) (hb : b' ≤ b) : ExtW W b' v L := by
  obtain ⟨us, h1, h2, h3⟩ := h
  exact ⟨us, h1, ownsRow_base h2 hb, h3⟩
end Go.Proofs.Ytgdcdijdpflmdaa
