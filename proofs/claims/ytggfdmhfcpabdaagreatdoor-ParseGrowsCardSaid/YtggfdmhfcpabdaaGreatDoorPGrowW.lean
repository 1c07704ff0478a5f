/-
  ParseGrows: rows that grow.
-/
import Derived.Test.YtggfdmhfcpabdaaGreatDoorPGrow
import Derived.Test.YtggfdmhfcpabdaaGreatDoorLSubtags
namespace Go.Proofs.YtggfdmhfcpabdaaGreatDoor
open Go Go.RowKit

theorem list_of {α : Type} : ∀ {L : List α} {P : Nat → α → Value → Prop}, (∀ i x, L[i]? = some x → ∃ v, P i x v) → ∃ us : List Value, us.length = L.length ∧ ∀ i x u, L[i]? = some x → us[i]? = some u → P i x u
  | [], P, _ => ⟨[], rfl, fun i x u h => by simp at h⟩
  | a :: r, P, h => by
    obtain ⟨v, hv⟩ := h 0 a rfl
    obtain ⟨us, h1, h2⟩ := list_of (L := r) (P := fun i => P (i + 1)) (fun i x hx => h (i + 1) x (by simpa using hx))
    refine ⟨v :: us, by simp [h1], fun i x u hx hu => ?_⟩
    rcases i with _ | i
    · simp at hx hu; subst hx hu; exact hv
    · exact h2 i x u (by simpa using hx) (by simpa using hu)
theorem open_ext {W : World} {ao : Option Addr} {L : List (ByteArray × List ByteArray)} {c : Nat} (h : ExtRow W (.slice ao L.length c) L) :
    ∃ us : List Value, us.length = L.length ∧ (∀ (i : Nat) (x : ByteArray × List ByteArray) (u : Value), L[i]? = some x → us[i]? = some u → Row W u x.2) ∧ (ao = none → L.length = 0) ∧ ∀ ad, ao = some ad → ∀ j u, (extCells L us)[j]? = some u → W.cell? (ad.add j) = some u := by
  obtain ⟨ao', c', he, hc⟩ := h
  injection he with h1 _ _
  subst h1
  obtain ⟨us, hl, hu⟩ := list_of (P := fun (i : Nat) (x : ByteArray × List ByteArray) v => ∃ g, ao = some ⟨g, 0, none⟩ ∧ W.cell? ⟨g, i * 2, none⟩ = some (.string x.1) ∧ W.cell? ⟨g, i * 2 + 1, none⟩ = some v ∧ Row W v x.2) (fun i x hx => by
    obtain ⟨g, vs, k1, k2, k3, k4⟩ := hc i x hx
    exact ⟨vs, g, k1, k2, k3, k4⟩)
  refine ⟨us, hl, fun i x u hx hux => ?_, fun hn => ?_, fun ad had j u hj => ?_⟩
  · obtain ⟨g, _, _, _, k4⟩ := hu i x u hx hux
    exact k4
  · cases L with
    | nil => rfl
    | cons x r => obtain ⟨g, vs, k1, _⟩ := hc 0 x rfl; rw [hn] at k1; cases k1
  · have hjl : j < L.length * 2 := by
      have := (List.getElem?_eq_some_iff.1 hj).1
      rwa [extCells_length hl] at this
    obtain ⟨m, hm⟩ : ∃ m, j = m * 2 ∨ j = m * 2 + 1 := ⟨j / 2, by omega⟩
    have hi : m < L.length := by omega
    obtain ⟨x, hx⟩ : ∃ x, L[m]? = some x := ⟨_, List.getElem?_eq_getElem hi⟩
    obtain ⟨v, hv⟩ : ∃ v, us[m]? = some v := ⟨_, List.getElem?_eq_getElem (by omega)⟩
    obtain ⟨g, k1, k2, k3, _⟩ := hu _ x v hx hv
    rw [k1] at had
    cases had
    obtain ⟨c1, c2⟩ := extCells_get hl hx hv
    rw [Addr.add_lit, Nat.zero_add]
    rcases hm with rfl | rfl
    · rw [c1] at hj
      cases hj
      exact k2
    · rw [c2] at hj
      cases hj
      exact k3
theorem ext_row_of {W : World} {base : Nat} {v : Value} {L : List (ByteArray × List ByteArray)} {us : List Value} (h1 : us.length = L.length) (h2 : W.ownsRow base 48 2 v L.length (extCells L us)) (h3 : ∀ (i : Nat) (x : ByteArray × List ByteArray) (u : Value), L[i]? = some x → us[i]? = some u → Row W u x.2) : ExtRow W v L := by
  rcases owned_cases h2 with ⟨rfl, h0⟩ | ⟨g, cap, rfl⟩
  · obtain rfl : L = [] := List.eq_nil_of_length_eq_zero h0
    exact ⟨none, 0, rfl, fun i x hx => by simp at hx⟩
  · refine ⟨some ⟨g, 0, none⟩, cap, rfl, fun i x hx => ?_⟩
    have hi : i < L.length := (List.getElem?_eq_some_iff.1 hx).1
    obtain ⟨u, hu⟩ : ∃ u, us[i]? = some u := ⟨_, List.getElem?_eq_getElem (by omega)⟩
    obtain ⟨c1, c2⟩ := extCells_get h1 hx hu
    have k1 := h2.cells rfl _ _ c1
    have k2 := h2.cells rfl _ _ c2
    rw [Addr.add_lit, Nat.zero_add] at k1 k2
    exact ⟨g, u, rfl, k1, k2, h3 i x u hx hu⟩
theorem ext_snoc {L : List (ByteArray × List ByteArray)} {us : List Value} (h : us.length = L.length) (x : ByteArray × List ByteArray) (u : Value) : extCells (L ++ [x]) (us ++ [u]) = extCells L us ++ [.string x.1, u] := by
  unfold extCells
  rw [List.zip_append h.symm, List.flatMap_append]
  rfl
/-- A row that the call has just made, with nothing in it. -/
theorem own_empty (w : World) (e : TypeId) (sz : Nat) : (w.alloc (.cells #[] e)).ownsRow w.heap.size e sz (.slice (some ⟨w.heap.size, 0, none⟩) 0 0) 0 [] :=
  ⟨by simp, .inr ⟨w.heap.size, 0, _, rfl, Nat.le_refl _, World.alloc_heap_new w _, Nat.le_refl _, by simp, by simp, by simp⟩⟩
end Go.Proofs.YtggfdmhfcpabdaaGreatDoor
