/-
  The document's Same: are two rows of texts the same?
-/
import Derived.Test.YtaeaknpkjgacdaaDoorDSplit
import Derived.Deep.QuietTactic
import Derived.BigQuiet
namespace Go.Proofs.YtaeaknpkjgacdaaDoor
open Go Go.RowKit

theorem own_lower {w : World} {base base' : Nat} {e : TypeId} {size : Nat} {v : Value} {n : Nat} {xs : List Value} (h : w.ownsRow base e size v n xs) (hb : base' ≤ base) : w.ownsRow base' e size v n xs := by
  obtain ⟨h1, h2⟩ := h
  refine ⟨h1, ?_⟩
  rcases h2 with h2 | ⟨g, cap, cur, a, b, c⟩
  · exact .inl h2
  · exact .inr ⟨g, cap, cur, a, by omega, c⟩
theorem own_below {w w' : World} {base : Nat} {e : TypeId} {size : Nat} {v : Value} {n : Nat} {xs : List Value} (h : w.ownsRow base e size v n xs) (hb : Below w.heap.size w w') : w'.ownsRow base e size v n xs :=
  h.kept (grown_of_below hb) (by cases hv : v.ownBlock <;> simp)
theorem strs_get {l : List ByteArray} {k : Nat} {p : ByteArray} (h : l[k]? = some p) : (strs l)[k]? = some (.string p) := by
  unfold strs; rw [List.getElem?_map, h]; rfl
theorem own_cell {w : World} {base g cap n : Nat} {l : List ByteArray} (h : w.ownsRow base 9 1 (.slice (some ⟨g, 0, none⟩) n cap) n (strs l)) : ∀ i p, l[i]? = some p → w.cell? ⟨g, i, none⟩ = some (.string p) := fun i p hp => by
  have hl : l.length = n := by have := h.1; rw [strs_length] at this; omega
  have hi := (List.getElem?_eq_some_iff.1 hp).1
  exact (h.cellAt i (by omega)).trans (strs_get hp)

theorem toList_ne {p q : ByteArray} (h : ¬ p = q) : (p.toList == q.toList) = false := by
  rw [beq_eq_false_iff_ne, ByteArray.toList_eq, ByteArray.toList_eq]
  exact fun e => h (ofL_ext e)
theorem take_eq_succ {l1 l2 : List ByteArray} {k : Nat} (h : l1.take k = l2.take k) (h1 : k < l1.length) (h2 : k < l2.length) (e : l1[k] = l2[k]) : l1.take (k + 1) = l2.take (k + 1) := by
  rw [List.take_succ_eq_append_getElem h1, List.take_succ_eq_append_getElem h2, h, e]

end Go.Proofs.YtaeaknpkjgacdaaDoor
