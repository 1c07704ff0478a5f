/-
  The statements' own function row: a row of items, cut to nine, their texts to twelve bytes.
-/
import Derived.Test.YtdgeaelblebaoaaProg
import Derived.WalkKit
import Derived.OneCell
import Derived.Lib.Hide
import Derived.WalkSmall
import Derived.Laws.NewBlocks
import Derived.OwnWalk
import Derived.RangeFuncBox
namespace Go.Proofs.Ytdgeaelblebaoaa
open Go Go.RowKit

abbrev Item := Int × ByteArray
def icells (l : List Item) : List Value := l.flatMap fun x => [.int .i64 x.1, .string x.2]
theorem icells_length (l : List Item) : (icells l).length = l.length * 2 := by
  induction l with
  | nil => rfl
  | cons x r ih => simp [icells] at ih ⊢; omega
theorem icells_append (a b : List Item) : icells (a ++ b) = icells a ++ icells b := by simp [icells]
def tr12 (s : ByteArray) : ByteArray := if 12 < s.size then s.extract 0 12 else s
def cutItems (l : List Item) : List Item := (l.take 9).map fun x => (x.1, tr12 x.2)

/-- A slice of items that came in, as it reads. -/
def ItemsAt (w : World) (v : Value) (its : List Item) : Prop :=
  (v = .slice none 0 0 ∧ its = []) ∨ ∃ a cap, v = .slice (some a) its.length cap ∧ its.length ≤ cap ∧ cap ≤ maxLen ∧
    ∀ i x, its[i]? = some x → w.cell? (a.add (i * 2)) = some (.int .i64 x.1) ∧ w.cell? (a.add (i * 2 + 1)) = some (.string x.2)

theorem lt_of_cell' {W : World} {a : Addr} {v : Value} (h : W.cell? a = some v) : a.block < W.heap.size := by
  rcases Nat.lt_or_ge a.block W.heap.size with h' | h'
  · exact h'
  · simp [World.cell?, Array.getElem?_eq_none h'] at h
theorem two_cells {W : World} {B : Nat} {a b : Value} {t : TypeId} (h : W.heap[B]? = some (.cells #[a, b] t (0, 0))) :
    W.cell? ⟨B, 0, none⟩ = some a ∧ W.cell? ⟨B, 1, none⟩ = some b ∧ W.frozen? ⟨B, 0, none⟩ = false ∧ W.frozen? ⟨B, 1, none⟩ = false := by
  simp [World.cell?, World.frozen?, h]
theorem two_setCell {W : World} {B : Nat} {a b : Value} {t : TypeId} (u : Value) (h : W.heap[B]? = some (.cells #[a, b] t (0, 0))) :
    (W.setCell ⟨B, 0, none⟩ u).heap[B]? = some (.cells #[u, b] t (0, 0)) := by
  obtain ⟨hl, he⟩ := Array.getElem?_eq_some_iff.1 h
  simp [World.setCell, Array.getElem?_modify, h]
theorem block_new (w : World) (o : Obj) : (w.alloc o).heap[w.heap.size]? = some o := by
  show (w.heap.push o)[w.heap.size]? = some o
  simp
theorem owns_shape {w : World} {B : Nat} {e : TypeId} {sz : Nat} {v : Value} {n : Nat} {xs : List Value} (h : w.ownsRow B e sz v n xs) : v = .slice none 0 0 ∨ ∃ g cap, v = .slice (some ⟨g, 0, none⟩) n cap := by
  rcases h.2 with ⟨h, _⟩ | ⟨g, cap, _, h, _⟩
  · exact .inl h
  · exact .inr ⟨g, cap, h⟩
theorem two_setCell1 {W : World} {B : Nat} {a b : Value} {t : TypeId} (u : Value) (h : W.heap[B]? = some (.cells #[a, b] t (0, 0))) :
    (W.setCell ⟨B, 1, none⟩ u).heap[B]? = some (.cells #[a, u] t (0, 0)) := by
  obtain ⟨hl, he⟩ := Array.getElem?_eq_some_iff.1 h
  simp [World.setCell, Array.getElem?_modify, h]
theorem ownsRow_base {w : World} {B B' : Nat} {e : TypeId} {sz : Nat} {v : Value} {n : Nat} {xs : List Value} (h : w.ownsRow B e sz v n xs) (hB : B' ≤ B) : w.ownsRow B' e sz v n xs := by
  refine ⟨h.1, ?_⟩
  rcases h.2 with h | ⟨g, cap, cur, h1, h2, h3⟩
  · exact .inl h
  · exact .inr ⟨g, cap, cur, h1, by omega, h3⟩
end Go.Proofs.Ytdgeaelblebaoaa
