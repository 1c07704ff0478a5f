/-
  Package split: Check; what Kind, Place and Whats tell of its error.
-/
import Derived.Test.YtaeaknpkjgacdaaDoorDSplit
import Derived.Test.YtaeaknpkjgacdaaDoorNew
import Derived.Test.YtaeaknpkjgacdaaDoorDScope
namespace Go.Proofs.YtaeaknpkjgacdaaDoor
open Go Go.RowKit

attribute [local go_sem] Oper.semAt_some

theorem badOf_append (a b : List (Nat × ByteArray)) : badOf (a ++ b) = if badOf a = none then badOf b else badOf a := by
  induction a with
  | nil => simp [badOf]
  | cons x r ih =>
    rw [List.cons_append]
    by_cases h : okS x.2 = true
    · simp only [badOf, h, if_true]; exact ih
    · simp [badOf, h]

def CkI (w : World) (pre : List (Nat × ByteArray)) (W : World) : Prop :=
  badOf pre = none ∧ W.heap[w.heap.size]? = some (.cells #[.int .i64 0] 42 (0, 0)) ∧ W.heap[w.heap.size + 1]? = some (.cells #[.int .i64 0] 3 (0, 0)) ∧ Below w.heap.size w W
def CkX (w : World) (c : Code) (pre : List (Nat × ByteArray)) (W : World) : Prop :=
  c = .exit 0 ∧ (∃ a : Nat, (∀ rest, badOf (pre ++ rest) = some a) ∧ W.heap[w.heap.size]? = some (.cells #[.int .i64 10] 42 (0, 0)) ∧ W.heap[w.heap.size + 1]? = some (.cells #[.int .i64 (a : Int)] 3 (0, 0))) ∧ Below w.heap.size w W

theorem ck_exit {w W3 : World} {k j : Int} {hi : Nat} {fr : Obj → Bool} {a : Nat} {pre : List (Nat × ByteArray)} (h0 : W3.heap[w.heap.size]? = some (.cells #[.int .i64 k] 42 (0, 0))) (h1 : W3.heap[w.heap.size + 1]? = some (.cells #[.int .i64 j] 3 (0, 0)))
    (hB : Below w.heap.size w W3) (hhi : w.heap.size + 2 ≤ hi) (hbad : ∀ rest, badOf (pre ++ rest) = some a) :
    KeepQ (qOf w.heap.size (w.heap.size + 2)) hi fr W3 ((W3.setCell ⟨w.heap.size, 0, none⟩ (.int .i64 10)).setCell ⟨w.heap.size + 1, 0, none⟩ (.int .i64 (a : Int))) ∧
      CkX w (.exit 0) pre ((W3.setCell ⟨w.heap.size, 0, none⟩ (.int .i64 10)).setCell ⟨w.heap.size + 1, 0, none⟩ (.int .i64 (a : Int))) := by
  have e1 : (W3.setCell ⟨w.heap.size, 0, none⟩ (.int .i64 10)).heap[w.heap.size + 1]? = some (.cells #[.int .i64 j] 3 (0, 0)) := (Below.heap_setCell _ _ _ _ (by show w.heap.size + 1 ≠ w.heap.size; omega)).trans h1
  refine ⟨(KeepQ.setCell _ _ _ _ (p := ⟨w.heap.size, 0, none⟩) _ (by unfold qOf; show ¬ (w.heap.size < w.heap.size ∨ w.heap.size = w.heap.size + 2); omega) (by show w.heap.size < hi; omega)).trans
      (KeepQ.setCell _ _ _ _ (p := ⟨w.heap.size + 1, 0, none⟩) _ (by unfold qOf; show ¬ (w.heap.size + 1 < w.heap.size ∨ w.heap.size + 1 = w.heap.size + 2); omega) (by show w.heap.size + 1 < hi; omega)), rfl, ⟨a, hbad, ?_, one_setCell e1⟩, ?_⟩
  · exact (Below.heap_setCell _ _ _ _ (by show w.heap.size ≠ w.heap.size + 1; omega)).trans (one_setCell h0)
  · exact (hB.setCell (p := ⟨w.heap.size, 0, none⟩) (Nat.le_refl _) _).setCell (p := ⟨w.heap.size + 1, 0, none⟩) (by show w.heap.size ≤ w.heap.size + 1; omega) _

/- What is told of it. -/
def SUB : ByteArray := ⟨#[115, 117, 98, 116, 97, 103]⟩
def kindE (s : ByteArray) : Int := if (chkS s).isNone then 0 else 10
def placeE (s : ByteArray) : Int := match chkS s with
  | none => -1
  | some a => a
end Go.Proofs.YtaeaknpkjgacdaaDoor
