/-
  The document's own answers for package tag: subs, small. The document's own answers for package tag: small. The document's own answers for package tag: rows.
-/
import Derived.Test.YtpnhjpplfjamkaaGreatDoorFTag
import Derived.Test.YtpnhjpplfjamkaaGreatDoorPieceR
import Derived.Test.YtpnhjpplfjamkaaGreatDoorFFew
import Derived.Deep.AppendLies
import Derived.BigGuard
import Derived.BigQuiet
/-! The document's own answers for package tag: subs, small. -/
namespace Go.Proofs.YtpnhjpplfjamkaaGreatDoor
open Go Go.RowKit

/-- Are all of a row subtags, of so many bytes at least? -/
def subsT (l : List ByteArray) (low : Nat) : Bool := l.all fun x => okS x && decide (low ≤ x.size)
theorem subsT_next {l : List ByteArray} {low k : Nat} {x : ByteArray} (h : l[k]? = some x) (ha : subsT (l.take k) low = true) : subsT (l.take (k + 1)) low = (okS x && decide (low ≤ x.size)) := by
  unfold subsT at *
  rw [take_next h, List.all_append, ha]
  simp
theorem subsT_bad {l : List ByteArray} {low k : Nat} (h : subsT (l.take k) low = false) : subsT l low = false := by
  unfold subsT at *
  rw [← List.take_append_drop k l, List.all_append, h]
  rfl
end Go.Proofs.YtpnhjpplfjamkaaGreatDoor

/-! The document's own answers for package tag: small. -/
namespace Go.Proofs.YtpnhjpplfjamkaaGreatDoor
open Go Go.RowKit

/-- Are all texts in small letters? -/
def lowT (l : List ByteArray) : Bool := l.all fun x => decide (x = lowS x)
def smallT (T : TagM) : Bool := lowT (subtagsT T ++ [T.lang, T.script, T.region]) && decide (T.grand = lowS T.grand)
theorem lowT_next {l : List ByteArray} {k : Nat} {x : ByteArray} (h : l[k]? = some x) (ha : lowT (l.take k) = true) : lowT (l.take (k + 1)) = decide (x = lowS x) := by
  unfold lowT at *
  rw [take_next h, List.all_append, ha]
  simp
theorem lowT_bad {l : List ByteArray} {k : Nat} (h : lowT (l.take k) = false) : lowT l = false := by
  unfold lowT at *
  rw [← List.take_append_drop k l, List.all_append, h]
  rfl

theorem grown_b {W0 w5 w6 : World} {e : TypeId} {sz n : Nat} {v : Value} {xs : List Value} (ho : w5.ownsRow W0.heap.size e sz v n xs) (hB : Below W0.heap.size W0 w5) (hg : w5.grownBy w6 v.ownBlock) : Below W0.heap.size W0 w6 :=
  hB.grown hg hB.size (fun r e => (ho.lt r e).1)
theorem grown_a {W0 w5 w6 : World} {e : TypeId} {sz n : Nat} {v : Value} {xs : List Value} {o : Obj} (ho : w5.ownsRow W0.heap.size e sz v n xs) (hB : Below W0.heap.size W0 w5) (hg : (w5.alloc o).grownBy w6 v.ownBlock) : Below W0.heap.size W0 w6 :=
  (hB.alloc hB.size o).grown hg (by simp; have := hB.size; omega) (fun r e => (ho.lt r e).1)
theorem lt_allocF (W : World) (o : Obj) : W.heap.size < (W.alloc o).heap.size := by simp
theorem small_keep {w W0 W : World} {a b c d e f g h : Value} {o : Obj} (HH : ∀ wr, Below W0.heap.size W0 wr → wr.cell? ⟨w.heap.size, 0, none⟩ = some a ∧ wr.cell? ⟨w.heap.size, 1, none⟩ = some b ∧ wr.cell? ⟨w.heap.size, 2, none⟩ = some c ∧ wr.cell? ⟨w.heap.size, 3, none⟩ = some d ∧ wr.cell? ⟨w.heap.size, 4, none⟩ = some e ∧ wr.cell? ⟨w.heap.size, 5, none⟩ = some f ∧ wr.cell? ⟨w.heap.size, 6, none⟩ = some g ∧ wr.cell? ⟨w.heap.size, 7, none⟩ = some h)
    (hB : Below W0.heap.size W0 W) : Below W0.heap.size W0 (W.alloc o) ∧ (W.alloc o).cell? ⟨w.heap.size, 0, none⟩ = some a ∧ (W.alloc o).cell? ⟨w.heap.size, 1, none⟩ = some b ∧ (W.alloc o).cell? ⟨w.heap.size, 2, none⟩ = some c ∧ (W.alloc o).cell? ⟨w.heap.size, 3, none⟩ = some d ∧ (W.alloc o).cell? ⟨w.heap.size, 4, none⟩ = some e ∧ (W.alloc o).cell? ⟨w.heap.size, 5, none⟩ = some f ∧ (W.alloc o).cell? ⟨w.heap.size, 6, none⟩ = some g ∧ (W.alloc o).cell? ⟨w.heap.size, 7, none⟩ = some h :=
  ⟨hB.alloc hB.size o, HH _ (hB.alloc hB.size o)⟩

end Go.Proofs.YtpnhjpplfjamkaaGreatDoor

/-! The document's own answers for package tag: rows. -/
namespace Go.Proofs.YtpnhjpplfjamkaaGreatDoor
open Go Go.RowKit

/-- Of each of a row, with what stands ahead of it. -/
def eachN {α : Type} (p : List α → α → Bool) (l : List α) (n : Nat) : Bool := (List.range n).all fun i => match l[i]? with
  | some x => p (l.take i) x
  | none => true
theorem eachN_next {α : Type} {p : List α → α → Bool} {l : List α} {n : Nat} {x : α} (h : l[n]? = some x) (ha : eachN p l n = true) : eachN p l (n + 1) = p (l.take n) x := by
  unfold eachN at *
  rw [List.range_succ, List.all_append, ha]
  simp [h]
theorem eachN_bad {α : Type} {p : List α → α → Bool} {l : List α} {n m : Nat} (hm : n ≤ m) (h : eachN p l n = false) : eachN p l m = false := by
  unfold eachN at *
  rw [List.all_eq_false] at *
  obtain ⟨i, hi, h2⟩ := h
  rw [List.mem_range] at hi
  exact ⟨i, List.mem_range.2 (by omega), h2⟩
def pV (pre : List ByteArray) (x : ByteArray) : Bool := variantS x && pre.all fun y => decide (y ≠ x)
def keyT (pre : List (ByteArray × List ByteArray)) (x : ByteArray) : Bool := pre.all fun y => decide (y.1 ≠ x)
def pE (pre : List (ByteArray × List ByteArray)) (x : ByteArray × List ByteArray) : Bool := (singletonS x.1 && keyT pre x.1) && (subsT x.2 2 && decide (x.2.length ≠ 0))
def rowsT (T : TagM) : Bool := eachN pV T.vars T.vars.length && (eachN pE T.exts T.exts.length && subsT T.priv 1)
theorem all_take_next {α : Type} {l : List α} {j : Nat} {y : α} (f : α → Bool) (h : l[j]? = some y) : (l.take (j + 1)).all f = ((l.take j).all f && f y) := by
  rw [take_next h, List.all_append]
  simp

end Go.Proofs.YtpnhjpplfjamkaaGreatDoor
