/-
  How aliases stand: cmp.Compare of texts, cmp.Or, alias.Compare, the document's order and Compare.
-/
import Derived.Test.YtlpjdknmnomdlaaDoorYMath
import Derived.Deep.RegionHeld3
import Derived.Deep.CutRange
namespace Go.Proofs.YtlpjdknmnomdlaaDoor
open Go Go.RowKit

theorem same_boolY (s t : ByteArray) : (s.toList == t.toList) = decide (s = t) := by
  by_cases h : s = t
  · subst h; rw [decide_eq_true rfl]; exact beq_self_eq_true _
  · rw [decide_eq_false h]; exact texts_ne h
theorem less_cmp (a b : ByteArray) : Op.bytesLess a.toList b.toList = decide (cmpL (bs a) (bs b) < 0) := by
  rw [ByteArray.toList_eq, ByteArray.toList_eq]
  show Op.bytesLess (bs a) (bs b) = _
  generalize bs a = l
  generalize bs b = r
  induction l generalizing r with
  | nil =>
    cases r with
    | nil => rfl
    | cons y r => rfl
  | cons x l ih =>
    cases r with
    | nil => rfl
    | cons y r =>
      unfold cmpL
      by_cases h1 : x.toNat < y.toNat
      · rw [if_pos h1]
        have : x < y := h1
        simp [Op.bytesLess, this]
      · rw [if_neg h1]
        have n1 : ¬ x < y := h1
        by_cases h2 : y.toNat < x.toNat
        · rw [if_pos h2]
          have : ¬ x = y := fun e => by subst e; omega
          simp [Op.bytesLess, n1, this]
        · rw [if_neg h2]
          have : x = y := UInt8.toNat_inj.1 (by omega)
          subst this
          have := ih r
          simp [Op.bytesLess, n1, this]
theorem gtr_str (a b : ByteArray) (w : World) : (binOp .gtr 9 (.string a) (.string b)).run Tryd.prog w = .ok (.bool (!(Op.bytesLess a.toList b.toList || (a.toList == b.toList)))) w := by kernel_rfl
theorem gtr_val (a b : ByteArray) : (!(Op.bytesLess a.toList b.toList || (a.toList == b.toList))) = decide (0 < cmpL (bs a) (bs b)) := by
  rw [less_cmp, same_boolY]
  rcases cmpL_range (bs a) (bs b) with h | h | h
  · rw [h]; rfl
  · have e := ofL_ext (cmpL_zero h)
    rw [h, decide_eq_true e]; rfl
  · have hne : ¬ a = b := fun e => by subst e; rw [cmpL_self] at h; cases h
    rw [h, decide_eq_false hne]; rfl
theorem cellsY_at {W : World} {g : Nat} {cs : Array Value} {t : TypeId} (h : W.heap[g]? = some (.cells cs t (0, 0))) (k : Nat) : W.cell? ⟨g, k, none⟩ = cs[k]? := by
  simp [World.cell?, h]
theorem cells3Y (W : World) (t : TypeId) (p q r : Value) : (W.alloc (.cells #[p, q, r] t)).drew.cell? ⟨W.heap.size, 0, none⟩ = some p ∧ (W.alloc (.cells #[p, q, r] t)).drew.cell? ⟨W.heap.size, 1, none⟩ = some q ∧ (W.alloc (.cells #[p, q, r] t)).drew.cell? ⟨W.heap.size, 2, none⟩ = some r := by
  have h : (W.alloc (.cells #[p, q, r] t)).drew.heap[W.heap.size]? = some (.cells #[p, q, r] t (0, 0)) := World.alloc_heap_new W _
  exact ⟨cellsY_at h 0, cellsY_at h 1, cellsY_at h 2⟩
def orV (x y z : Int) : Int := if x ≠ 0 then x else if y ≠ 0 then y else z
theorem cmpA_or (x y : Al) : cmpA x y = orV (sgnI x.k y.k) (cmpL (bs x.a) (bs y.a)) (cmpL (bs x.b) (bs y.b)) := rfl
theorem sgn_sgnI (a b : Int) : sgn a b = sgnI a b := rfl

theorem cells6' {W : World} {B : Nat} {a b c d e f : Value} {t : TypeId} (h : W.heap[B]? = some (.cells #[a, b, c, d, e, f] t (0, 0))) :
    W.cell? ⟨B, 0, none⟩ = some a ∧ W.cell? ⟨B, 1, none⟩ = some b ∧ W.cell? ⟨B, 2, none⟩ = some c := by
  simp [World.cell?, h]
/-- The three cells of two aliases' blocks that are asked. -/
def six (W : World) (B C : Nat) (x y : Al) : Prop :=
  W.cell? ⟨B, 0, none⟩ = some (.int .i64 x.k) ∧ W.cell? ⟨B, 1, none⟩ = some (.string x.a) ∧ W.cell? ⟨B, 2, none⟩ = some (.string x.b) ∧
  W.cell? ⟨C, 0, none⟩ = some (.int .i64 y.k) ∧ W.cell? ⟨C, 1, none⟩ = some (.string y.a) ∧ W.cell? ⟨C, 2, none⟩ = some (.string y.b)
end Go.Proofs.YtlpjdknmnomdlaaDoor
