/-
  A function that holds a label, inside a fence: the scope is passed where no goto leaves it. No program is named here. strings.IndexByte and strings.LastIndexByte of the mark; package split: single, Trim. Package split: single, Trim. Package split: Each and its iterator. Package split: Split. The document's Same: are two rows of texts the same? Package split: Check; what Kind, Place and Whats tell of its error. The statements' own (layer 4): awake and short. What the laws of layer 4 share: contracts that go on from the start of the law.
-/
import Derived.TacticsIn
import Derived.WalkMore
import Derived.Test.YthjfcfhibdpbnaaSeqs
import Derived.Test.YthjfcfhibdpbnaaBMaths
import Derived.Test.YthjfcfhibdpbnaaBase
import Derived.Lib.Walk
import Derived.Lib.Strings
import Derived.BigGuard
import Derived.BigQuiet
import Derived.Deep.QuietTactic
import Derived.OwnWalkIn
import Derived.OneCell
import Derived.TacticsInMore
import Derived.LoopNIn
import Derived.LoopIn
import Derived.Test.YthjfcfhibdpbnaaFault
/-! A function that holds a label, inside a fence: the scope is passed where no goto leaves it. No program is named here. -/
namespace Go.Proofs.Ythjfcfhibdpbnaa
open Go

variable {F : Fence} {n : Nat} {P : Program} {b : Frame} {a : Act} {k : List Go.Item} {cs : List Frame} {w : World} {Q : Exit → Act → World → Prop}

end Go.Proofs.Ythjfcfhibdpbnaa

/-! strings.IndexByte and strings.LastIndexByte of the mark; package split: single, Trim. -/
namespace Go.Proofs.Ythjfcfhibdpbnaa
open Go Go.RowKit

theorem bs_get (s : ByteArray) (k : Nat) (h : k < s.size) : (bs s)[k]? = some s[k] := by
  show s.data.toList[k]? = _
  rw [Array.getElem?_toList]
  exact Array.getElem?_eq_getElem h
end Go.Proofs.Ythjfcfhibdpbnaa

/-! Package split: single, Trim. -/
namespace Go.Proofs.Ythjfcfhibdpbnaa
open Go Go.RowKit

theorem mark_true {c : UInt8} (h : c = 45) : ((c.toNat : Int) == 45) = true ∧ ((c.toNat : Int) != 45) = false := by rw [h]; exact ⟨rfl, rfl⟩
theorem mark_false {c : UInt8} (h : c ≠ 45) : ((c.toNat : Int) == 45) = false ∧ ((c.toNat : Int) != 45) = true := by
  have e : ((c.toNat : Int) == 45) = false := by
    rw [beq_eq_false_iff_ne]
    exact fun e => h (UInt8.toNat_inj.1 (by have : c.toNat = 45 := by omega
                                            simpa using this))
  exact ⟨e, by rw [bne, e]; rfl⟩

end Go.Proofs.Ythjfcfhibdpbnaa

/-! Package split: Each and its iterator. -/
namespace Go.Proofs.Ythjfcfhibdpbnaa
open Go Go.RowKit

attribute [local go_sem] Oper.semAt_some

theorem drop_extract (s : ByteArray) (a : Nat) : s.extract a s.size = ofL ((bs s).drop a) := by
  apply ofL_ext
  rw [bs_ofL, bs_extract, List.take_of_length_le]
  rw [List.length_drop, size_bs]
  exact Nat.le_refl _
end Go.Proofs.Ythjfcfhibdpbnaa

/-! Package split: Split. -/
namespace Go.Proofs.Ythjfcfhibdpbnaa
open Go Go.RowKit

attribute [local go_sem] Oper.semAt_some

def strs (l : List ByteArray) : List Value := l.map Value.string
theorem strs_length (l : List ByteArray) : (strs l).length = l.length := List.length_map ..

end Go.Proofs.Ythjfcfhibdpbnaa

/-! The document's Same: are two rows of texts the same? -/
namespace Go.Proofs.Ythjfcfhibdpbnaa
open Go Go.RowKit

theorem own_lower {w : World} {base base' : Nat} {e : TypeId} {size : Nat} {v : Value} {n : Nat} {xs : List Value} (h : w.ownsRow base e size v n xs) (hb : base' ≤ base) : w.ownsRow base' e size v n xs := by
  obtain ⟨h1, h2⟩ := h
  refine ⟨h1, ?_⟩
  rcases h2 with h2 | ⟨g, cap, cur, a, b, c⟩
  · exact .inl h2
  · exact .inr ⟨g, cap, cur, a, by omega, c⟩
theorem strs_get {l : List ByteArray} {k : Nat} {p : ByteArray} (h : l[k]? = some p) : (strs l)[k]? = some (.string p) := by
  unfold strs; rw [List.getElem?_map, h]; rfl
theorem own_cell {w : World} {base g cap n : Nat} {l : List ByteArray} (h : w.ownsRow base 9 1 (.slice (some ⟨g, 0, none⟩) n cap) n (strs l)) : ∀ i p, l[i]? = some p → w.cell? ⟨g, i, none⟩ = some (.string p) := fun i p hp => by
  have hl : l.length = n := by have := h.1; rw [strs_length] at this; omega
  have hi := (List.getElem?_eq_some_iff.1 hp).1
  exact (h.cellAt i (by omega)).trans (strs_get hp)

theorem toList_ne {p q : ByteArray} (h : ¬ p = q) : (p.toList == q.toList) = false := by
  rw [beq_eq_false_iff_ne, ByteArray.toList_eq, ByteArray.toList_eq]
  exact fun e => h (ofL_ext e)
end Go.Proofs.Ythjfcfhibdpbnaa

/-! Package split: Check; what Kind, Place and Whats tell of its error. -/
namespace Go.Proofs.Ythjfcfhibdpbnaa
open Go Go.RowKit

attribute [local go_sem] Oper.semAt_some

/- What is told of it. -/
end Go.Proofs.Ythjfcfhibdpbnaa

/-! The statements' own (layer 4): awake and short. -/
namespace Go.Proofs.Ythjfcfhibdpbnaa
open Go Go.RowKit

end Go.Proofs.Ythjfcfhibdpbnaa

/-! What the laws of layer 4 share: contracts that go on from the start of the law. -/
namespace Go.Proofs.Ythjfcfhibdpbnaa
open Go Go.RowKit

theorem strs_append (a b : List ByteArray) : strs (a ++ b) = strs a ++ strs b := List.map_append ..

end Go.Proofs.Ythjfcfhibdpbnaa
