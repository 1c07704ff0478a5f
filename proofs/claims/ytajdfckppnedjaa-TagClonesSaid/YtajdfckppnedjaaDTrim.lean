/-
  Package split: single, Trim.
-/
import Derived.Test.YtajdfckppnedjaaDIndex

namespace Go.Proofs.Ytajdfckppnedjaa
open Go Go.RowKit

theorem single_last2 {s : ByteArray} (h : singleL (bs s)) : ∃ m, s.size = m + 2 ∧ (bs s)[m]? = some 45 ∧ ∃ c, (bs s)[m + 1]? = some c ∧ c ≠ 45 := by
  obtain ⟨a, c, e, hc⟩ := h
  refine ⟨a.length, ?_, ?_, c, ?_, hc⟩
  · rw [← size_bs, e]; simp
  · rw [e]; simp
  · rw [e, show a ++ [45, c] = (a ++ [45]) ++ [c] by simp, List.getElem?_append_right (by simp)]; simp
theorem single_of2 {s : ByteArray} {m : Nat} (h : s.size = m + 2) (h1 : (bs s)[m]? = some 45) {c : UInt8} (h2 : (bs s)[m + 1]? = some c) (hc : c ≠ 45) : singleL (bs s) := by
  refine ⟨(bs s).take m, c, ?_, hc⟩
  have hl : (bs s).length = m + 2 := by rw [size_bs]; exact h
  obtain ⟨q1, e1⟩ := List.getElem?_eq_some_iff.1 h1
  obtain ⟨q2, e2⟩ := List.getElem?_eq_some_iff.1 h2
  conv => lhs; rw [← List.take_append_drop m (bs s)]
  rw [List.drop_eq_getElem_cons q1, List.drop_eq_getElem_cons q2, e1, e2, List.drop_of_length_le (by omega)]

theorem mark_true {c : UInt8} (h : c = 45) : ((c.toNat : Int) == 45) = true ∧ ((c.toNat : Int) != 45) = false := by rw [h]; exact ⟨rfl, rfl⟩
theorem mark_false {c : UInt8} (h : c ≠ 45) : ((c.toNat : Int) == 45) = false ∧ ((c.toNat : Int) != 45) = true := by
  have e : ((c.toNat : Int) == 45) = false := by
    rw [beq_eq_false_iff_ne]
    exact fun e => h (UInt8.toNat_inj.1 (by have : c.toNat = 45 := by omega
                                            simpa using this))
  exact ⟨e, by rw [bne, e]; rfl⟩

theorem take_extract (s : ByteArray) (e : Nat) : s.extract 0 e = ofL ((bs s).take e) := by
  apply ofL_ext
  rw [bs_ofL]
  show (s.extract 0 e).data.toList = _
  rw [Lib.extract_data]
  simp
theorem trimS_none {s : ByteArray} (h : (45 : UInt8) ∉ bs s) : trimS s = ⟨#[]⟩ := by unfold trimS; rw [trimL_none h]; rfl
end Go.Proofs.Ytajdfckppnedjaa
