/-
  Package ascii: what a text has: all, Alpha, Digit, Alnum, Class.
-/
import Derived.Test.YtaeaknpkjgacdaaDoorBByte
import Derived.WalkSmall
namespace Go.Proofs.YtaeaknpkjgacdaaDoor
open Go Go.RowKit

theorem all_take_succ (p : UInt8 → Bool) (s : ByteArray) (k : Nat) (h : k < s.size) : ((bs s).take (k + 1)).all p = (((bs s).take k).all p && p s[k]) := by
  rw [List.take_succ_eq_append_getElem (by simpa [size_bs] using h), List.all_append]
  simp
  rfl

theorem has_false_at (p : UInt8 → Bool) (s : ByteArray) (k : Nat) (h : k < s.size) (hp : p s[k] = false) : has p s = false := by
  unfold has
  rw [Bool.and_eq_false_iff]
  right
  rw [List.all_eq_false]
  exact ⟨s[k], List.getElem_mem (l := bs s) (by simpa [size_bs] using h), by simp [hp]⟩
theorem has_all (p : UInt8 → Bool) (s : ByteArray) (h : ((bs s).take s.size).all p = true) : has p s = !s.toList.isEmpty := by
  rw [List.take_of_length_le (by simp)] at h
  unfold has
  rw [h, ByteArray.toList_eq]
  simp

theorem has_congr {p q : UInt8 → Bool} (h : ∀ c, p c = q c) (s : ByteArray) : has p s = has q s := by
  rw [funext h]
end Go.Proofs.YtaeaknpkjgacdaaDoor
