/-
  Package ascii: how texts stand: cmp.Compare, compare, Compare, Same.
-/
import Derived.Test.YtajdfckppnedjaaBByte
import Derived.WalkSmall
namespace Go.Proofs.Ytajdfckppnedjaa
open Go Go.RowKit

def sgn (a b : Int) : Int := if a < b then -1 else if b < a then 1 else 0

/- The comparison, place by place. -/
theorem cmpL_cons (x y : UInt8) (a b : List UInt8) : cmpL (x :: a) (y :: b) = if sgn (x.toNat : Int) y.toNat ≠ 0 then sgn (x.toNat : Int) y.toNat else cmpL a b := by
  by_cases h1 : x.toNat < y.toNat
  · have e : sgn (x.toNat : Int) y.toNat = -1 := by unfold sgn; rw [if_pos (by omega)]
    rw [e]; simp [cmpL, h1]
  · by_cases h2 : y.toNat < x.toNat
    · have e : sgn (x.toNat : Int) y.toNat = 1 := by unfold sgn; rw [if_neg (by omega), if_pos (by omega)]
      rw [e]; simp [cmpL, h1, h2]
    · have e : sgn (x.toNat : Int) y.toNat = 0 := by unfold sgn; rw [if_neg (by omega), if_neg (by omega)]
      rw [e]; simp [cmpL, h1, h2]
theorem cmpL_drop (a b : List UInt8) (k : Nat) (ha : k < a.length) (hb : k < b.length) :
    cmpL (a.drop k) (b.drop k) = if sgn (a[k].toNat : Int) b[k].toNat ≠ 0 then sgn (a[k].toNat : Int) b[k].toNat else cmpL (a.drop (k + 1)) (b.drop (k + 1)) := by
  rw [List.drop_eq_getElem_cons ha, List.drop_eq_getElem_cons hb, cmpL_cons]
theorem cmpL_nil_l {a b : List UInt8} (ha : a.length = 0) (hb : 0 < b.length) : cmpL a b = -1 := by
  cases a with
  | cons => simp at ha
  | nil => cases b with
    | nil => simp at hb
    | cons => rfl
theorem cmpL_nil_r {a b : List UInt8} (ha : 0 < a.length) (hb : b.length = 0) : cmpL a b = 1 := by
  cases b with
  | cons => simp at hb
  | nil => cases a with
    | nil => simp at ha
    | cons => rfl
theorem cmpL_nil {a b : List UInt8} (ha : a.length = 0) (hb : b.length = 0) : cmpL a b = 0 := by
  cases a with
  | cons => simp at ha
  | nil => cases b with
    | nil => rfl
    | cons => simp at hb
theorem cmpL_end (a b : List UInt8) (k : Nat) (h : k = min a.length b.length) : cmpL (a.drop k) (b.drop k) = sgn (a.length : Int) b.length := by
  unfold sgn
  rcases Nat.lt_trichotomy a.length b.length with h' | h' | h'
  · rw [if_pos (by omega), cmpL_nil_l (by rw [List.length_drop]; omega) (by rw [List.length_drop]; omega)]
  · rw [if_neg (by omega), if_neg (by omega), cmpL_nil (by rw [List.length_drop]; omega) (by rw [List.length_drop]; omega)]
  · rw [if_neg (by omega), if_pos (by omega), cmpL_nil_r (by rw [List.length_drop]; omega) (by rw [List.length_drop]; omega)]

/-- What the rounds of compare keep. -/
def CpI (a b : ByteArray) (k : Nat) : Prop := cmpS a b = cmpL (((bs a).map lowB).drop k) (((bs b).map lowB).drop k)
theorem CpI.step {a b : ByteArray} {k : Nat} (h : CpI a b k) (ha : k < a.size) (hb : k < b.size) : 
    (sgn ((lowB a[k]).toNat : Int) (lowB b[k]).toNat ≠ 0 → cmpS a b = sgn ((lowB a[k]).toNat : Int) (lowB b[k]).toNat) ∧ (sgn ((lowB a[k]).toNat : Int) (lowB b[k]).toNat = 0 → CpI a b (k + 1)) := by
  unfold CpI at *
  have := cmpL_drop ((bs a).map lowB) ((bs b).map lowB) k (by simpa [size_bs] using ha) (by simpa [size_bs] using hb)
  simp only [List.getElem_map] at this
  have e1 : (bs a)[k]'(by simpa [size_bs] using ha) = a[k] := rfl
  have e2 : (bs b)[k]'(by simpa [size_bs] using hb) = b[k] := rfl
  rw [e1, e2] at this
  rw [this] at h
  constructor
  · intro hn; rw [if_pos hn] at h; exact h
  · intro hn; rw [if_neg (by simpa using hn)] at h; exact h
theorem CpI.fin {a b : ByteArray} {k : Nat} (h : CpI a b k) (hk : k = min a.size b.size) : cmpS a b = sgn (a.size : Int) b.size := by
  unfold CpI at h
  rw [h, cmpL_end _ _ k (by simpa [size_bs] using hk)]
  simp

end Go.Proofs.Ytajdfckppnedjaa
