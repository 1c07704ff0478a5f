/-
  Package ascii: how texts stand: cmp.Compare, compare, Compare, Same.
-/
import Derived.Test.YtdgeaelblebaoaaBByte
import Derived.WalkSmall
namespace Go.Proofs.Ytdgeaelblebaoaa
open Go Go.RowKit

def sgn (a b : Int) : Int := if a < b then -1 else if b < a then 1 else 0

theorem cmpByte_any (x y : UInt8) (w : World) :
    Calls Try.prog 86 #[.int .u8 x.toNat, .int .u8 y.toNat] w fun e w' => e = .returned (.int .i64 (sgn x.toNat y.toNat)) ∧ w = w' := by
  have h : (x.toNat < y.toNat) ∨ (x.toNat = y.toNat) ∨ (y.toNat < x.toNat) := by omega
  rcases h with h | h | h
  · have HE := Lib.hid (show sgn x.toNat y.toNat = -1 by unfold sgn; rw [if_pos (by omega)])
    go_enter Try.func86, Try.ntmps86
    go_wp2
    go_ret
    exact ⟨ret_int HE.out.symm, rfl⟩
  · have HE := Lib.hid (show sgn x.toNat y.toNat = 0 by unfold sgn; rw [if_neg (by omega), if_neg (by omega)])
    obtain rfl : x = y := UInt8.toNat_inj.1 h
    clear h
    go_enter Try.func86, Try.ntmps86
    go_wp2
    go_ret
    exact ⟨ret_int HE.out.symm, rfl⟩
  · have HE := Lib.hid (show sgn x.toNat y.toNat = 1 by unfold sgn; rw [if_neg (by omega), if_pos (by omega)])
    go_enter Try.func86, Try.ntmps86
    go_wp2
    go_ret
    exact ⟨ret_int HE.out.symm, rfl⟩
theorem cmpInt_any (x y : Int) (w : World) :
    Calls Try.prog 87 #[.int .i64 x, .int .i64 y] w fun e w' => e = .returned (.int .i64 (sgn x y)) ∧ w = w' := by
  have h : x < y ∨ x = y ∨ y < x := by omega
  rcases h with h | h | h
  · have HE := Lib.hid (show sgn x y = -1 by unfold sgn; rw [if_pos (by omega)])
    go_enter Try.func87, Try.ntmps87
    go_wp2
    go_ret
    exact ⟨ret_int HE.out.symm, rfl⟩
  · have HE := Lib.hid (show sgn x y = 0 by unfold sgn; rw [if_neg (by omega), if_neg (by omega)])
    subst h
    go_enter Try.func87, Try.ntmps87
    go_wp2
    go_ret
    exact ⟨ret_int HE.out.symm, rfl⟩
  · have HE := Lib.hid (show sgn x y = 1 by unfold sgn; rw [if_neg (by omega), if_pos (by omega)])
    go_enter Try.func87, Try.ntmps87
    go_wp2
    go_ret
    exact ⟨ret_int HE.out.symm, rfl⟩

/- The comparison, place by place. -/
theorem cmpL_cons (x y : UInt8) (a b : List UInt8) : cmpL (x :: a) (y :: b) = if sgn (x.toNat : Int) y.toNat ≠ 0 then sgn (x.toNat : Int) y.toNat else cmpL a b := by
  by_cases h1 : x.toNat < y.toNat
  · have e : sgn (x.toNat : Int) y.toNat = -1 := by unfold sgn; rw [if_pos (by omega)]
    rw [e]; simp [cmpL, h1]
  · by_cases h2 : y.toNat < x.toNat
    · have e : sgn (x.toNat : Int) y.toNat = 1 := by unfold sgn; rw [if_neg (by omega), if_pos (by omega)]
      rw [e]; simp [cmpL, h1, h2]
    · have e : sgn (x.toNat : Int) y.toNat = 0 := by unfold sgn; rw [if_neg (by omega), if_neg (by omega)]
      rw [e]; simp [cmpL, h1, h2]
theorem cmpL_drop (a b : List UInt8) (k : Nat) (ha : k < a.length) (hb : k < b.length) :
    cmpL (a.drop k) (b.drop k) = if sgn (a[k].toNat : Int) b[k].toNat ≠ 0 then sgn (a[k].toNat : Int) b[k].toNat else cmpL (a.drop (k + 1)) (b.drop (k + 1)) := by
  rw [List.drop_eq_getElem_cons ha, List.drop_eq_getElem_cons hb, cmpL_cons]
theorem cmpL_nil_l {a b : List UInt8} (ha : a.length = 0) (hb : 0 < b.length) : cmpL a b = -1 := by
  cases a with
  | cons => simp at ha
  | nil => cases b with
    | nil => simp at hb
    | cons => rfl
theorem cmpL_nil_r {a b : List UInt8} (ha : 0 < a.length) (hb : b.length = 0) : cmpL a b = 1 := by
  cases b with
  | cons => simp at hb
  | nil => cases a with
    | nil => simp at ha
    | cons => rfl
theorem cmpL_nil {a b : List UInt8} (ha : a.length = 0) (hb : b.length = 0) : cmpL a b = 0 := by
  cases a with
  | cons => simp at ha
  | nil => cases b with
    | nil => rfl
    | cons => simp at hb
theorem cmpL_end (a b : List UInt8) (k : Nat) (h : k = min a.length b.length) : cmpL (a.drop k) (b.drop k) = sgn (a.length : Int) b.length := by
  unfold sgn
  rcases Nat.lt_trichotomy a.length b.length with h' | h' | h'
  · rw [if_pos (by omega), cmpL_nil_l (by rw [List.length_drop]; omega) (by rw [List.length_drop]; omega)]
  · rw [if_neg (by omega), if_neg (by omega), cmpL_nil (by rw [List.length_drop]; omega) (by rw [List.length_drop]; omega)]
  · rw [if_neg (by omega), if_pos (by omega), cmpL_nil_r (by rw [List.length_drop]; omega) (by rw [List.length_drop]; omega)]

/-- What the rounds of compare keep. -/
def CpI (a b : ByteArray) (k : Nat) : Prop := cmpS a b = cmpL (((bs a).map lowB).drop k) (((bs b).map lowB).drop k)
theorem CpI.step {a b : ByteArray} {k : Nat} (h : CpI a b k) (ha : k < a.size) (hb : k < b.size) : 
    (sgn ((lowB a[k]).toNat : Int) (lowB b[k]).toNat ≠ 0 → cmpS a b = sgn ((lowB a[k]).toNat : Int) (lowB b[k]).toNat) ∧ (sgn ((lowB a[k]).toNat : Int) (lowB b[k]).toNat = 0 → CpI a b (k + 1)) := by
  unfold CpI at *
  have := cmpL_drop ((bs a).map lowB) ((bs b).map lowB) k (by simpa [size_bs] using ha) (by simpa [size_bs] using hb)
  simp only [List.getElem_map] at this
  have e1 : (bs a)[k]'(by simpa [size_bs] using ha) = a[k] := rfl
  have e2 : (bs b)[k]'(by simpa [size_bs] using hb) = b[k] := rfl
  rw [e1, e2] at this
  rw [this] at h
  constructor
  · intro hn; rw [if_pos hn] at h; exact h
  · intro hn; rw [if_neg (by simpa using hn)] at h; exact h
theorem CpI.fin {a b : ByteArray} {k : Nat} (h : CpI a b k) (hk : k = min a.size b.size) : cmpS a b = sgn (a.size : Int) b.size := by
  unfold CpI at h
  rw [h, cmpL_end _ _ k (by simpa [size_bs] using hk)]
  simp

set_option maxHeartbeats 800000 in
theorem compare_any (a b : ByteArray) (w : World) (ha : a.size ≤ maxLen) (hb : b.size ≤ maxLen) :
    Calls Try.prog 82 #[.string a, .string b, .func (.func 83) #[] #[]] w fun e w' => e = .returned (.int .i64 (cmpS a b)) ∧ Below w.heap.size w w' := by
  unfold maxLen at ha hb
  by_cases hab : a.size ≤ b.size
  · go_enter Try.func82, Try.ntmps82
    go_wp2
    go_loopw [14] (fun i wr => ∃ k : Nat, k ≤ a.size ∧ i = .int .i64 k ∧ CpI a b k ∧ Below w.heap.size w wr) (fun i _ => a.size - (intOf i).toNat)
    case atStart => exact ⟨0, Nat.zero_le _, rfl, rfl, Below.refl _ _⟩
    case round =>
      obtain ⟨k, hk, rfl, HR, hB⟩ := hrel
      by_cases hlt : k < a.size
      · have hltb : k < b.size := by omega
        have HS := Lib.hid (HR.step (by omega) (by omega))
        go_wp2
        go_quiet (first | (go_at_call 83; exact Calls.quiet_of_same ((small_any _ _).mono fun _ _ ⟨p, q⟩ => ⟨p, q.symm⟩)) | (go_at_call 86; exact Calls.quiet_of_same ((cmpByte_any _ _ _).mono fun _ _ ⟨p, q⟩ => ⟨p, q.symm⟩)))
        go_wp2
        · have hz : (sgn ((lowB a[k]).toNat : Int) (lowB b[k]).toNat != 0) = true := by assumption
          go_ret
          exact ⟨ret_int (HS.out.1 (by simpa using hz)).symm, below_drewN hB _⟩
        · have hz : (sgn ((lowB a[k]).toNat : Int) (lowB b[k]).toNat != 0) = false := by assumption
          go_roundw
          case rel => exact ⟨k + 1, by omega, by go_num, HS.out.2 (by simpa using hz), below_drewN hB _⟩
          case measure => simp [intOf]; omega
      · obtain rfl : k = a.size := by omega
        have HE := Lib.hid (HR.fin (by omega))
        go_wp2_with (go_at_call 87; refine (cmpInt_any _ _ _).mono ?_; rintro e w' ⟨rfl, rfl⟩)
        go_ret
        exact ⟨ret_int HE.out.symm, hB⟩
  · go_enter Try.func82, Try.ntmps82
    go_wp2
    go_loopw [14] (fun i wr => ∃ k : Nat, k ≤ b.size ∧ i = .int .i64 k ∧ CpI a b k ∧ Below w.heap.size w wr) (fun i _ => b.size - (intOf i).toNat)
    case atStart => exact ⟨0, Nat.zero_le _, rfl, rfl, Below.refl _ _⟩
    case round =>
      obtain ⟨k, hk, rfl, HR, hB⟩ := hrel
      by_cases hlt : k < b.size
      · have hltb : k < a.size := by omega
        have HS := Lib.hid (HR.step (by omega) (by omega))
        go_wp2
        go_quiet (first | (go_at_call 83; exact Calls.quiet_of_same ((small_any _ _).mono fun _ _ ⟨p, q⟩ => ⟨p, q.symm⟩)) | (go_at_call 86; exact Calls.quiet_of_same ((cmpByte_any _ _ _).mono fun _ _ ⟨p, q⟩ => ⟨p, q.symm⟩)))
        go_wp2
        · have hz : (sgn ((lowB a[k]).toNat : Int) (lowB b[k]).toNat != 0) = true := by assumption
          go_ret
          exact ⟨ret_int (HS.out.1 (by simpa using hz)).symm, below_drewN hB _⟩
        · have hz : (sgn ((lowB a[k]).toNat : Int) (lowB b[k]).toNat != 0) = false := by assumption
          go_roundw
          case rel => exact ⟨k + 1, by omega, by go_num, HS.out.2 (by simpa using hz), below_drewN hB _⟩
          case measure => simp [intOf]; omega
      · obtain rfl : k = b.size := by omega
        have HE := Lib.hid (HR.fin (by omega))
        go_wp2_with (go_at_call 87; refine (cmpInt_any _ _ _).mono ?_; rintro e w' ⟨rfl, rfl⟩)
        go_ret
        exact ⟨ret_int HE.out.symm, hB⟩

theorem comp_any (a b : ByteArray) (w : World) (ha : a.size ≤ maxLen) (hb : b.size ≤ maxLen) :
    Calls Try.prog 64 #[.string a, .string b] w fun e w' => e = .returned (.int .i64 (cmpS a b)) ∧ Below w.heap.size w w' := by
  go_enter Try.func64, Try.ntmps64
  go_wp2_with (go_at_call 82; refine (compare_any a b _ ha hb).mono ?_; rintro e w' ⟨rfl, hb⟩)
  go_ret
  exact ⟨rfl, hb⟩
theorem same_any (a b : ByteArray) (w : World) (ha : a.size ≤ maxLen) (hb : b.size ≤ maxLen) :
    Calls Try.prog 43 #[.string a, .string b] w fun e w' => e = .returned (.bool (sameS a b)) ∧ Below w.heap.size w w' := by
  go_enter Try.func43, Try.ntmps43
  go_wp2_with (go_at_call 64; refine (comp_any a b _ ha hb).mono ?_; rintro e w' ⟨rfl, hb⟩)
  go_ret
  exact ⟨ret_bool (by unfold sameS; rw [Bool.eq_iff_iff]; simp), hb⟩
end Go.Proofs.Ytdgeaelblebaoaa
