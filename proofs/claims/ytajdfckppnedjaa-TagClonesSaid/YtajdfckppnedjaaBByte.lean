/-
  Package ascii: one byte: marks, small, large, and the document's own lower, upper, letter and digit.
-/
import Derived.Test.YtajdfckppnedjaaProg
import Derived.Test.YtajdfckppnedjaaBMath
import Derived.WalkKit
import Derived.Lib.Hide
import Derived.Outline
import Derived.Deep.QuietTactic
import Derived.BigQuiet
namespace Go.Proofs.Ytajdfckppnedjaa
open Go Go.RowKit

theorem marks_up (c : UInt8) (w : World) (h1 : 65 ≤ c.toNat) (h2 : c.toNat ≤ 90) :
    Calls Try.prog 40 #[.int .u8 c.toNat] w fun e w' => e = .returned (.int .i64 3) ∧ w = w' := by
  go_enter Try.func40, Try.ntmps40
  go_wp2
  go_ret
  exact ⟨rfl, rfl⟩
theorem marks_low (c : UInt8) (w : World) (h1 : 97 ≤ c.toNat) (h2 : c.toNat ≤ 122) :
    Calls Try.prog 40 #[.int .u8 c.toNat] w fun e w' => e = .returned (.int .i64 2) ∧ w = w' := by
  go_enter Try.func40, Try.ntmps40
  go_wp2
  go_ret
  exact ⟨rfl, rfl⟩
theorem marks_dig (c : UInt8) (w : World) (h1 : 48 ≤ c.toNat) (h2 : c.toNat ≤ 57) :
    Calls Try.prog 40 #[.int .u8 c.toNat] w fun e w' => e = .returned (.int .i64 4) ∧ w = w' := by
  go_enter Try.func40, Try.ntmps40
  go_wp2
  go_ret
  exact ⟨rfl, rfl⟩
theorem marks_non (c : UInt8) (w : World) (h1 : c.toNat < 65 ∨ 90 < c.toNat) (h2 : c.toNat < 97 ∨ 122 < c.toNat) (h3 : c.toNat < 48 ∨ 57 < c.toNat) :
    Calls Try.prog 40 #[.int .u8 c.toNat] w fun e w' => e = .returned (.int .i64 0) ∧ w = w' := by
  have h : c.toNat < 48 ∨ (57 < c.toNat ∧ c.toNat < 65) ∨ (90 < c.toNat ∧ c.toNat < 97) ∨ 122 < c.toNat := by omega
  clear h1 h2 h3
  rcases h with h | ⟨h, h'⟩ | ⟨h, h'⟩ | h
  all_goals
    go_enter Try.func40, Try.ntmps40
    go_wp2
    go_ret
    exact ⟨rfl, rfl⟩

theorem low_int_U (c : UInt8) (h1 : 65 ≤ c.toNat) (h2 : c.toNat ≤ 90) : ((lowB c).toNat : Int) = c.toNat + 32 := by
  have := low_nat_U c ((isU_iff c).2 ⟨h1, h2⟩); omega
theorem low_int (c : UInt8) (h : c.toNat < 65 ∨ 90 < c.toNat) : lowB c = c := low_nat c (by
  rcases hh : isU c with _ | _
  · rfl
  · have := (isU_iff c).1 hh; omega)
theorem up_int_L (c : UInt8) (h1 : 97 ≤ c.toNat) (h2 : c.toNat ≤ 122) : ((upB c).toNat : Int) = c.toNat - 32 := by
  have := up_nat_L c ((isL_iff c).2 ⟨h1, h2⟩); omega
theorem up_int (c : UInt8) (h : c.toNat < 97 ∨ 122 < c.toNat) : upB c = c := up_nat c (by
  rcases hh : isL c with _ | _
  · rfl
  · have := (isL_iff c).1 hh; omega)
theorem ret_bool {a b : Bool} (h : a = b) : Ending.returned (.bool a) = .returned (.bool b) := by rw [h]
theorem ret_int {k : IntKind} {a b : Int} (h : a = b) : Ending.returned (.int k a) = .returned (.int k b) := by rw [h]

theorem lower_any (c : UInt8) (w : World) :
    Calls Try.prog 42 #[.int .u8 c.toNat] w fun e w' => e = .returned (.int .u8 (lowB c).toNat) ∧ w = w' := by
  by_cases h1 : 65 ≤ c.toNat
  · by_cases h2 : c.toNat ≤ 90
    · have HE := Lib.hid (low_int_U c h1 h2)
      go_enter Try.func42, Try.ntmps42
      go_wp2
      go_ret
      exact ⟨ret_int (by rw [HE.out]; omega), rfl⟩
    · have HE := Lib.hid (low_int c (by omega))
      go_enter Try.func42, Try.ntmps42
      go_wp2
      go_ret
      rw [HE.out]
      exact ⟨rfl, rfl⟩
  · have HE := Lib.hid (low_int c (by omega))
    go_enter Try.func42, Try.ntmps42
    go_wp2
    go_ret
    rw [HE.out]
    exact ⟨rfl, rfl⟩
theorem upper_any (c : UInt8) (w : World) :
    Calls Try.prog 41 #[.int .u8 c.toNat] w fun e w' => e = .returned (.int .u8 (upB c).toNat) ∧ w = w' := by
  by_cases h1 : 97 ≤ c.toNat
  · by_cases h2 : c.toNat ≤ 122
    · have HE := Lib.hid (up_int_L c h1 h2)
      go_enter Try.func41, Try.ntmps41
      go_wp2
      go_ret
      exact ⟨ret_int (by rw [HE.out]; omega), rfl⟩
    · have HE := Lib.hid (up_int c (by omega))
      go_enter Try.func41, Try.ntmps41
      go_wp2
      go_ret
      rw [HE.out]
      exact ⟨rfl, rfl⟩
  · have HE := Lib.hid (up_int c (by omega))
    go_enter Try.func41, Try.ntmps41
    go_wp2
    go_ret
    rw [HE.out]
    exact ⟨rfl, rfl⟩

theorem isA_true {c : UInt8} (h : (65 ≤ c.toNat ∧ c.toNat ≤ 90) ∨ (97 ≤ c.toNat ∧ c.toNat ≤ 122)) : isA c = true := by
  unfold isA; rw [Bool.or_eq_true, isU_iff, isL_iff]; exact h
theorem isA_false {c : UInt8} (h1 : c.toNat < 65 ∨ 90 < c.toNat) (h2 : c.toNat < 97 ∨ 122 < c.toNat) : isA c = false := by
  cases h : isA c with
  | false => rfl
  | true => unfold isA at h; rw [Bool.or_eq_true, isU_iff, isL_iff] at h; omega
theorem isD_true {c : UInt8} (h1 : 48 ≤ c.toNat) (h2 : c.toNat ≤ 57) : isD c = true := (isD_iff c).2 ⟨h1, h2⟩
theorem isD_false {c : UInt8} (h : c.toNat < 48 ∨ 57 < c.toNat) : isD c = false := by
  cases hh : isD c with
  | false => rfl
  | true => rw [isD_iff] at hh; omega

/-- What Title makes of a byte at a place. -/
def titB (i : Nat) (c : UInt8) : UInt8 := if i = 0 then upB c else lowB c
/-- What a row of marks asks of a byte. -/
def mkP (m : Int) (c : UInt8) : Bool := if m = 2 then isA c else if m = 4 then isD c else isN c
theorem mkP_2 (c : UInt8) : mkP 2 c = isA c := by simp [mkP]
theorem mkP_4 (c : UInt8) : mkP 4 c = isD c := by simp [mkP]
theorem mkP_6 (c : UInt8) : mkP 6 c = (isA c || isD c) := by simp [mkP, isN]
theorem marked1_quiet (m : Int) (hm : m = 2 ∨ m = 4 ∨ m = 6) (c : UInt8) (a : Addr) (w : World) (h : w.cell? a = some (.int .i64 m)) :
    Calls Try.prog 39 #[.int .u8 c.toNat, .pointer (some a)] w fun e w' => e = .returned (.bool (mkP m c)) ∧ ∃ n, w' = w.drewN n := by
  have K := kd c
  rcases K with ⟨h1, h2⟩ | ⟨h1, h2⟩ | ⟨h1, h2⟩ | ⟨h1, h2, h3⟩
  · have HA := Lib.hid (isA_true (c := c) (by omega))
    have HD := Lib.hid (isD_false (c := c) (by omega))
    rcases hm with rfl | rfl | rfl
    all_goals
      go_enter Try.func39, Try.ntmps39
      go_wp2
      go_quiet ((go_at_call 40; exact Calls.quiet_of_same ((marks_up _ _ h1 h2).mono fun _ _ ⟨a, b⟩ => ⟨a, b.symm⟩)))
      go_wp2
      go_ret
      exact ⟨ret_bool (by simp only [mkP_2, mkP_4, mkP_6, HA.out, HD.out]; decide), _, rfl⟩
  · have HA := Lib.hid (isA_true (c := c) (by omega))
    have HD := Lib.hid (isD_false (c := c) (by omega))
    rcases hm with rfl | rfl | rfl
    all_goals
      go_enter Try.func39, Try.ntmps39
      go_wp2
      go_quiet ((go_at_call 40; exact Calls.quiet_of_same ((marks_low _ _ h1 h2).mono fun _ _ ⟨a, b⟩ => ⟨a, b.symm⟩)))
      go_wp2
      go_ret
      exact ⟨ret_bool (by simp only [mkP_2, mkP_4, mkP_6, HA.out, HD.out]; decide), _, rfl⟩
  · have HA := Lib.hid (isA_false (c := c) (by omega) (by omega))
    have HD := Lib.hid (isD_true (c := c) h1 h2)
    rcases hm with rfl | rfl | rfl
    all_goals
      go_enter Try.func39, Try.ntmps39
      go_wp2
      go_quiet ((go_at_call 40; exact Calls.quiet_of_same ((marks_dig _ _ h1 h2).mono fun _ _ ⟨a, b⟩ => ⟨a, b.symm⟩)))
      go_wp2
      go_ret
      exact ⟨ret_bool (by simp only [mkP_2, mkP_4, mkP_6, HA.out, HD.out]; decide), _, rfl⟩
  · have HA := Lib.hid (isA_false (c := c) (by omega) (by omega))
    have HD := Lib.hid (isD_false (c := c) (by omega))
    rcases hm with rfl | rfl | rfl
    all_goals
      go_enter Try.func39, Try.ntmps39
      go_wp2
      go_quiet ((go_at_call 40; exact Calls.quiet_of_same ((marks_non _ _ h1 h2 h3).mono fun _ _ ⟨a, b⟩ => ⟨a, b.symm⟩)))
      go_wp2
      go_ret
      exact ⟨ret_bool (by simp only [mkP_2, mkP_4, mkP_6, HA.out, HD.out]; decide), _, rfl⟩
end Go.Proofs.Ytajdfckppnedjaa
