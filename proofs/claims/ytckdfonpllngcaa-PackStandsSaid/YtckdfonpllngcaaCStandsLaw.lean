/-
  PackStands: the walk of the law.
-/
import Derived.Test.YtckdfonpllngcaaCAwake
import Derived.OpenShut
namespace Go.Proofs.Ytckdfonpllngcaa
open Go Go.RowKit

theorem toList_ofL (l : List UInt8) : (ofL l).toList = l := by rw [ByteArray.toList_eq]; exact bs_ofL l

set_option maxHeartbeats 4000000 in
theorem stands_nat (n m : Nat) (w : World) (hn : n < 18446744073709551616) (hm : m < 18446744073709551616) :
    Calls Try.prog 4 #[.int .u64 (n : Int), .int .u64 (m : Int)] w fun e w' => e = .returned (.bool true) ∧ Below w.heap.size w w' := by
  have hl : Op.bytesLess (ofL (putL n 8)).toList (ofL (putL m 8)).toList = decide (n < m) := by
    rw [toList_ofL, toList_ofL, less_num 8 _ _ (length_putL n 8) (length_putL m 8), num_putL, num_putL, Nat.mod_eq_of_lt (by exact hn), Nat.mod_eq_of_lt (by exact hm)]
  have he : ((ofL (putL n 8)).toList == (ofL (putL m 8)).toList) = decide (n = m) := by
    rw [toList_ofL, toList_ofL, Bool.eq_iff_iff, beq_iff_eq, decide_eq_true_iff]
    exact ⟨fun h => putL_inj n m hn hm h, fun h => by rw [h]⟩
  have hz : ((ofL (putL n 8)).toList == (ofL (putL (n / 4294967296) 4) ++ ofL (putL n 4)).toList) = true := by
    rw [ofL_append, ← putL_halves, beq_self_eq_true]
  have A1 := onward w awake3_any
  have C1 := onward w fun w5 => put8 n w5
  have C2 := onward w fun w5 => put8 m w5
  have C3 := onward w fun w5 => put4 (n / 4294967296) w5
  have C4 := onward w fun w5 => put4 n w5
  have C5 := onward w fun w5 => put0 n w5
  have s1 : (ofL (putL (n / 4294967296) 4)).size = 4 := by rw [size_ofL, length_putL]
  have s2 : (ofL (putL n 4)).size = 4 := by rw [size_ofL, length_putL]
  have hB0 : Below w.heap.size w w := Below.refl _ _
  have hcast : ((n / 4294967296 : Nat) : Int) = (n : Int) / 4294967296 := by simp
  rw [hcast] at C3
  have hsun : ¬ (9223372036854775807 < (ofL (putL (n / 4294967296) 4)).size + (ofL (putL n 4)).size) := by omega
  clear hcast s1 s2
  have H : n < m ∨ n = m ∨ m < n := by omega
  have hI : n ≠ m → ((n : Int) == (m : Int)) = false := fun h => by simp; omega
  rcases H with h | h | h
  · rw [decide_eq_true h] at hl
    rw [decide_eq_false (by omega)] at he
    have g1 : (n : Int) < (m : Int) := by omega
    have g2 := hI (by omega)
    clear h hI
    generalize ofL (putL n 8) = x at *
    generalize ofL (putL m 8) = y at *
    generalize ofL (putL (n / 4294967296) 4) = x1 at *
    generalize ofL (putL n 4) = x2 at *
    go_enter Try.func4, Try.ntmps4
    go_wp2_with (first
      | (go_at_call 5; ((with_reducible refine (A1.out _ (by assumption)).mono ?_); rintro e w5 ⟨rfl, hb5⟩))
      | (go_at_call 8; ((with_reducible refine (C1.out _ (by assumption)).mono ?_); rintro e w5 ⟨rfl, hb5⟩))
      | (go_at_call 8; ((with_reducible refine (C2.out _ (by assumption)).mono ?_); rintro e w5 ⟨rfl, hb5⟩))
      | (go_at_call 8; ((with_reducible refine (C3.out _ (by assumption)).mono ?_); rintro e w5 ⟨rfl, hb5⟩))
      | (go_at_call 8; ((with_reducible refine (C4.out _ (by assumption)).mono ?_); rintro e w5 ⟨rfl, hb5⟩))
      | (go_at_call 8; ((with_reducible refine (C5.out _ (by assumption)).mono ?_); rintro e w5 ⟨rfl, hb5⟩)))
    go_ret
    exact ⟨rfl, by assumption⟩
  · subst h
    clear hI
    rw [decide_eq_false (by omega)] at hl
    rw [decide_eq_true rfl] at he
    generalize ofL (putL n 8) = x at *
    generalize ofL (putL (n / 4294967296) 4) = x1 at *
    generalize ofL (putL n 4) = x2 at *
    clear C2
    go_enter Try.func4, Try.ntmps4
    go_wp2_with (first
      | (go_at_call 5; ((with_reducible refine (A1.out _ (by assumption)).mono ?_); rintro e w5 ⟨rfl, hb5⟩))
      | (go_at_call 8; ((with_reducible refine (C1.out _ (by assumption)).mono ?_); rintro e w5 ⟨rfl, hb5⟩))
      | (go_at_call 8; ((with_reducible refine (C3.out _ (by assumption)).mono ?_); rintro e w5 ⟨rfl, hb5⟩))
      | (go_at_call 8; ((with_reducible refine (C4.out _ (by assumption)).mono ?_); rintro e w5 ⟨rfl, hb5⟩))
      | (go_at_call 8; ((with_reducible refine (C5.out _ (by assumption)).mono ?_); rintro e w5 ⟨rfl, hb5⟩)))
    go_ret
    exact ⟨rfl, by assumption⟩
  · rw [decide_eq_false (by omega)] at hl
    rw [decide_eq_false (by omega)] at he
    have g1 : decide (n < m) = false := decide_eq_false (by omega)
    have g2 := hI (by omega)
    clear h hI
    generalize ofL (putL n 8) = x at *
    generalize ofL (putL m 8) = y at *
    generalize ofL (putL (n / 4294967296) 4) = x1 at *
    generalize ofL (putL n 4) = x2 at *
    go_enter Try.func4, Try.ntmps4
    go_wp2_with (first
      | (go_at_call 5; ((with_reducible refine (A1.out _ (by assumption)).mono ?_); rintro e w5 ⟨rfl, hb5⟩))
      | (go_at_call 8; ((with_reducible refine (C1.out _ (by assumption)).mono ?_); rintro e w5 ⟨rfl, hb5⟩))
      | (go_at_call 8; ((with_reducible refine (C2.out _ (by assumption)).mono ?_); rintro e w5 ⟨rfl, hb5⟩))
      | (go_at_call 8; ((with_reducible refine (C3.out _ (by assumption)).mono ?_); rintro e w5 ⟨rfl, hb5⟩))
      | (go_at_call 8; ((with_reducible refine (C4.out _ (by assumption)).mono ?_); rintro e w5 ⟨rfl, hb5⟩))
      | (go_at_call 8; ((with_reducible refine (C5.out _ (by assumption)).mono ?_); rintro e w5 ⟨rfl, hb5⟩)))
    go_ret
    exact ⟨rfl, by assumption⟩

theorem stands_law (a b : Int) (w : World) (ha : (Lit.int .u64 a).wf = true) (hb : (Lit.int .u64 b).wf = true) :
    Calls Try.prog 4 #[.int .u64 a, .int .u64 b] w fun e w' => e = .returned (.bool true) ∧ Below w.heap.size w w' := by
  have h1 := bounds_u64 ha
  have h2 := bounds_u64 hb
  obtain ⟨n, rfl⟩ := Int.eq_ofNat_of_zero_le h1.1
  obtain ⟨m, rfl⟩ := Int.eq_ofNat_of_zero_le h2.1
  exact stands_nat n m w (by omega) (by omega)
end Go.Proofs.Ytckdfonpllngcaa
