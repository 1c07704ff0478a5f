/-
  PackBack: the walk of the law.
-/
import Derived.Test.YtckdfonpllngcaaDoorCUnref
import Derived.Test.YtckdfonpllngcaaDoorCAwake
import Derived.OpenShut
namespace Go.Proofs.YtckdfonpllngcaaDoor
open Go Go.RowKit

/-- What is packed, unpacked again. -/
theorem back_packed (t : ByteArray) : (packT (lowS t) = true ∧ unT (packN t) = lowS t ∧ packT (unS (packN t)) = true) ∨ (packT (lowS t) = false ∧ ((packN t : Nat) : Int) = 0) := by
  cases h : packT (lowS t) with
  | true =>
    have e : packN t = num 8 (bs (lowS t)) := by unfold packN; rw [if_pos h]
    have hu := unS_num h
    refine .inl ⟨rfl, ?_, ?_⟩
    · unfold unT; rw [e, hu, if_pos h]
    · rw [e, hu]; exact h
  | false => exact .inr ⟨rfl, by unfold packN; rw [if_neg (by simp [h])]; rfl⟩
/-- What is unpacked, packed again. -/
theorem back_unpacked (n : Nat) (hn : n < 256 ^ 8) : (packT (unS n) = true ∧ packN (unT n) = n ∧ packT (lowS (unT n)) = true ∧ decide (((unT n).size : Int) ≤ 8) = true) ∨ (packT (unS n) = false ∧ unT n = ⟨#[]⟩) := by
  cases h : packT (unS n) with
  | true =>
    have e : unT n = unS n := by unfold unT; rw [if_pos h]
    have hl := low_packed h
    refine .inl ⟨rfl, ?_, by rw [e, hl]; exact h, decide_eq_true (by have := size_unS n; rw [e]; omega)⟩
    unfold packN
    rw [e, hl, if_pos h]
    exact num_unS n hn
  | false => exact .inr ⟨rfl, by unfold unT; rw [if_neg (by simp [h])]; rfl⟩

set_option maxHeartbeats 8000000 in
theorem back3_nat (s : ByteArray) (n : Nat) (w : World) (hs : s.size ≤ maxLen) (hn : n < 18446744073709551616) :
    Calls Tryd.prog 4 #[.string s, .int .u64 (n : Int)] w fun e w' => e = .returned (.bool true) ∧ Below w.heap.size w w' := by
  obtain ⟨t, ht⟩ : ∃ t, cut20 s = t := ⟨_, rfl⟩
  have h20 : t.size ≤ 20 := by rw [← ht]; exact size_cut20 s
  have SH := told (onwardS w fun w5 => short20_any s w5 hs) (ret_string ht)
  have A1 := onward w awake3_any
  have C1 := onward w fun w5 => pack_any t w5 (by omega)
  have C2 := onward w fun w5 => unpack_any (packN t) w5
  have C3 := onward w fun w5 => unpack_any n w5
  have C4 := onward w fun w5 => lower_ref t w5 (by omega)
  have hu8 : (unT n).size ≤ 8 := by unfold unT; split; exact size_unS n; decide
  have C5 := onward w fun w5 => pack_any (unT n) w5 (by omega)
  have H1 := back_packed t
  have H2 := back_unpacked n hn
  have hB0 : Below w.heap.size w w := Below.refl _ _
  clear ht h20 hs hn
  generalize unT (packN t) = t' at *
  generalize packT (unS (packN t)) = two at *
  generalize ((packN t : Nat) : Int) = a at *
  generalize packT (lowS t) = one at *
  generalize lowS t = l at *
  generalize packT (lowS (unT n)) = ok at *
  generalize packN (unT n) = b at *
  generalize unT n = u at *
  generalize packT (unS n) = three at *
  rcases H1 with ⟨rfl, rfl, rfl⟩ | ⟨rfl, rfl⟩ <;> rcases H2 with ⟨rfl, rfl, rfl, h8⟩ | ⟨rfl, rfl⟩
  all_goals
    go_enter Tryd.func4, Tryd.ntmps4
    go_wp2_with (first
      | (go_at_call 5; ((with_reducible refine (A1.out _ (by assumption)).mono ?_); rintro e w5 ⟨rfl, hb5⟩))
      | (go_at_call 6; ((with_reducible refine (SH.out _ (by assumption)).mono ?_); rintro e w5 ⟨rfl, hb5⟩))
      | (go_at_call 7; ((with_reducible refine (C1.out _ (by assumption)).mono ?_); rintro e w5 ⟨rfl, hb5⟩))
      | (go_at_call 7; ((with_reducible refine (C5.out _ (by assumption)).mono ?_); rintro e w5 ⟨rfl, hb5⟩))
      | (go_at_call 10; ((with_reducible refine (C2.out _ (by assumption)).mono ?_); rintro e w5 ⟨rfl, hb5⟩))
      | (go_at_call 10; ((with_reducible refine (C3.out _ (by assumption)).mono ?_); rintro e w5 ⟨rfl, hb5⟩))
      | (go_at_call 11; ((with_reducible refine (C4.out _ (by assumption)).mono ?_); rintro e w5 ⟨rfl, hb5⟩)))
    go_ret
    exact ⟨rfl, by assumption⟩

theorem back3_law (s : ByteArray) (n : Int) (w : World) (hs : s.size ≤ maxLen) (hn : (Lit.int .u64 n).wf = true) :
    Calls Tryd.prog 4 #[.string s, .int .u64 n] w fun e w' => e = .returned (.bool true) ∧ Below w.heap.size w w' := by
  have h1 := bounds_u64 hn
  obtain ⟨n, rfl⟩ := Int.eq_ofNat_of_zero_le h1.1
  exact back3_nat s n w hs (by omega)
end Go.Proofs.YtckdfonpllngcaaDoor
