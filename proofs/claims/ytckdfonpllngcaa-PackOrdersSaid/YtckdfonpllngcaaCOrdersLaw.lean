/-
  PackOrders: the walk of the law.
-/
import Derived.Test.YtckdfonpllngcaaCAwake
namespace Go.Proofs.Ytckdfonpllngcaa
open Go Go.RowKit

theorem cmpS_pack (x y : ByteArray) (hx : packT (lowS x) = true) (hy : packT (lowS y) = true) :
    cmpS x y = if packN x < packN y then -1 else if packN y < packN x then 1 else 0 := by
  have h1 := (packT_iff _).1 hx
  have h2 := (packT_iff _).1 hy
  unfold packN
  rw [if_pos hx, if_pos hy, ← cmpL_num 8 (bs (lowS x)) (bs (lowS y)) h1.1 h2.1 (fun c hc => isP_nz c (h1.2 c hc)) (fun c hc => isP_nz c (h2.2 c hc))]
  unfold cmpS lowS
  rw [bs_ofL, bs_ofL]

set_option maxHeartbeats 16000000 in
theorem orders3_core (a b x y : ByteArray) (w : World) (ha : a.size ≤ maxLen) (hb : b.size ≤ maxLen)
    (hx : (8 < a.size ∧ x = a.extract 0 8) ∨ (¬ 8 < a.size ∧ x = a)) (hy : (8 < b.size ∧ y = b.extract 0 8) ∨ (¬ 8 < b.size ∧ y = b)) :
    Calls Try.prog 3 #[.string a, .string b] w fun e w' => e = .returned (.bool true) ∧ Below w.heap.size w w' := by
  have sx : x.size ≤ 8 := by
    rcases hx with ⟨h, rfl⟩ | ⟨h, rfl⟩
    · rw [ByteArray.size_extract]; omega
    · omega
  have sy : y.size ≤ 8 := by
    rcases hy with ⟨h, rfl⟩ | ⟨h, rfl⟩
    · rw [ByteArray.size_extract]; omega
    · omega
  have A1 := onward w awake3_any
  have C1 := onward w fun w5 => pack_any x w5 (by omega)
  have C2 := onward w fun w5 => pack_any y w5 (by omega)
  have C3 := onward w fun w5 => compare_ref x y w5 (by omega) (by omega)
  have HC := cmpS_pack x y
  have hB0 : Below w.heap.size w w := Below.refl _ _
  unfold maxLen at ha hb
  generalize packT (lowS x) = p at *
  generalize packT (lowS y) = q at *
  generalize packN x = n at *
  generalize packN y = m at *
  generalize cmpS x y = c at *
  have H : p = false ∨ (p = true ∧ q = false) ∨ (p = true ∧ q = true ∧ n < m ∧ c = -1) ∨ (p = true ∧ q = true ∧ n = m ∧ c = 0) ∨ (p = true ∧ q = true ∧ m < n ∧ c = 1) := by
    cases p with
    | false => exact .inl rfl
    | true =>
      cases q with
      | false => exact .inr (.inl ⟨rfl, rfl⟩)
      | true =>
        have := HC rfl rfl
        rcases Nat.lt_trichotomy n m with h | h | h
        · rw [if_pos h] at this; exact .inr (.inr (.inl ⟨rfl, rfl, h, this⟩))
        · rw [if_neg (by omega), if_neg (by omega)] at this; exact .inr (.inr (.inr (.inl ⟨rfl, rfl, h, this⟩)))
        · rw [if_neg (by omega), if_pos h] at this; exact .inr (.inr (.inr (.inr ⟨rfl, rfl, h, this⟩)))
  clear HC
  have hI : n ≠ m → ((n : Int) == (m : Int)) = false := fun h => by simp; omega
  have gf : p = false ∨ (p = true ∧ q = false) ∨ (p = true ∧ q = true ∧ ((n : Int) < (m : Int) ∧ ((n : Int) == (m : Int)) = false) ∧ c = -1) ∨ (p = true ∧ q = true ∧ n = m ∧ c = 0) ∨ (p = true ∧ q = true ∧ (decide (n < m) = false ∧ ((n : Int) == (m : Int)) = false) ∧ c = 1) := by
    rcases H with h | h | ⟨h1, h2, h3, h4⟩ | h | ⟨h1, h2, h3, h4⟩
    · exact .inl h
    · exact .inr (.inl h)
    · exact .inr (.inr (.inl ⟨h1, h2, ⟨by omega, hI (by omega)⟩, h4⟩))
    · exact .inr (.inr (.inr (.inl h)))
    · exact .inr (.inr (.inr (.inr ⟨h1, h2, ⟨decide_eq_false (by omega), hI (by omega)⟩, h4⟩)))
  clear H hI sx sy
  rcases hx with ⟨hx1, rfl⟩ | ⟨hx1, rfl⟩ <;> rcases hy with ⟨hy1, rfl⟩ | ⟨hy1, rfl⟩ <;> rcases gf with rfl | ⟨rfl, rfl⟩ | ⟨rfl, rfl, ⟨g1, g2⟩, rfl⟩ | ⟨rfl, rfl, rfl, rfl⟩ | ⟨rfl, rfl, ⟨g1, g2⟩, rfl⟩
  all_goals
    go_enter Try.func3, Try.ntmps3
    go_wp2_with (first
      | (go_at_call 5; ((with_reducible refine (A1.out _ (by assumption)).mono ?_); rintro e w5 ⟨rfl, hb5⟩))
      | (go_at_call 6; ((with_reducible refine (C1.out _ (by assumption)).mono ?_); rintro e w5 ⟨rfl, hb5⟩))
      | (go_at_call 6; ((with_reducible refine (C2.out _ (by assumption)).mono ?_); rintro e w5 ⟨rfl, hb5⟩))
      | (go_at_call 7; ((with_reducible refine (C3.out _ (by assumption)).mono ?_); rintro e w5 ⟨rfl, hb5⟩)))
    go_ret
    exact ⟨rfl, by assumption⟩

theorem orders3_law (a b : ByteArray) (w : World) (ha : a.size ≤ maxLen) (hb : b.size ≤ maxLen) :
    Calls Try.prog 3 #[.string a, .string b] w fun e w' => e = .returned (.bool true) ∧ Below w.heap.size w w' := by
  by_cases h1 : 8 < a.size <;> by_cases h2 : 8 < b.size
  · exact orders3_core a b _ _ w ha hb (.inl ⟨h1, rfl⟩) (.inl ⟨h2, rfl⟩)
  · exact orders3_core a b _ _ w ha hb (.inl ⟨h1, rfl⟩) (.inr ⟨h2, rfl⟩)
  · exact orders3_core a b _ _ w ha hb (.inr ⟨h1, rfl⟩) (.inl ⟨h2, rfl⟩)
  · exact orders3_core a b _ _ w ha hb (.inr ⟨h1, rfl⟩) (.inr ⟨h2, rfl⟩)
end Go.Proofs.Ytckdfonpllngcaa
