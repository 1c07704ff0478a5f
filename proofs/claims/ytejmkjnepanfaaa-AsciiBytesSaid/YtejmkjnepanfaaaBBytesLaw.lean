/-
  AsciiBytes: the walk of the law.
-/
import Derived.Test.YtejmkjnepanfaaaBKit
namespace Go.Proofs.Ytejmkjnepanfaaa
open Go Go.RowKit

/-- What a text has, and one byte more: behind it, ahead of it. -/
theorem bs_app (a b : ByteArray) : bs (a ++ b) = bs a ++ bs b := by simp [bs]
theorem bs_empty {s : ByteArray} (h : s.size = 0) : bs s = [] := List.eq_nil_of_length_eq_zero (by rw [size_bs]; exact h)
theorem has_behind (p : UInt8 → Bool) (s : ByteArray) (c : UInt8) (h : p c = true) (hs : s.size = 0 ∨ has p s = true) : has p (s ++ ofL [c]) = true := by
  unfold has at *
  rw [bs_app, bs_ofL]
  rcases hs with hs | hs
  · rw [bs_empty hs]; simp [h]
  · rw [Bool.and_eq_true] at hs
    simp [h, List.all_append, hs.2]
theorem has_behind_not (p : UInt8 → Bool) (s : ByteArray) (c : UInt8) (h : p c = false) : has p (s ++ ofL [c]) = false := by
  unfold has
  rw [bs_app, bs_ofL]
  simp [h, List.all_append]
theorem has_behind_no (p : UInt8 → Bool) (s : ByteArray) (c : UInt8) (h : 0 < s.size) (hs : has p s = false) : has p (s ++ ofL [c]) = false := by
  have he : (bs s).isEmpty = false := by
    rw [← size_bs] at h
    cases hb : bs s with
    | nil => rw [hb] at h; simp at h
    | cons => rfl
  unfold has at *
  rw [he] at hs
  rw [bs_app, bs_ofL, List.all_append]
  simp only [Bool.not_false, Bool.true_and] at hs
  rw [hs]; simp
theorem has_ahead (p : UInt8 → Bool) (s : ByteArray) (c : UInt8) : has p (ofL [c] ++ s) = (p c && (bs s).all p) := by
  unfold has
  rw [bs_app, bs_ofL]
  simp
theorem all_of_has {p : UInt8 → Bool} {s : ByteArray} (hs : s.size = 0 ∨ has p s = true) : (bs s).all p = true := by
  rcases hs with hs | hs
  · rw [bs_empty hs]; rfl
  · unfold has at hs; rw [Bool.and_eq_true] at hs; exact hs.2
theorem not_all_of {p : UInt8 → Bool} {s : ByteArray} (h : 0 < s.size) (hs : has p s = false) : (bs s).all p = false := by
  have he : (bs s).isEmpty = false := by
    rw [← size_bs] at h
    cases hb : bs s with
    | nil => rw [hb] at h; simp at h
    | cons => rfl
  unfold has at hs
  rw [he] at hs
  simpa using hs
theorem class_one (c : UInt8) : classS (ofL [c]) = if isA c then 1 else if isD c then 2 else 0 := by
  unfold classS alphaS digitS alnumS has
  rw [bs_ofL]
  by_cases h1 : isA c = true
  · simp [h1]
  · by_cases h2 : isD c = true
    · simp [h1, h2]
    · simp [h1, h2, isN]

theorem has_behind_eq (p : UInt8 → Bool) (s : ByteArray) (c : UInt8) : has p (s ++ ofL [c]) = (p c && (decide (s.size = 0) || has p s)) := by
  rcases hp : p c with _ | _
  · rw [has_behind_not p s c hp]; rfl
  · by_cases h0 : s.size = 0
    · rw [has_behind p s c hp (.inl h0), decide_eq_true h0]; rfl
    · rw [decide_eq_false h0]
      rcases hs : has p s with _ | _
      · rw [has_behind_no p s c (by omega) hs]; rfl
      · rw [has_behind p s c hp (.inr hs)]; rfl
theorem has_ahead_eq (p : UInt8 → Bool) (s : ByteArray) (c : UInt8) : has p (ofL [c] ++ s) = (p c && (decide (s.size = 0) || has p s)) := by
  rw [has_ahead]
  by_cases h0 : s.size = 0
  · rw [all_of_has (.inl h0), decide_eq_true h0]; rfl
  · rw [decide_eq_false h0]
    rcases hs : has p s with _ | _
    · rw [not_all_of (by omega) hs]; rfl
    · rw [all_of_has (.inr hs)]; rfl
theorem below_alloc {w w5 : World} {o : Obj} (h : Below w.heap.size w w5) : Below w.heap.size w (w5.alloc o) := h.alloc h.size o
theorem conv_one (w : World) (c : UInt8) : (convert 28 9 (.slice (some ⟨w.heap.size, 0, none⟩) 1 1)).run Try.prog (w.alloc (.cells #[.int .u8 c.toNat] 5)) = .ok (.string (ofL [c])) (w.alloc (.cells #[.int .u8 c.toNat] 5)) := by
  refine run_convert_bytes_back _ _ _ 5 _ 1 [c] Try.underlying28 Try.underlying5 Try.underlying9 ?_
  intro j hj
  obtain rfl : j = 0 := by simpa using hj
  have e : ((⟨w.heap.size, 0, none⟩ : Addr).add 0) = ⟨w.heap.size, 0, none⟩ := by simp [Addr.add]
  rw [e, World.cell?_alloc_at _ _ _ _ (by simp)]
  simp
theorem seven (c : UInt8) :
    (decide ((97 : Int) ≤ (c.toNat : Int)) = false ∧ decide ((c.toNat : Int) ≤ 122) = true ∧ decide ((65 : Int) ≤ (c.toNat : Int)) = false ∧ decide ((c.toNat : Int) ≤ 90) = true ∧ decide ((48 : Int) ≤ (c.toNat : Int)) = false ∧ decide ((c.toNat : Int) ≤ 57) = true ∧ isA c = false ∧ isD c = false ∧ isN c = false ∧ classS (ofL [c]) = 0) ∨
    (decide ((97 : Int) ≤ (c.toNat : Int)) = false ∧ decide ((c.toNat : Int) ≤ 122) = true ∧ decide ((65 : Int) ≤ (c.toNat : Int)) = false ∧ decide ((c.toNat : Int) ≤ 90) = true ∧ decide ((48 : Int) ≤ (c.toNat : Int)) = true ∧ decide ((c.toNat : Int) ≤ 57) = true ∧ isA c = false ∧ isD c = true ∧ isN c = true ∧ classS (ofL [c]) = 2) ∨
    (decide ((97 : Int) ≤ (c.toNat : Int)) = false ∧ decide ((c.toNat : Int) ≤ 122) = true ∧ decide ((65 : Int) ≤ (c.toNat : Int)) = false ∧ decide ((c.toNat : Int) ≤ 90) = true ∧ decide ((48 : Int) ≤ (c.toNat : Int)) = true ∧ decide ((c.toNat : Int) ≤ 57) = false ∧ isA c = false ∧ isD c = false ∧ isN c = false ∧ classS (ofL [c]) = 0) ∨
    (decide ((97 : Int) ≤ (c.toNat : Int)) = false ∧ decide ((c.toNat : Int) ≤ 122) = true ∧ decide ((65 : Int) ≤ (c.toNat : Int)) = true ∧ decide ((c.toNat : Int) ≤ 90) = true ∧ decide ((48 : Int) ≤ (c.toNat : Int)) = true ∧ decide ((c.toNat : Int) ≤ 57) = false ∧ isA c = true ∧ isD c = false ∧ isN c = true ∧ classS (ofL [c]) = 1) ∨
    (decide ((97 : Int) ≤ (c.toNat : Int)) = false ∧ decide ((c.toNat : Int) ≤ 122) = true ∧ decide ((65 : Int) ≤ (c.toNat : Int)) = true ∧ decide ((c.toNat : Int) ≤ 90) = false ∧ decide ((48 : Int) ≤ (c.toNat : Int)) = true ∧ decide ((c.toNat : Int) ≤ 57) = false ∧ isA c = false ∧ isD c = false ∧ isN c = false ∧ classS (ofL [c]) = 0) ∨
    (decide ((97 : Int) ≤ (c.toNat : Int)) = true ∧ decide ((c.toNat : Int) ≤ 122) = true ∧ decide ((65 : Int) ≤ (c.toNat : Int)) = true ∧ decide ((c.toNat : Int) ≤ 90) = false ∧ decide ((48 : Int) ≤ (c.toNat : Int)) = true ∧ decide ((c.toNat : Int) ≤ 57) = false ∧ isA c = true ∧ isD c = false ∧ isN c = true ∧ classS (ofL [c]) = 1) ∨
    (decide ((97 : Int) ≤ (c.toNat : Int)) = true ∧ decide ((c.toNat : Int) ≤ 122) = false ∧ decide ((65 : Int) ≤ (c.toNat : Int)) = true ∧ decide ((c.toNat : Int) ≤ 90) = false ∧ decide ((48 : Int) ≤ (c.toNat : Int)) = true ∧ decide ((c.toNat : Int) ≤ 57) = false ∧ isA c = false ∧ isD c = false ∧ isN c = false ∧ classS (ofL [c]) = 0) := by
  have hlt := c.toNat_lt
  rcases (show (0 ≤ c.toNat ∧ c.toNat ≤ 47) ∨ (48 ≤ c.toNat ∧ c.toNat ≤ 57) ∨ (58 ≤ c.toNat ∧ c.toNat ≤ 64) ∨ (65 ≤ c.toNat ∧ c.toNat ≤ 90) ∨ (91 ≤ c.toNat ∧ c.toNat ≤ 96) ∨ (97 ≤ c.toNat ∧ c.toNat ≤ 122) ∨ (123 ≤ c.toNat ∧ c.toNat ≤ 255) by omega) with ⟨h1, h2⟩ | ⟨h1, h2⟩ | ⟨h1, h2⟩ | ⟨h1, h2⟩ | ⟨h1, h2⟩ | ⟨h1, h2⟩ | ⟨h1, h2⟩
  · have hA : isA c = false := isA_false (by omega) (by omega)
    have hD : isD c = false := isD_false (by omega)
    exact .inl ⟨decide_eq_false (by omega), decide_eq_true (by omega), decide_eq_false (by omega), decide_eq_true (by omega), decide_eq_false (by omega), decide_eq_true (by omega), hA, hD, by unfold isN; rw [hA, hD]; rfl, by rw [class_one, hA, hD]; rfl⟩
  · have hA : isA c = false := isA_false (by omega) (by omega)
    have hD : isD c = true := isD_true (by omega) (by omega)
    exact .inr (.inl ⟨decide_eq_false (by omega), decide_eq_true (by omega), decide_eq_false (by omega), decide_eq_true (by omega), decide_eq_true (by omega), decide_eq_true (by omega), hA, hD, by unfold isN; rw [hA, hD]; rfl, by rw [class_one, hA, hD]; rfl⟩)
  · have hA : isA c = false := isA_false (by omega) (by omega)
    have hD : isD c = false := isD_false (by omega)
    exact .inr (.inr (.inl ⟨decide_eq_false (by omega), decide_eq_true (by omega), decide_eq_false (by omega), decide_eq_true (by omega), decide_eq_true (by omega), decide_eq_false (by omega), hA, hD, by unfold isN; rw [hA, hD]; rfl, by rw [class_one, hA, hD]; rfl⟩))
  · have hA : isA c = true := isA_true (by omega)
    have hD : isD c = false := isD_false (by omega)
    exact .inr (.inr (.inr (.inl ⟨decide_eq_false (by omega), decide_eq_true (by omega), decide_eq_true (by omega), decide_eq_true (by omega), decide_eq_true (by omega), decide_eq_false (by omega), hA, hD, by unfold isN; rw [hA, hD]; rfl, by rw [class_one, hA, hD]; rfl⟩)))
  · have hA : isA c = false := isA_false (by omega) (by omega)
    have hD : isD c = false := isD_false (by omega)
    exact .inr (.inr (.inr (.inr (.inl ⟨decide_eq_false (by omega), decide_eq_true (by omega), decide_eq_true (by omega), decide_eq_false (by omega), decide_eq_true (by omega), decide_eq_false (by omega), hA, hD, by unfold isN; rw [hA, hD]; rfl, by rw [class_one, hA, hD]; rfl⟩))))
  · have hA : isA c = true := isA_true (by omega)
    have hD : isD c = false := isD_false (by omega)
    exact .inr (.inr (.inr (.inr (.inr (.inl ⟨decide_eq_true (by omega), decide_eq_true (by omega), decide_eq_true (by omega), decide_eq_false (by omega), decide_eq_true (by omega), decide_eq_false (by omega), hA, hD, by unfold isN; rw [hA, hD]; rfl, by rw [class_one, hA, hD]; rfl⟩)))))
  · have hA : isA c = false := isA_false (by omega) (by omega)
    have hD : isD c = false := isD_false (by omega)
    exact .inr (.inr (.inr (.inr (.inr (.inr (⟨decide_eq_true (by omega), decide_eq_false (by omega), decide_eq_true (by omega), decide_eq_false (by omega), decide_eq_true (by omega), decide_eq_false (by omega), hA, hD, by unfold isN; rw [hA, hD]; rfl, by rw [class_one, hA, hD]; rfl⟩))))))

set_option maxHeartbeats 16000000 in
theorem bytes_law (c0 : Int) (b : ByteArray) (w : World) (hc0 : (Lit.int .u8 c0).wf = true) (hsb : b.size ≤ maxLen) :
    Calls Try.prog 6 #[.int .u8 c0, .string b] w fun e w' => e = .returned (.bool true) ∧ Below w.heap.size w w' := by
  obtain ⟨c, rfl⟩ : ∃ c : UInt8, c0 = (c.toNat : Int) := by
    have h : 0 ≤ c0 ∧ c0 ≤ 255 := by simpa [Lit.wf, IntKind.min, IntKind.max, IntKind.signed, IntKind.bits] using hc0
    refine ⟨UInt8.ofNat c0.toNat, ?_⟩
    rw [UInt8.toNat_ofNat']
    omega
  clear hc0
  obtain ⟨x, htx⟩ : ∃ x, cut b = x := ⟨_, rfl⟩
  have h40x : x.size ≤ 40 := by rw [← htx]; exact size_cut b
  have Sx := told (onwardS w fun w5 => short_any b w5 hsb) (ret_string htx)
  have HRx := Lib.hid (show x.size ≤ 140737488351232 by omega)
  have HMx := Lib.hid (show x.size ≤ maxLen by unfold maxLen; omega)
  clear htx
  obtain ⟨o, ho⟩ : ∃ o, ofL [c] = o := ⟨_, rfl⟩
  have hos : o.size = 1 := by rw [← ho, size_ofL]; rfl
  have A1 := onward w awake_any
  have hconv := fun w5 => conv_one w5 c
  have HMo := Lib.hid (show o.size ≤ maxLen by unfold maxLen; omega)
  have HMb := Lib.hid (show (x ++ o).size ≤ maxLen by rw [ByteArray.size_append]; unfold maxLen; omega)
  have HMa := Lib.hid (show (o ++ x).size ≤ maxLen by rw [ByteArray.size_append]; unfold maxLen; omega)
  have K1 := onward w fun w5 => class_any o w5 HMo.out
  have N1 := onward w fun w5 => alnum_any (x ++ o) w5 HMb.out
  have N2 := onward w fun w5 => alnum_any x w5 HMx.out
  have L1 := onward w fun w5 => alpha_any (o ++ x) w5 HMa.out
  have L2 := onward w fun w5 => alpha_any x w5 HMx.out
  have eN : alnumS (x ++ o) = (isN c && (decide (x.size = 0) || alnumS x)) := by rw [← ho]; exact has_behind_eq isN x c
  have eL : alphaS (o ++ x) = (isA c && (decide (x.size = 0) || alphaS x)) := by rw [← ho]; exact has_ahead_eq isA x c
  rw [ho] at hconv
  have hs1 : x.size + 1 ≤ 9223372036854775807 := by omega
  have hs2 : ¬ (9223372036854775807 < x.size + 1) := by omega
  have hs3 : 1 + x.size ≤ 9223372036854775807 := by omega
  have hs4 : ¬ (9223372036854775807 < 1 + x.size) := by omega
  have hB0 : Below w.heap.size w w := Below.refl _ _
  have HE : (x.size = 0 ∧ x.toList.isEmpty = true) ∨ (0 < x.size ∧ x.toList.isEmpty = false) := by
    by_cases h : x.size = 0
    · exact .inl ⟨h, empty_true h⟩
    · exact .inr ⟨by omega, empty_false (by omega)⟩
  have H7 := seven c
  rw [ho] at H7
  clear h40x ho
  rcases HE with ⟨h0, he⟩ | ⟨h0, he⟩
  · have z : decide (x.size = 0) = true := decide_eq_true h0
    rw [z] at eN eL
    have HX := Lib.hid h0
    clear h0 z
    rcases H7 with ⟨d1, d2, d3, d4, d5, d6, kA, kD, kN, kC⟩ | ⟨d1, d2, d3, d4, d5, d6, kA, kD, kN, kC⟩ | ⟨d1, d2, d3, d4, d5, d6, kA, kD, kN, kC⟩ | ⟨d1, d2, d3, d4, d5, d6, kA, kD, kN, kC⟩ | ⟨d1, d2, d3, d4, d5, d6, kA, kD, kN, kC⟩ | ⟨d1, d2, d3, d4, d5, d6, kA, kD, kN, kC⟩ | ⟨d1, d2, d3, d4, d5, d6, kA, kD, kN, kC⟩
    all_goals
      rw [kA] at eL
      rw [kN] at eN
      rw [eN] at N1
      rw [eL] at L1
      rw [kC] at K1
      simp only [Bool.true_and, Bool.false_and, Bool.true_or] at N1 L1
      clear eN eL kA kD kN kC N2 L2
      go_enter Try.func6, Try.ntmps6
      go_wp2_with (first | (go_at_call 9; ((with_reducible refine (A1.out _ (by first | assumption | exact below_alloc (by assumption))).mono ?_); rintro e w5 ⟨rfl, hb5⟩)) | (go_at_call 10; ((with_reducible refine (Sx.out _ (by first | assumption | exact below_alloc (by assumption))).mono ?_); rintro e w5 ⟨rfl, hb5⟩)) | (go_at_call 12; ((with_reducible refine (K1.out _ (by first | assumption | exact below_alloc (by assumption))).mono ?_); rintro e w5 ⟨rfl, hb5⟩)) | (go_at_call 15; ((with_reducible refine (N1.out _ (by first | assumption | exact below_alloc (by assumption))).mono ?_); rintro e w5 ⟨rfl, hb5⟩)) | (go_at_call 13; ((with_reducible refine (L1.out _ (by first | assumption | exact below_alloc (by assumption))).mono ?_); rintro e w5 ⟨rfl, hb5⟩)))
      go_ret
      exact ⟨rfl, by assumption⟩
  · have z : decide (x.size = 0) = false := decide_eq_false (by omega)
    rw [z] at eN eL
    clear h0 z
    obtain ⟨bN, hN⟩ : ∃ v, alnumS x = v := ⟨_, rfl⟩
    obtain ⟨bL, hL⟩ : ∃ v, alphaS x = v := ⟨_, rfl⟩
    rw [hN] at eN N2
    rw [hL] at eL L2
    clear hN hL
    cases bN <;> cases bL
    all_goals
      rcases H7 with ⟨d1, d2, d3, d4, d5, d6, kA, kD, kN, kC⟩ | ⟨d1, d2, d3, d4, d5, d6, kA, kD, kN, kC⟩ | ⟨d1, d2, d3, d4, d5, d6, kA, kD, kN, kC⟩ | ⟨d1, d2, d3, d4, d5, d6, kA, kD, kN, kC⟩ | ⟨d1, d2, d3, d4, d5, d6, kA, kD, kN, kC⟩ | ⟨d1, d2, d3, d4, d5, d6, kA, kD, kN, kC⟩ | ⟨d1, d2, d3, d4, d5, d6, kA, kD, kN, kC⟩
      all_goals
        rw [kA] at eL
        rw [kN] at eN
        rw [eN] at N1
        rw [eL] at L1
        rw [kC] at K1
        simp only [Bool.true_and, Bool.false_and, Bool.false_or] at N1 L1
        clear eN eL kA kD kN kC
        go_enter Try.func6, Try.ntmps6
        go_wp2_with (first | (go_at_call 9; ((with_reducible refine (A1.out _ (by first | assumption | exact below_alloc (by assumption))).mono ?_); rintro e w5 ⟨rfl, hb5⟩)) | (go_at_call 10; ((with_reducible refine (Sx.out _ (by first | assumption | exact below_alloc (by assumption))).mono ?_); rintro e w5 ⟨rfl, hb5⟩)) | (go_at_call 12; ((with_reducible refine (K1.out _ (by first | assumption | exact below_alloc (by assumption))).mono ?_); rintro e w5 ⟨rfl, hb5⟩)) | (go_at_call 15; ((with_reducible refine (N1.out _ (by first | assumption | exact below_alloc (by assumption))).mono ?_); rintro e w5 ⟨rfl, hb5⟩)) | (go_at_call 15; ((with_reducible refine (N2.out _ (by first | assumption | exact below_alloc (by assumption))).mono ?_); rintro e w5 ⟨rfl, hb5⟩)) | (go_at_call 13; ((with_reducible refine (L1.out _ (by first | assumption | exact below_alloc (by assumption))).mono ?_); rintro e w5 ⟨rfl, hb5⟩)) | (go_at_call 13; ((with_reducible refine (L2.out _ (by first | assumption | exact below_alloc (by assumption))).mono ?_); rintro e w5 ⟨rfl, hb5⟩)))
        go_ret
        exact ⟨rfl, by assumption⟩
end Go.Proofs.Ytejmkjnepanfaaa
