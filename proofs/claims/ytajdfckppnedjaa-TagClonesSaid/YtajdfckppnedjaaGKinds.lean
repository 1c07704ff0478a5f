/-
  The project's own answers for package tag: what a subtag is.
-/
import Derived.Test.YtajdfckppnedjaaFKinds
namespace Go.Proofs.Ytajdfckppnedjaa
open Go Go.RowKit

/-- Has a text so many bytes, and is it what is asked? -/
def sizedB (s : ByteArray) (lo hi : Nat) (m : Bool) : Bool := m && (decide (lo ≤ s.size) && decide (s.size ≤ hi))

theorem sized_alpha (s : ByteArray) (lo hi : Nat) (w : World) (hs : s.size ≤ maxLen) :
    Calls Try.prog 23 #[.string s, .int .i64 (lo : Int), .int .i64 (hi : Int), .func (.func 26) #[] #[]] w fun e w' => e = .returned (.bool (sizedB s lo hi (alphaS s))) ∧ Below w.heap.size w w' := by
  have C1 := Lib.hid (fun w5 => alpha_any s w5 hs)
  clear hs
  generalize alphaS s = m at *
  by_cases hl : lo ≤ s.size
  · have hli : (lo : Int) ≤ (s.size : Int) := by omega
    by_cases hh : s.size ≤ hi
    · have hhi : (s.size : Int) ≤ (hi : Int) := by omega
      have HE := Lib.hid (show sizedB s lo hi m = m by unfold sizedB; simp [hl, hh])
      clear hl hh
      go_enter Try.func23, Try.ntmps23
      go_wp2_with (go_at_call 26; (with_reducible refine (C1.out _).mono ?_); rintro e w1 ⟨rfl, hb1⟩)
      go_ret
      exact ⟨ret_bool HE.out.symm, hb1⟩
    · have hhi : ¬ (s.size : Int) ≤ (hi : Int) := by omega
      have HE := Lib.hid (show sizedB s lo hi m = false by unfold sizedB; simp [hh])
      clear hl hh
      go_enter Try.func23, Try.ntmps23
      go_wp2
      go_ret
      exact ⟨ret_bool HE.out.symm, Below.refl _ _⟩
  · have hli : ¬ (lo : Int) ≤ (s.size : Int) := by omega
    have HE := Lib.hid (show sizedB s lo hi m = false by unfold sizedB; simp [hl])
    clear hl
    go_enter Try.func23, Try.ntmps23
    go_wp2
    go_ret
    exact ⟨ret_bool HE.out.symm, Below.refl _ _⟩

theorem sized_digit (s : ByteArray) (lo hi : Nat) (w : World) (hs : s.size ≤ maxLen) :
    Calls Try.prog 23 #[.string s, .int .i64 (lo : Int), .int .i64 (hi : Int), .func (.func 25) #[] #[]] w fun e w' => e = .returned (.bool (sizedB s lo hi (digitS s))) ∧ Below w.heap.size w w' := by
  have C1 := Lib.hid (fun w5 => digitS_any s w5 hs)
  clear hs
  generalize digitS s = m at *
  by_cases hl : lo ≤ s.size
  · have hli : (lo : Int) ≤ (s.size : Int) := by omega
    by_cases hh : s.size ≤ hi
    · have hhi : (s.size : Int) ≤ (hi : Int) := by omega
      have HE := Lib.hid (show sizedB s lo hi m = m by unfold sizedB; simp [hl, hh])
      clear hl hh
      go_enter Try.func23, Try.ntmps23
      go_wp2_with (go_at_call 25; (with_reducible refine (C1.out _).mono ?_); rintro e w1 ⟨rfl, hb1⟩)
      go_ret
      exact ⟨ret_bool HE.out.symm, hb1⟩
    · have hhi : ¬ (s.size : Int) ≤ (hi : Int) := by omega
      have HE := Lib.hid (show sizedB s lo hi m = false by unfold sizedB; simp [hh])
      clear hl hh
      go_enter Try.func23, Try.ntmps23
      go_wp2
      go_ret
      exact ⟨ret_bool HE.out.symm, Below.refl _ _⟩
  · have hli : ¬ (lo : Int) ≤ (s.size : Int) := by omega
    have HE := Lib.hid (show sizedB s lo hi m = false by unfold sizedB; simp [hl])
    clear hl
    go_enter Try.func23, Try.ntmps23
    go_wp2
    go_ret
    exact ⟨ret_bool HE.out.symm, Below.refl _ _⟩

theorem sized_alnum (s : ByteArray) (lo hi : Nat) (w : World) (hs : s.size ≤ maxLen) :
    Calls Try.prog 23 #[.string s, .int .i64 (lo : Int), .int .i64 (hi : Int), .func (.func 24) #[] #[]] w fun e w' => e = .returned (.bool (sizedB s lo hi (alnumS s))) ∧ Below w.heap.size w w' := by
  have C1 := Lib.hid (fun w5 => alnum_any s w5 hs)
  clear hs
  generalize alnumS s = m at *
  by_cases hl : lo ≤ s.size
  · have hli : (lo : Int) ≤ (s.size : Int) := by omega
    by_cases hh : s.size ≤ hi
    · have hhi : (s.size : Int) ≤ (hi : Int) := by omega
      have HE := Lib.hid (show sizedB s lo hi m = m by unfold sizedB; simp [hl, hh])
      clear hl hh
      go_enter Try.func23, Try.ntmps23
      go_wp2_with (go_at_call 24; (with_reducible refine (C1.out _).mono ?_); rintro e w1 ⟨rfl, hb1⟩)
      go_ret
      exact ⟨ret_bool HE.out.symm, hb1⟩
    · have hhi : ¬ (s.size : Int) ≤ (hi : Int) := by omega
      have HE := Lib.hid (show sizedB s lo hi m = false by unfold sizedB; simp [hh])
      clear hl hh
      go_enter Try.func23, Try.ntmps23
      go_wp2
      go_ret
      exact ⟨ret_bool HE.out.symm, Below.refl _ _⟩
  · have hli : ¬ (lo : Int) ≤ (s.size : Int) := by omega
    have HE := Lib.hid (show sizedB s lo hi m = false by unfold sizedB; simp [hl])
    clear hl
    go_enter Try.func23, Try.ntmps23
    go_wp2
    go_ret
    exact ⟨ret_bool HE.out.symm, Below.refl _ _⟩

theorem sizedB_letters (s : ByteArray) (lo hi : Nat) : sizedB s lo hi (alphaS s) = lettersS s lo hi := rfl
theorem sizedB_three (s : ByteArray) (m : Bool) : sizedB s 3 3 m = (decide (s.size = 3) && m) := by
  unfold sizedB
  by_cases h : s.size = 3
  · simp [h]
  · have : ¬ (3 ≤ s.size ∧ s.size ≤ 3) := by omega
    cases m <;> simp [h]
    omega
theorem region_own (s : ByteArray) (w : World) (hs : s.size ≤ maxLen) :
    Calls Try.prog 9 #[.string s] w fun e w' => e = .returned (.bool (regionS s)) ∧ Below w.heap.size w w' := by
  have L := onward w (fun w5 => show Calls Try.prog 23 #[.string s, .int .i64 2, .int .i64 2, .func (.func 26) #[] #[]] w5 fun e w' => e = .returned (.bool (lettersS s 2 2)) ∧ Below w5.heap.size w5 w' from sized_alpha s 2 2 w5 hs)
  have M := onward w (fun w5 => show Calls Try.prog 23 #[.string s, .int .i64 3, .int .i64 3, .func (.func 25) #[] #[]] w5 fun e w' => e = .returned (.bool (sizedB s 3 3 (digitS s))) ∧ Below w5.heap.size w5 w' from sized_digit s 3 3 w5 hs)
  have HE := Lib.hid (show regionS s = (lettersS s 2 2 || sizedB s 3 3 (digitS s)) by rw [sizedB_three]; rfl)
  have hB0 : Below w.heap.size w w := Below.refl _ _
  clear hs
  generalize lettersS s 2 2 = a at *
  generalize sizedB s 3 3 (digitS s) = b at *
  cases a <;>
  · go_enter Try.func9, Try.ntmps9
    go_wp2_with (go_at_call 23; (first | (with_reducible refine (L.out _ (by assumption)).mono ?_) | (with_reducible refine (M.out _ (by assumption)).mono ?_)); rintro e w1 ⟨rfl, hb1⟩)
    go_ret
    exact ⟨ret_bool HE.out.symm, by assumption⟩
theorem one_digit (s : ByteArray) (h : 0 < s.size) : digitS (s.extract 0 1) = isD s[0] := by
  have : bs (s.extract 0 1) = [s[0]] := by
    rw [bs_extract]
    show ((s.data.toList.drop 0).take 1) = [s.data[0]]
    rw [List.drop_zero, List.take_one, List.head?_eq_getElem?]
    have : 0 < s.data.toList.length := by simpa using h
    rw [List.getElem?_eq_getElem this]
    simp
  unfold digitS has
  rw [this]
  simp
theorem variant_own (s : ByteArray) (w : World) (hs : s.size ≤ maxLen) :
    Calls Try.prog 8 #[.string s] w fun e w' => e = .returned (.bool (variantS s)) ∧ Below w.heap.size w w' := by
  have L := onward w (fun w5 => show Calls Try.prog 23 #[.string s, .int .i64 5, .int .i64 8, .func (.func 24) #[] #[]] w5 fun e w' => e = .returned (.bool (sizedB s 5 8 (alnumS s))) ∧ Below w5.heap.size w5 w' from sized_alnum s 5 8 w5 hs)
  have M := onward w (fun w5 => show Calls Try.prog 23 #[.string s, .int .i64 4, .int .i64 4, .func (.func 24) #[] #[]] w5 fun e w' => e = .returned (.bool (sizedB s 4 4 (alnumS s))) ∧ Below w5.heap.size w5 w' from sized_alnum s 4 4 w5 hs)
  have hB0 : Below w.heap.size w w := Below.refl _ _
  by_cases h4 : s.size = 4
  · have h1 : (1 : Int) ≤ (s.size : Int) := by omega
    have D := onward w (fun w5 => digitS_any (s.extract 0 1) w5 (by rw [ByteArray.size_extract]; unfold maxLen; omega))
    have HE := Lib.hid (show variantS s = (sizedB s 5 8 (alnumS s) || (sizedB s 4 4 (alnumS s) && digitS (s.extract 0 1))) by
      rw [one_digit s (by omega)]
      unfold variantS sizedB
      rw [head_of s (by omega)]
      simp [h4])
    clear hs h4
    generalize digitS (s.extract 0 1) = c at *
    generalize sizedB s 5 8 (alnumS s) = a at *
    generalize sizedB s 4 4 (alnumS s) = b at *
    cases a <;> cases b <;>
    · go_enter Try.func8, Try.ntmps8
      go_wp2_with (first | (go_at_call 23; (first | (with_reducible refine (L.out _ (by assumption)).mono ?_) | (with_reducible refine (M.out _ (by assumption)).mono ?_)); rintro e w1 ⟨rfl, hb1⟩) | (go_at_call 25; (with_reducible refine (D.out _ (by assumption)).mono ?_); rintro e w1 ⟨rfl, hb1⟩))
      go_ret
      exact ⟨ret_bool HE.out.symm, by assumption⟩
  · have h44 : sizedB s 4 4 (alnumS s) = false := by
      unfold sizedB
      have : ¬ (4 ≤ s.size ∧ s.size ≤ 4) := by omega
      cases alnumS s <;> simp
      omega
    have HE := Lib.hid (show variantS s = sizedB s 5 8 (alnumS s) by
      unfold variantS sizedB
      simp [h4])
    rw [h44] at M
    clear hs h4 h44
    generalize sizedB s 5 8 (alnumS s) = a at *
    cases a <;>
    · go_enter Try.func8, Try.ntmps8
      go_wp2_with (go_at_call 23; (first | (with_reducible refine (L.out _ (by assumption)).mono ?_) | (with_reducible refine (M.out _ (by assumption)).mono ?_)); rintro e w1 ⟨rfl, hb1⟩)
      go_ret
      exact ⟨ret_bool HE.out.symm, by assumption⟩
theorem same_x : ∀ s : ByteArray, s.size = 1 → sameS s ⟨#[120]⟩ = (decide (s = ⟨#[120]⟩) || decide (s = ⟨#[88]⟩)) := by
  intro s h
  obtain ⟨d⟩ := s
  obtain ⟨l⟩ := d
  match l, h with
  | [c], _ => exact byte_all (fun c => sameS ⟨⟨[c]⟩⟩ ⟨#[120]⟩ = (decide (ByteArray.mk ⟨[c]⟩ = ⟨#[120]⟩) || decide (ByteArray.mk ⟨[c]⟩ = ⟨#[88]⟩))) (by decide +kernel) c
end Go.Proofs.Ytajdfckppnedjaa
