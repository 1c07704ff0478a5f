/-
  The document's own answers for package tag: what a subtag is. Layer 6's statements: short. The project's own answers for package tag: what a subtag is. Layer 6's statements: awake.
-/
import Derived.Test.YtbafmnafhaoggaaGreatDoorBase
import Derived.Test.YtbafmnafhaoggaaGreatDoorPiece
/-! The document's own answers for package tag: what a subtag is. -/
namespace Go.Proofs.YtbafmnafhaoggaaGreatDoor
open Go Go.RowKit

def lettersS (s : ByteArray) (lo hi : Nat) : Bool := alphaS s && (decide (lo ≤ s.size) && decide (s.size ≤ hi))
def languageS (s : ByteArray) : Bool := lettersS s 2 8
def scriptS (s : ByteArray) : Bool := lettersS s 4 4
def regionS (s : ByteArray) : Bool := lettersS s 2 2 || (decide (s.size = 3) && digitS s)
def variantS (s : ByteArray) : Bool := alnumS s && ((decide (5 ≤ s.size) && decide (s.size ≤ 8)) || (decide (s.size = 4) && ((bs s).head?.map isD).getD false))
theorem head_of (s : ByteArray) (h : 0 < s.size) : (bs s).head? = some s[0] := by
  show s.data.toList.head? = some s.data[0]
  rw [List.head?_eq_getElem?]
  simp
end Go.Proofs.YtbafmnafhaoggaaGreatDoor

/-! Layer 6's statements: short. -/
namespace Go.Proofs.YtbafmnafhaoggaaGreatDoor
open Go Go.RowKit

end Go.Proofs.YtbafmnafhaoggaaGreatDoor

/-! The project's own answers for package tag: what a subtag is. -/
namespace Go.Proofs.YtbafmnafhaoggaaGreatDoor
open Go Go.RowKit

/-- Has a text so many bytes, and is it what is asked? -/
def sizedB (s : ByteArray) (lo hi : Nat) (m : Bool) : Bool := m && (decide (lo ≤ s.size) && decide (s.size ≤ hi))

set_option maxRecDepth 100000 in
theorem sized_alpha (s : ByteArray) (lo hi : Nat) (w : World) (hs : s.size ≤ maxLen) :
    Calls Tryz.prog 103 #[.string s, .int .i64 (lo : Int), .int .i64 (hi : Int), .func (.func 104) #[] #[]] w fun e w' => e = .returned (.bool (sizedB s lo hi (alphaS s))) ∧ Below w.heap.size w w' := by
  have C1 := Lib.hid (fun w5 => alpha_any s w5 hs)
  clear hs
  generalize alphaS s = m at *
  by_cases hl : lo ≤ s.size
  · have hli : (lo : Int) ≤ (s.size : Int) := by omega
    by_cases hh : s.size ≤ hi
    · have hhi : (s.size : Int) ≤ (hi : Int) := by omega
      have HE := Lib.hid (show sizedB s lo hi m = m by unfold sizedB; simp [hl, hh])
      clear hl hh
      go_enter Tryz.func103, Tryz.ntmps103
      go_wp2_with (go_at_call 104; (with_reducible refine (C1.out _).mono ?_); rintro e w1 ⟨rfl, hb1⟩)
      go_ret
      exact ⟨ret_bool HE.out.symm, hb1⟩
    · have hhi : ¬ (s.size : Int) ≤ (hi : Int) := by omega
      have HE := Lib.hid (show sizedB s lo hi m = false by unfold sizedB; simp [hh])
      clear hl hh
      go_enter Tryz.func103, Tryz.ntmps103
      go_wp2
      go_ret
      exact ⟨ret_bool HE.out.symm, Below.refl _ _⟩
  · have hli : ¬ (lo : Int) ≤ (s.size : Int) := by omega
    have HE := Lib.hid (show sizedB s lo hi m = false by unfold sizedB; simp [hl])
    clear hl
    go_enter Tryz.func103, Tryz.ntmps103
    go_wp2
    go_ret
    exact ⟨ret_bool HE.out.symm, Below.refl _ _⟩

set_option maxRecDepth 100000 in
theorem sized_digit (s : ByteArray) (lo hi : Nat) (w : World) (hs : s.size ≤ maxLen) :
    Calls Tryz.prog 103 #[.string s, .int .i64 (lo : Int), .int .i64 (hi : Int), .func (.func 105) #[] #[]] w fun e w' => e = .returned (.bool (sizedB s lo hi (digitS s))) ∧ Below w.heap.size w w' := by
  have C1 := Lib.hid (fun w5 => digitS_any s w5 hs)
  clear hs
  generalize digitS s = m at *
  by_cases hl : lo ≤ s.size
  · have hli : (lo : Int) ≤ (s.size : Int) := by omega
    by_cases hh : s.size ≤ hi
    · have hhi : (s.size : Int) ≤ (hi : Int) := by omega
      have HE := Lib.hid (show sizedB s lo hi m = m by unfold sizedB; simp [hl, hh])
      clear hl hh
      go_enter Tryz.func103, Tryz.ntmps103
      go_wp2_with (go_at_call 105; (with_reducible refine (C1.out _).mono ?_); rintro e w1 ⟨rfl, hb1⟩)
      go_ret
      exact ⟨ret_bool HE.out.symm, hb1⟩
    · have hhi : ¬ (s.size : Int) ≤ (hi : Int) := by omega
      have HE := Lib.hid (show sizedB s lo hi m = false by unfold sizedB; simp [hh])
      clear hl hh
      go_enter Tryz.func103, Tryz.ntmps103
      go_wp2
      go_ret
      exact ⟨ret_bool HE.out.symm, Below.refl _ _⟩
  · have hli : ¬ (lo : Int) ≤ (s.size : Int) := by omega
    have HE := Lib.hid (show sizedB s lo hi m = false by unfold sizedB; simp [hl])
    clear hl
    go_enter Tryz.func103, Tryz.ntmps103
    go_wp2
    go_ret
    exact ⟨ret_bool HE.out.symm, Below.refl _ _⟩

set_option maxRecDepth 100000 in
theorem sized_alnum (s : ByteArray) (lo hi : Nat) (w : World) (hs : s.size ≤ maxLen) :
    Calls Tryz.prog 103 #[.string s, .int .i64 (lo : Int), .int .i64 (hi : Int), .func (.func 107) #[] #[]] w fun e w' => e = .returned (.bool (sizedB s lo hi (alnumS s))) ∧ Below w.heap.size w w' := by
  have C1 := Lib.hid (fun w5 => alnum_any s w5 hs)
  clear hs
  generalize alnumS s = m at *
  by_cases hl : lo ≤ s.size
  · have hli : (lo : Int) ≤ (s.size : Int) := by omega
    by_cases hh : s.size ≤ hi
    · have hhi : (s.size : Int) ≤ (hi : Int) := by omega
      have HE := Lib.hid (show sizedB s lo hi m = m by unfold sizedB; simp [hl, hh])
      clear hl hh
      go_enter Tryz.func103, Tryz.ntmps103
      go_wp2_with (go_at_call 107; (with_reducible refine (C1.out _).mono ?_); rintro e w1 ⟨rfl, hb1⟩)
      go_ret
      exact ⟨ret_bool HE.out.symm, hb1⟩
    · have hhi : ¬ (s.size : Int) ≤ (hi : Int) := by omega
      have HE := Lib.hid (show sizedB s lo hi m = false by unfold sizedB; simp [hh])
      clear hl hh
      go_enter Tryz.func103, Tryz.ntmps103
      go_wp2
      go_ret
      exact ⟨ret_bool HE.out.symm, Below.refl _ _⟩
  · have hli : ¬ (lo : Int) ≤ (s.size : Int) := by omega
    have HE := Lib.hid (show sizedB s lo hi m = false by unfold sizedB; simp [hl])
    clear hl
    go_enter Tryz.func103, Tryz.ntmps103
    go_wp2
    go_ret
    exact ⟨ret_bool HE.out.symm, Below.refl _ _⟩

set_option maxRecDepth 100000 in
theorem language_own (s : ByteArray) (w : World) (hs : s.size ≤ maxLen) :
    Calls Tryz.prog 82 #[.string s] w fun e w' => e = .returned (.bool (languageS s)) ∧ Below w.heap.size w w' := by
  have L := Lib.hid (fun w5 => show Calls Tryz.prog 103 #[.string s, .int .i64 2, .int .i64 8, .func (.func 104) #[] #[]] w5 fun e w' => e = .returned (.bool (languageS s)) ∧ Below w5.heap.size w5 w' from sized_alpha s 2 8 w5 hs)
  clear hs
  go_enter Tryz.func82, Tryz.ntmps82
  go_wp2_with (go_at_call 103; (with_reducible refine (L.out _).mono ?_); rintro e w1 ⟨rfl, hb1⟩)
  go_ret
  exact ⟨rfl, hb1⟩
set_option maxRecDepth 100000 in
theorem script_own (s : ByteArray) (w : World) (hs : s.size ≤ maxLen) :
    Calls Tryz.prog 83 #[.string s] w fun e w' => e = .returned (.bool (scriptS s)) ∧ Below w.heap.size w w' := by
  have L := Lib.hid (fun w5 => show Calls Tryz.prog 103 #[.string s, .int .i64 4, .int .i64 4, .func (.func 104) #[] #[]] w5 fun e w' => e = .returned (.bool (scriptS s)) ∧ Below w5.heap.size w5 w' from sized_alpha s 4 4 w5 hs)
  clear hs
  go_enter Tryz.func83, Tryz.ntmps83
  go_wp2_with (go_at_call 103; (with_reducible refine (L.out _).mono ?_); rintro e w1 ⟨rfl, hb1⟩)
  go_ret
  exact ⟨rfl, hb1⟩
theorem sizedB_three (s : ByteArray) (m : Bool) : sizedB s 3 3 m = (decide (s.size = 3) && m) := by
  unfold sizedB
  by_cases h : s.size = 3
  · simp [h]
  · have : ¬ (3 ≤ s.size ∧ s.size ≤ 3) := by omega
    cases m <;> simp [h]
    omega
set_option maxRecDepth 100000 in
theorem region_own (s : ByteArray) (w : World) (hs : s.size ≤ maxLen) :
    Calls Tryz.prog 84 #[.string s] w fun e w' => e = .returned (.bool (regionS s)) ∧ Below w.heap.size w w' := by
  have L := onward w (fun w5 => show Calls Tryz.prog 103 #[.string s, .int .i64 2, .int .i64 2, .func (.func 104) #[] #[]] w5 fun e w' => e = .returned (.bool (lettersS s 2 2)) ∧ Below w5.heap.size w5 w' from sized_alpha s 2 2 w5 hs)
  have M := onward w (fun w5 => show Calls Tryz.prog 103 #[.string s, .int .i64 3, .int .i64 3, .func (.func 105) #[] #[]] w5 fun e w' => e = .returned (.bool (sizedB s 3 3 (digitS s))) ∧ Below w5.heap.size w5 w' from sized_digit s 3 3 w5 hs)
  have HE := Lib.hid (show regionS s = (lettersS s 2 2 || sizedB s 3 3 (digitS s)) by rw [sizedB_three]; rfl)
  have hB0 : Below w.heap.size w w := Below.refl _ _
  clear hs
  generalize lettersS s 2 2 = a at *
  generalize sizedB s 3 3 (digitS s) = b at *
  cases a <;>
  · go_enter Tryz.func84, Tryz.ntmps84
    go_wp2_with (go_at_call 103; (first | (with_reducible refine (L.out _ (by assumption)).mono ?_) | (with_reducible refine (M.out _ (by assumption)).mono ?_)); rintro e w1 ⟨rfl, hb1⟩)
    go_ret
    exact ⟨ret_bool HE.out.symm, by assumption⟩
theorem one_digit (s : ByteArray) (h : 0 < s.size) : digitS (s.extract 0 1) = isD s[0] := by
  have : bs (s.extract 0 1) = [s[0]] := by
    rw [bs_extract]
    show ((s.data.toList.drop 0).take 1) = [s.data[0]]
    rw [List.drop_zero, List.take_one, List.head?_eq_getElem?]
    have : 0 < s.data.toList.length := by simpa using h
    rw [List.getElem?_eq_getElem this]
    simp
  unfold digitS has
  rw [this]
  simp
set_option maxRecDepth 100000 in
theorem variant_own (s : ByteArray) (w : World) (hs : s.size ≤ maxLen) :
    Calls Tryz.prog 119 #[.string s] w fun e w' => e = .returned (.bool (variantS s)) ∧ Below w.heap.size w w' := by
  have L := onward w (fun w5 => show Calls Tryz.prog 103 #[.string s, .int .i64 5, .int .i64 8, .func (.func 107) #[] #[]] w5 fun e w' => e = .returned (.bool (sizedB s 5 8 (alnumS s))) ∧ Below w5.heap.size w5 w' from sized_alnum s 5 8 w5 hs)
  have M := onward w (fun w5 => show Calls Tryz.prog 103 #[.string s, .int .i64 4, .int .i64 4, .func (.func 107) #[] #[]] w5 fun e w' => e = .returned (.bool (sizedB s 4 4 (alnumS s))) ∧ Below w5.heap.size w5 w' from sized_alnum s 4 4 w5 hs)
  have hB0 : Below w.heap.size w w := Below.refl _ _
  by_cases h4 : s.size = 4
  · have h1 : (1 : Int) ≤ (s.size : Int) := by omega
    have D := onward w (fun w5 => digitS_any (s.extract 0 1) w5 (by rw [ByteArray.size_extract]; unfold maxLen; omega))
    have HE := Lib.hid (show variantS s = (sizedB s 5 8 (alnumS s) || (sizedB s 4 4 (alnumS s) && digitS (s.extract 0 1))) by
      rw [one_digit s (by omega)]
      unfold variantS sizedB
      rw [head_of s (by omega)]
      simp [h4])
    clear hs h4
    generalize digitS (s.extract 0 1) = c at *
    generalize sizedB s 5 8 (alnumS s) = a at *
    generalize sizedB s 4 4 (alnumS s) = b at *
    cases a <;> cases b <;>
    · go_enter Tryz.func119, Tryz.ntmps119
      go_wp2_with (first | (go_at_call 103; (first | (with_reducible refine (L.out _ (by assumption)).mono ?_) | (with_reducible refine (M.out _ (by assumption)).mono ?_)); rintro e w1 ⟨rfl, hb1⟩) | (go_at_call 105; (with_reducible refine (D.out _ (by assumption)).mono ?_); rintro e w1 ⟨rfl, hb1⟩))
      go_ret
      exact ⟨ret_bool HE.out.symm, by assumption⟩
  · have h44 : sizedB s 4 4 (alnumS s) = false := by
      unfold sizedB
      have : ¬ (4 ≤ s.size ∧ s.size ≤ 4) := by omega
      cases alnumS s <;> simp
      omega
    have HE := Lib.hid (show variantS s = sizedB s 5 8 (alnumS s) by
      unfold variantS sizedB
      simp [h4])
    rw [h44] at M
    clear hs h4 h44
    generalize sizedB s 5 8 (alnumS s) = a at *
    cases a <;>
    · go_enter Tryz.func119, Tryz.ntmps119
      go_wp2_with (go_at_call 103; (first | (with_reducible refine (L.out _ (by assumption)).mono ?_) | (with_reducible refine (M.out _ (by assumption)).mono ?_)); rintro e w1 ⟨rfl, hb1⟩)
      go_ret
      exact ⟨ret_bool HE.out.symm, by assumption⟩
end Go.Proofs.YtbafmnafhaoggaaGreatDoor

/-! Layer 6's statements: awake. -/
namespace Go.Proofs.YtbafmnafhaoggaaGreatDoor
open Go Go.RowKit

end Go.Proofs.YtbafmnafhaoggaaGreatDoor
