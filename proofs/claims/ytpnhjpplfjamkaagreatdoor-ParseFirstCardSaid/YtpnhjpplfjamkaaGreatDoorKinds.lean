/-
  The document's own answers for package tag: what a subtag is. Layer 6's statements: short. The project's own answers for package tag: what a subtag is. Layer 6's statements: awake.
-/
import Derived.Test.YtpnhjpplfjamkaaGreatDoorBase
import Derived.Test.YtpnhjpplfjamkaaGreatDoorPiece
/-! The document's own answers for package tag: what a subtag is. -/
namespace Go.Proofs.YtpnhjpplfjamkaaGreatDoor
open Go Go.RowKit

def lettersS (s : ByteArray) (lo hi : Nat) : Bool := alphaS s && (decide (lo ≤ s.size) && decide (s.size ≤ hi))
def languageS (s : ByteArray) : Bool := lettersS s 2 8
def extlangS (s : ByteArray) : Bool := lettersS s 3 3
def scriptS (s : ByteArray) : Bool := lettersS s 4 4
def regionS (s : ByteArray) : Bool := lettersS s 2 2 || (decide (s.size = 3) && digitS s)
def variantS (s : ByteArray) : Bool := alnumS s && ((decide (5 ≤ s.size) && decide (s.size ≤ 8)) || (decide (s.size = 4) && ((bs s).head?.map isD).getD false))
def singletonS (s : ByteArray) : Bool := decide (s.size = 1) && (alnumS s && (!decide (s = ⟨#[120]⟩) && !decide (s = ⟨#[88]⟩)))

set_option maxRecDepth 100000 in
theorem letters_any (s : ByteArray) (lo hi : Nat) (w : World) (hs : s.size ≤ 140737488351232) :
    Calls Tryz.prog 78 #[.string s, .int .i64 (lo : Int), .int .i64 (hi : Int)] w fun e w' => e = .returned (.bool (lettersS s lo hi)) ∧ w = w' := by
  obtain ⟨c, a, d, n, h⟩ := classIs s
  have C1 := Lib.hid (fun w5 => class_ref s w5 hs)
  cases h with
  | alpha h0 h1 h2 h3 =>
    rw [h0] at C1
    clear h0 h2 h3
    by_cases hl : lo ≤ s.size
    · have hli : (lo : Int) ≤ (s.size : Int) := by omega
      by_cases hh : s.size ≤ hi
      · have hhi : (s.size : Int) ≤ (hi : Int) := by omega
        have HE := Lib.hid (show lettersS s lo hi = true by unfold lettersS; simp [h1, hl, hh])
        clear h1 hl hh hs
        go_enter Tryz.func78, Tryz.ntmps78
        go_wp2_with (go_at_call 79; (with_reducible refine (C1.out _).mono ?_); rintro e w' ⟨rfl, rfl⟩)
        go_ret
        exact ⟨ret_bool HE.out.symm, rfl⟩
      · have hhi : ¬ (s.size : Int) ≤ (hi : Int) := by omega
        have HE := Lib.hid (show lettersS s lo hi = decide (s.size ≤ hi) by unfold lettersS; simp [h1, hl])
        clear h1 hl hh hs
        go_enter Tryz.func78, Tryz.ntmps78
        go_wp2_with (go_at_call 79; (with_reducible refine (C1.out _).mono ?_); rintro e w' ⟨rfl, rfl⟩)
        go_ret
        exact ⟨ret_bool HE.out.symm, rfl⟩
    · have hli : ¬ (lo : Int) ≤ (s.size : Int) := by omega
      have HE := Lib.hid (show lettersS s lo hi = false by unfold lettersS; simp [hl])
      clear h1 hl hs
      go_enter Tryz.func78, Tryz.ntmps78
      go_wp2_with (go_at_call 79; (with_reducible refine (C1.out _).mono ?_); rintro e w' ⟨rfl, rfl⟩)
      go_ret
      exact ⟨ret_bool HE.out.symm, rfl⟩
  | none h0 h1 h2 h3 | digit h0 h1 h2 h3 | alnum h0 h1 h2 h3 =>
    rw [h0] at C1
    have HE := Lib.hid (show lettersS s lo hi = false by unfold lettersS; simp [h1])
    clear h0 h1 h2 h3 hs
    go_enter Tryz.func78, Tryz.ntmps78
    go_wp2_with (go_at_call 79; (with_reducible refine (C1.out _).mono ?_); rintro e w' ⟨rfl, rfl⟩)
    go_ret
    exact ⟨ret_bool HE.out.symm, rfl⟩

set_option maxRecDepth 100000 in
theorem language_ref (s : ByteArray) (w : World) (hs : s.size ≤ 140737488351232) :
    Calls Tryz.prog 47 #[.string s] w fun e w' => e = .returned (.bool (languageS s)) ∧ w = w' := by
  have L := Lib.hid (fun w5 => show Calls Tryz.prog 78 #[.string s, .int .i64 2, .int .i64 8] w5 fun e w' => e = .returned (.bool (languageS s)) ∧ w5 = w' from letters_any s 2 8 w5 hs)
  clear hs
  go_enter Tryz.func47, Tryz.ntmps47
  go_wp2_with (go_at_call 78; (with_reducible refine (L.out _).mono ?_); rintro e w' ⟨rfl, rfl⟩)
  go_ret
  exact ⟨rfl, rfl⟩
set_option maxRecDepth 100000 in
theorem extlang_ref (s : ByteArray) (w : World) (hs : s.size ≤ 140737488351232) :
    Calls Tryz.prog 49 #[.string s] w fun e w' => e = .returned (.bool (extlangS s)) ∧ w = w' := by
  have L := Lib.hid (fun w5 => show Calls Tryz.prog 78 #[.string s, .int .i64 3, .int .i64 3] w5 fun e w' => e = .returned (.bool (extlangS s)) ∧ w5 = w' from letters_any s 3 3 w5 hs)
  clear hs
  go_enter Tryz.func49, Tryz.ntmps49
  go_wp2_with (go_at_call 78; (with_reducible refine (L.out _).mono ?_); rintro e w' ⟨rfl, rfl⟩)
  go_ret
  exact ⟨rfl, rfl⟩
set_option maxRecDepth 100000 in
theorem script_ref (s : ByteArray) (w : World) (hs : s.size ≤ 140737488351232) :
    Calls Tryz.prog 50 #[.string s] w fun e w' => e = .returned (.bool (scriptS s)) ∧ w = w' := by
  have L := Lib.hid (fun w5 => show Calls Tryz.prog 78 #[.string s, .int .i64 4, .int .i64 4] w5 fun e w' => e = .returned (.bool (scriptS s)) ∧ w5 = w' from letters_any s 4 4 w5 hs)
  clear hs
  go_enter Tryz.func50, Tryz.ntmps50
  go_wp2_with (go_at_call 78; (with_reducible refine (L.out _).mono ?_); rintro e w' ⟨rfl, rfl⟩)
  go_ret
  exact ⟨rfl, rfl⟩
theorem class_two (s : ByteArray) : (classS s == 2) = digitS s := by
  obtain ⟨c, a, d, n, h⟩ := classIs s
  cases h with
  | none h0 h1 h2 h3 => rw [h0, h2]; rfl
  | alpha h0 h1 h2 h3 => rw [h0, h2]; rfl
  | digit h0 h1 h2 h3 => rw [h0, h2]; rfl
  | alnum h0 h1 h2 h3 => rw [h0, h2]; rfl
theorem class_not0 (s : ByteArray) : (classS s == 0) = !alnumS s := by
  obtain ⟨c, a, d, n, h⟩ := classIs s
  cases h with
  | none h0 h1 h2 h3 => rw [h0, h3]; rfl
  | alpha h0 h1 h2 h3 => rw [h0, h3]; rfl
  | digit h0 h1 h2 h3 => rw [h0, h3]; rfl
  | alnum h0 h1 h2 h3 => rw [h0, h3]; rfl
theorem class_pos0 (s : ByteArray) : decide ((0 : Int) < classS s) = alnumS s := by
  obtain ⟨c, a, d, n, h⟩ := classIs s
  cases h with
  | none h0 h1 h2 h3 => rw [h0, h3]; rfl
  | alpha h0 h1 h2 h3 => rw [h0, h3]; rfl
  | digit h0 h1 h2 h3 => rw [h0, h3]; rfl
  | alnum h0 h1 h2 h3 => rw [h0, h3]; rfl
set_option maxRecDepth 100000 in
theorem region_ref (s : ByteArray) (w : World) (hs : s.size ≤ 140737488351232) :
    Calls Tryz.prog 51 #[.string s] w fun e w' => e = .returned (.bool (regionS s)) ∧ w = w' := by
  have L := Lib.hid (fun w5 => show Calls Tryz.prog 78 #[.string s, .int .i64 2, .int .i64 2] w5 fun e w' => e = .returned (.bool (lettersS s 2 2)) ∧ w5 = w' from letters_any s 2 2 w5 hs)
  have C1 := Lib.hid (fun w5 => class_ref s w5 hs)
  have hcl := class_two s
  clear hs
  cases hL : lettersS s 2 2 with
  | true =>
    have HE := Lib.hid (show regionS s = true by unfold regionS; rw [hL]; rfl)
    rw [hL] at L
    clear hL hcl
    go_enter Tryz.func51, Tryz.ntmps51
    go_wp2_with (first | (go_at_call 78; (with_reducible refine (L.out _).mono ?_); rintro e w' ⟨rfl, rfl⟩) | (go_at_call 79; (with_reducible refine (C1.out _).mono ?_); rintro e w' ⟨rfl, rfl⟩))
    go_ret
    exact ⟨ret_bool HE.out.symm, rfl⟩
  | false =>
    rw [hL] at L
    by_cases h3 : s.size = 3
    · have HE := Lib.hid (show regionS s = digitS s by unfold regionS; rw [hL]; simp [h3])
      have h3i : ((s.size : Int) == 3) = true := by rw [beq_iff_eq]; omega
      clear hL h3
      generalize digitS s = dg at *
      generalize classS s = c at *
      cases dg <;>
      · go_enter Tryz.func51, Tryz.ntmps51
        go_wp2_with (first | (go_at_call 78; (with_reducible refine (L.out _).mono ?_); rintro e w' ⟨rfl, rfl⟩) | (go_at_call 79; (with_reducible refine (C1.out _).mono ?_); rintro e w' ⟨rfl, rfl⟩))
        go_ret
        exact ⟨ret_bool HE.out.symm, rfl⟩
    · have HE := Lib.hid (show regionS s = false by unfold regionS; rw [hL]; simp [h3])
      have h3i : ((s.size : Int) == 3) = false := by rw [beq_eq_false_iff_ne]; omega
      clear hL h3 hcl
      go_enter Tryz.func51, Tryz.ntmps51
      go_wp2_with (first | (go_at_call 78; (with_reducible refine (L.out _).mono ?_); rintro e w' ⟨rfl, rfl⟩) | (go_at_call 79; (with_reducible refine (C1.out _).mono ?_); rintro e w' ⟨rfl, rfl⟩))
      go_ret
      exact ⟨ret_bool HE.out.symm, rfl⟩

theorem head_of (s : ByteArray) (h : 0 < s.size) : (bs s).head? = some s[0] := by
  show s.data.toList.head? = some s.data[0]
  rw [List.head?_eq_getElem?]
  simp
set_option maxRecDepth 100000 in
theorem variant_ref (s : ByteArray) (w : World) (hs : s.size ≤ 140737488351232) :
    Calls Tryz.prog 52 #[.string s] w fun e w' => e = .returned (.bool (variantS s)) ∧ w = w' := by
  have C1 := Lib.hid (fun w5 => class_ref s w5 hs)
  have hcl := class_not0 s
  cases hn : alnumS s with
  | false =>
    have HE := Lib.hid (show variantS s = false by unfold variantS; rw [hn]; rfl)
    rw [hn] at hcl
    clear hn hs
    generalize classS s = c at *
    go_enter Tryz.func52, Tryz.ntmps52
    go_wp2_with (go_at_call 79; (with_reducible refine (C1.out _).mono ?_); rintro e w' ⟨rfl, rfl⟩)
    go_ret
    exact ⟨ret_bool HE.out.symm, rfl⟩
  | true =>
    rw [hn] at hcl
    by_cases h5 : 5 ≤ s.size ∧ s.size ≤ 8
    · have HE := Lib.hid (show variantS s = true by unfold variantS; rw [hn]; simp [h5])
      have h5i : (5 : Int) ≤ (s.size : Int) := by omega
      have h8i : (s.size : Int) ≤ 8 := by omega
      clear hn hs h5
      generalize classS s = c at *
      go_enter Tryz.func52, Tryz.ntmps52
      go_wp2_with (go_at_call 79; (with_reducible refine (C1.out _).mono ?_); rintro e w' ⟨rfl, rfl⟩)
      go_ret
      exact ⟨ret_bool HE.out.symm, rfl⟩
    · by_cases h4 : s.size = 4
      · have h0 : 0 < s.size := by omega
        have HE := Lib.hid (show variantS s = isD s[0] by
          unfold variantS
          rw [hn, head_of s h0]
          simp [h4])
        have h5i : ¬ (5 : Int) ≤ (s.size : Int) := by omega
        have h4i : ((s.size : Int) == 4) = true := by rw [beq_iff_eq]; omega
        clear hn hs h5 h4
        generalize classS s = c at *
        by_cases hlo : 48 ≤ s[0].toNat
        · by_cases hhi : s[0].toNat ≤ 57
          · have HD := Lib.hid (isD_true hlo hhi)
            have hloi : (48 : Int) ≤ (s[0].toNat : Int) := by omega
            have hhii : (s[0].toNat : Int) ≤ 57 := by omega
            go_enter Tryz.func52, Tryz.ntmps52
            go_wp2_with (go_at_call 79; (with_reducible refine (C1.out _).mono ?_); rintro e w' ⟨rfl, rfl⟩)
            go_ret
            exact ⟨ret_bool (by rw [HE.out, HD.out]), rfl⟩
          · have HD := Lib.hid (isD_false (c := s[0]) (.inr (by omega)))
            have hloi : (48 : Int) ≤ (s[0].toNat : Int) := by omega
            have hhii : ¬ (s[0].toNat : Int) ≤ 57 := by omega
            go_enter Tryz.func52, Tryz.ntmps52
            go_wp2_with (go_at_call 79; (with_reducible refine (C1.out _).mono ?_); rintro e w' ⟨rfl, rfl⟩)
            go_ret
            exact ⟨ret_bool (by rw [HE.out, HD.out]; simpa using hhii), rfl⟩
        · have HD := Lib.hid (isD_false (c := s[0]) (.inl (by omega)))
          have hloi : ¬ (48 : Int) ≤ (s[0].toNat : Int) := by omega
          go_enter Tryz.func52, Tryz.ntmps52
          go_wp2_with (go_at_call 79; (with_reducible refine (C1.out _).mono ?_); rintro e w' ⟨rfl, rfl⟩)
          go_ret
          exact ⟨ret_bool (by rw [HE.out, HD.out]), rfl⟩
      · have HE := Lib.hid (show variantS s = false by unfold variantS; rw [hn]; simp [h4]; omega)
        have h4i : ((s.size : Int) == 4) = false := by rw [beq_eq_false_iff_ne]; omega
        have h58 : ¬ (5 : Int) ≤ (s.size : Int) ∨ ((5 : Int) ≤ (s.size : Int) ∧ ¬ (s.size : Int) ≤ 8) := by omega
        clear hn hs h5 h4
        generalize classS s = c at *
        rcases h58 with h5i | ⟨h5i, h8i⟩
        · go_enter Tryz.func52, Tryz.ntmps52
          go_wp2_with (go_at_call 79; (with_reducible refine (C1.out _).mono ?_); rintro e w' ⟨rfl, rfl⟩)
          go_ret
          exact ⟨ret_bool HE.out.symm, rfl⟩
        · go_enter Tryz.func52, Tryz.ntmps52
          go_wp2_with (go_at_call 79; (with_reducible refine (C1.out _).mono ?_); rintro e w' ⟨rfl, rfl⟩)
          go_ret
          exact ⟨ret_bool (by rw [HE.out]; simpa using h8i), rfl⟩

set_option maxRecDepth 100000 in
theorem singleton_ref (s : ByteArray) (w : World) (hs : s.size ≤ 140737488351232) :
    Calls Tryz.prog 54 #[.string s] w fun e w' => e = .returned (.bool (singletonS s)) ∧ w = w' := by
  have C1 := Lib.hid (fun w5 => class_ref s w5 hs)
  have hcl := class_pos0 s
  clear hs
  by_cases h1 : s.size = 1
  · have h1i : ((s.size : Int) == 1) = true := by rw [beq_iff_eq]; omega
    cases hn : alnumS s with
    | false =>
      have HE := Lib.hid (show singletonS s = false by unfold singletonS; rw [hn]; simp)
      rw [hn] at hcl
      have hc0 : ¬ (0 : Int) < classS s := by simpa using hcl
      clear hn hcl h1
      generalize classS s = c at *
      go_enter Tryz.func54, Tryz.ntmps54
      go_wp2_with (go_at_call 79; (with_reducible refine (C1.out _).mono ?_); rintro e w' ⟨rfl, rfl⟩)
      go_ret
      exact ⟨ret_bool HE.out.symm, rfl⟩
    | true =>
      rw [hn] at hcl
      have hc0 : (0 : Int) < classS s := by simpa using hcl
      by_cases hx : s = ⟨#[120]⟩
      · have HE := Lib.hid (show singletonS s = false by unfold singletonS; simp [hx])
        clear hn hcl h1 h1i
        subst hx
        generalize classS _ = c at *
        go_enter Tryz.func54, Tryz.ntmps54
        go_wp2_with (go_at_call 79; (with_reducible refine (C1.out _).mono ?_); rintro e w' ⟨rfl, rfl⟩)
        go_ret
        exact ⟨ret_bool HE.out.symm, rfl⟩
      · by_cases hX : s = ⟨#[88]⟩
        · have HE := Lib.hid (show singletonS s = false by unfold singletonS; simp [hX])
          clear hn hcl h1 h1i hx
          subst hX
          generalize classS _ = c at *
          go_enter Tryz.func54, Tryz.ntmps54
          go_wp2_with (go_at_call 79; (with_reducible refine (C1.out _).mono ?_); rintro e w' ⟨rfl, rfl⟩)
          go_ret
          exact ⟨ret_bool HE.out.symm, rfl⟩
        · have HE := Lib.hid (show singletonS s = true by unfold singletonS; simp [h1, hn, hx, hX])
          have hxb : (s.toList == [120]) = false := by
            have := toList_ne hx
            rwa [show (ByteArray.mk #[120]).toList = [120] by rw [ByteArray.toList_eq]] at this
          have hXb : (s.toList == [88]) = false := by
            have := toList_ne hX
            rwa [show (ByteArray.mk #[88]).toList = [88] by rw [ByteArray.toList_eq]] at this
          clear hn hcl h1
          generalize classS s = c at *
          go_enter Tryz.func54, Tryz.ntmps54
          go_wp2_with (go_at_call 79; (with_reducible refine (C1.out _).mono ?_); rintro e w' ⟨rfl, rfl⟩)
          go_ret
          exact ⟨ret_bool HE.out.symm, rfl⟩
  · have HE := Lib.hid (show singletonS s = false by unfold singletonS; simp [h1])
    have h1i : ((s.size : Int) == 1) = false := by rw [beq_eq_false_iff_ne]; omega
    clear h1 hcl
    go_enter Tryz.func54, Tryz.ntmps54
    go_wp2_with (go_at_call 79; (with_reducible refine (C1.out _).mono ?_); rintro e w' ⟨rfl, rfl⟩)
    go_ret
    exact ⟨ret_bool HE.out.symm, rfl⟩
end Go.Proofs.YtpnhjpplfjamkaaGreatDoor

/-! Layer 6's statements: short. -/
namespace Go.Proofs.YtpnhjpplfjamkaaGreatDoor
open Go Go.RowKit

end Go.Proofs.YtpnhjpplfjamkaaGreatDoor

/-! The project's own answers for package tag: what a subtag is. -/
namespace Go.Proofs.YtpnhjpplfjamkaaGreatDoor
open Go Go.RowKit

/-- Has a text so many bytes, and is it what is asked? -/
def sizedB (s : ByteArray) (lo hi : Nat) (m : Bool) : Bool := m && (decide (lo ≤ s.size) && decide (s.size ≤ hi))

set_option maxRecDepth 100000 in
theorem sized_alpha (s : ByteArray) (lo hi : Nat) (w : World) (hs : s.size ≤ maxLen) :
    Calls Tryz.prog 114 #[.string s, .int .i64 (lo : Int), .int .i64 (hi : Int), .func (.func 115) #[] #[]] w fun e w' => e = .returned (.bool (sizedB s lo hi (alphaS s))) ∧ Below w.heap.size w w' := by
  have C1 := Lib.hid (fun w5 => alpha_any s w5 hs)
  clear hs
  generalize alphaS s = m at *
  by_cases hl : lo ≤ s.size
  · have hli : (lo : Int) ≤ (s.size : Int) := by omega
    by_cases hh : s.size ≤ hi
    · have hhi : (s.size : Int) ≤ (hi : Int) := by omega
      have HE := Lib.hid (show sizedB s lo hi m = m by unfold sizedB; simp [hl, hh])
      clear hl hh
      go_enter Tryz.func114, Tryz.ntmps114
      go_wp2_with (go_at_call 115; (with_reducible refine (C1.out _).mono ?_); rintro e w1 ⟨rfl, hb1⟩)
      go_ret
      exact ⟨ret_bool HE.out.symm, hb1⟩
    · have hhi : ¬ (s.size : Int) ≤ (hi : Int) := by omega
      have HE := Lib.hid (show sizedB s lo hi m = false by unfold sizedB; simp [hh])
      clear hl hh
      go_enter Tryz.func114, Tryz.ntmps114
      go_wp2
      go_ret
      exact ⟨ret_bool HE.out.symm, Below.refl _ _⟩
  · have hli : ¬ (lo : Int) ≤ (s.size : Int) := by omega
    have HE := Lib.hid (show sizedB s lo hi m = false by unfold sizedB; simp [hl])
    clear hl
    go_enter Tryz.func114, Tryz.ntmps114
    go_wp2
    go_ret
    exact ⟨ret_bool HE.out.symm, Below.refl _ _⟩

set_option maxRecDepth 100000 in
theorem sized_digit (s : ByteArray) (lo hi : Nat) (w : World) (hs : s.size ≤ maxLen) :
    Calls Tryz.prog 114 #[.string s, .int .i64 (lo : Int), .int .i64 (hi : Int), .func (.func 126) #[] #[]] w fun e w' => e = .returned (.bool (sizedB s lo hi (digitS s))) ∧ Below w.heap.size w w' := by
  have C1 := Lib.hid (fun w5 => digitS_any s w5 hs)
  clear hs
  generalize digitS s = m at *
  by_cases hl : lo ≤ s.size
  · have hli : (lo : Int) ≤ (s.size : Int) := by omega
    by_cases hh : s.size ≤ hi
    · have hhi : (s.size : Int) ≤ (hi : Int) := by omega
      have HE := Lib.hid (show sizedB s lo hi m = m by unfold sizedB; simp [hl, hh])
      clear hl hh
      go_enter Tryz.func114, Tryz.ntmps114
      go_wp2_with (go_at_call 126; (with_reducible refine (C1.out _).mono ?_); rintro e w1 ⟨rfl, hb1⟩)
      go_ret
      exact ⟨ret_bool HE.out.symm, hb1⟩
    · have hhi : ¬ (s.size : Int) ≤ (hi : Int) := by omega
      have HE := Lib.hid (show sizedB s lo hi m = false by unfold sizedB; simp [hh])
      clear hl hh
      go_enter Tryz.func114, Tryz.ntmps114
      go_wp2
      go_ret
      exact ⟨ret_bool HE.out.symm, Below.refl _ _⟩
  · have hli : ¬ (lo : Int) ≤ (s.size : Int) := by omega
    have HE := Lib.hid (show sizedB s lo hi m = false by unfold sizedB; simp [hl])
    clear hl
    go_enter Tryz.func114, Tryz.ntmps114
    go_wp2
    go_ret
    exact ⟨ret_bool HE.out.symm, Below.refl _ _⟩

set_option maxRecDepth 100000 in
theorem sized_alnum (s : ByteArray) (lo hi : Nat) (w : World) (hs : s.size ≤ maxLen) :
    Calls Tryz.prog 114 #[.string s, .int .i64 (lo : Int), .int .i64 (hi : Int), .func (.func 125) #[] #[]] w fun e w' => e = .returned (.bool (sizedB s lo hi (alnumS s))) ∧ Below w.heap.size w w' := by
  have C1 := Lib.hid (fun w5 => alnum_any s w5 hs)
  clear hs
  generalize alnumS s = m at *
  by_cases hl : lo ≤ s.size
  · have hli : (lo : Int) ≤ (s.size : Int) := by omega
    by_cases hh : s.size ≤ hi
    · have hhi : (s.size : Int) ≤ (hi : Int) := by omega
      have HE := Lib.hid (show sizedB s lo hi m = m by unfold sizedB; simp [hl, hh])
      clear hl hh
      go_enter Tryz.func114, Tryz.ntmps114
      go_wp2_with (go_at_call 125; (with_reducible refine (C1.out _).mono ?_); rintro e w1 ⟨rfl, hb1⟩)
      go_ret
      exact ⟨ret_bool HE.out.symm, hb1⟩
    · have hhi : ¬ (s.size : Int) ≤ (hi : Int) := by omega
      have HE := Lib.hid (show sizedB s lo hi m = false by unfold sizedB; simp [hh])
      clear hl hh
      go_enter Tryz.func114, Tryz.ntmps114
      go_wp2
      go_ret
      exact ⟨ret_bool HE.out.symm, Below.refl _ _⟩
  · have hli : ¬ (lo : Int) ≤ (s.size : Int) := by omega
    have HE := Lib.hid (show sizedB s lo hi m = false by unfold sizedB; simp [hl])
    clear hl
    go_enter Tryz.func114, Tryz.ntmps114
    go_wp2
    go_ret
    exact ⟨ret_bool HE.out.symm, Below.refl _ _⟩

set_option maxRecDepth 100000 in
theorem language_own (s : ByteArray) (w : World) (hs : s.size ≤ maxLen) :
    Calls Tryz.prog 100 #[.string s] w fun e w' => e = .returned (.bool (languageS s)) ∧ Below w.heap.size w w' := by
  have L := Lib.hid (fun w5 => show Calls Tryz.prog 114 #[.string s, .int .i64 2, .int .i64 8, .func (.func 115) #[] #[]] w5 fun e w' => e = .returned (.bool (languageS s)) ∧ Below w5.heap.size w5 w' from sized_alpha s 2 8 w5 hs)
  clear hs
  go_enter Tryz.func100, Tryz.ntmps100
  go_wp2_with (go_at_call 114; (with_reducible refine (L.out _).mono ?_); rintro e w1 ⟨rfl, hb1⟩)
  go_ret
  exact ⟨rfl, hb1⟩
set_option maxRecDepth 100000 in
theorem extlang_own (s : ByteArray) (w : World) (hs : s.size ≤ maxLen) :
    Calls Tryz.prog 117 #[.string s] w fun e w' => e = .returned (.bool (extlangS s)) ∧ Below w.heap.size w w' := by
  have L := Lib.hid (fun w5 => show Calls Tryz.prog 114 #[.string s, .int .i64 3, .int .i64 3, .func (.func 115) #[] #[]] w5 fun e w' => e = .returned (.bool (extlangS s)) ∧ Below w5.heap.size w5 w' from sized_alpha s 3 3 w5 hs)
  clear hs
  go_enter Tryz.func117, Tryz.ntmps117
  go_wp2_with (go_at_call 114; (with_reducible refine (L.out _).mono ?_); rintro e w1 ⟨rfl, hb1⟩)
  go_ret
  exact ⟨rfl, hb1⟩
set_option maxRecDepth 100000 in
theorem script_own (s : ByteArray) (w : World) (hs : s.size ≤ maxLen) :
    Calls Tryz.prog 118 #[.string s] w fun e w' => e = .returned (.bool (scriptS s)) ∧ Below w.heap.size w w' := by
  have L := Lib.hid (fun w5 => show Calls Tryz.prog 114 #[.string s, .int .i64 4, .int .i64 4, .func (.func 115) #[] #[]] w5 fun e w' => e = .returned (.bool (scriptS s)) ∧ Below w5.heap.size w5 w' from sized_alpha s 4 4 w5 hs)
  clear hs
  go_enter Tryz.func118, Tryz.ntmps118
  go_wp2_with (go_at_call 114; (with_reducible refine (L.out _).mono ?_); rintro e w1 ⟨rfl, hb1⟩)
  go_ret
  exact ⟨rfl, hb1⟩
theorem sizedB_three (s : ByteArray) (m : Bool) : sizedB s 3 3 m = (decide (s.size = 3) && m) := by
  unfold sizedB
  by_cases h : s.size = 3
  · simp [h]
  · have : ¬ (3 ≤ s.size ∧ s.size ≤ 3) := by omega
    cases m <;> simp [h]
    omega
set_option maxRecDepth 100000 in
theorem region_own (s : ByteArray) (w : World) (hs : s.size ≤ maxLen) :
    Calls Tryz.prog 119 #[.string s] w fun e w' => e = .returned (.bool (regionS s)) ∧ Below w.heap.size w w' := by
  have L := onward w (fun w5 => show Calls Tryz.prog 114 #[.string s, .int .i64 2, .int .i64 2, .func (.func 115) #[] #[]] w5 fun e w' => e = .returned (.bool (lettersS s 2 2)) ∧ Below w5.heap.size w5 w' from sized_alpha s 2 2 w5 hs)
  have M := onward w (fun w5 => show Calls Tryz.prog 114 #[.string s, .int .i64 3, .int .i64 3, .func (.func 126) #[] #[]] w5 fun e w' => e = .returned (.bool (sizedB s 3 3 (digitS s))) ∧ Below w5.heap.size w5 w' from sized_digit s 3 3 w5 hs)
  have HE := Lib.hid (show regionS s = (lettersS s 2 2 || sizedB s 3 3 (digitS s)) by rw [sizedB_three]; rfl)
  have hB0 : Below w.heap.size w w := Below.refl _ _
  clear hs
  generalize lettersS s 2 2 = a at *
  generalize sizedB s 3 3 (digitS s) = b at *
  cases a <;>
  · go_enter Tryz.func119, Tryz.ntmps119
    go_wp2_with (go_at_call 114; (first | (with_reducible refine (L.out _ (by assumption)).mono ?_) | (with_reducible refine (M.out _ (by assumption)).mono ?_)); rintro e w1 ⟨rfl, hb1⟩)
    go_ret
    exact ⟨ret_bool HE.out.symm, by assumption⟩
theorem one_digit (s : ByteArray) (h : 0 < s.size) : digitS (s.extract 0 1) = isD s[0] := by
  have : bs (s.extract 0 1) = [s[0]] := by
    rw [bs_extract]
    show ((s.data.toList.drop 0).take 1) = [s.data[0]]
    rw [List.drop_zero, List.take_one, List.head?_eq_getElem?]
    have : 0 < s.data.toList.length := by simpa using h
    rw [List.getElem?_eq_getElem this]
    simp
  unfold digitS has
  rw [this]
  simp
set_option maxRecDepth 100000 in
theorem variant_own (s : ByteArray) (w : World) (hs : s.size ≤ maxLen) :
    Calls Tryz.prog 120 #[.string s] w fun e w' => e = .returned (.bool (variantS s)) ∧ Below w.heap.size w w' := by
  have L := onward w (fun w5 => show Calls Tryz.prog 114 #[.string s, .int .i64 5, .int .i64 8, .func (.func 125) #[] #[]] w5 fun e w' => e = .returned (.bool (sizedB s 5 8 (alnumS s))) ∧ Below w5.heap.size w5 w' from sized_alnum s 5 8 w5 hs)
  have M := onward w (fun w5 => show Calls Tryz.prog 114 #[.string s, .int .i64 4, .int .i64 4, .func (.func 125) #[] #[]] w5 fun e w' => e = .returned (.bool (sizedB s 4 4 (alnumS s))) ∧ Below w5.heap.size w5 w' from sized_alnum s 4 4 w5 hs)
  have hB0 : Below w.heap.size w w := Below.refl _ _
  by_cases h4 : s.size = 4
  · have h1 : (1 : Int) ≤ (s.size : Int) := by omega
    have D := onward w (fun w5 => digitS_any (s.extract 0 1) w5 (by rw [ByteArray.size_extract]; unfold maxLen; omega))
    have HE := Lib.hid (show variantS s = (sizedB s 5 8 (alnumS s) || (sizedB s 4 4 (alnumS s) && digitS (s.extract 0 1))) by
      rw [one_digit s (by omega)]
      unfold variantS sizedB
      rw [head_of s (by omega)]
      simp [h4])
    clear hs h4
    generalize digitS (s.extract 0 1) = c at *
    generalize sizedB s 5 8 (alnumS s) = a at *
    generalize sizedB s 4 4 (alnumS s) = b at *
    cases a <;> cases b <;>
    · go_enter Tryz.func120, Tryz.ntmps120
      go_wp2_with (first | (go_at_call 114; (first | (with_reducible refine (L.out _ (by assumption)).mono ?_) | (with_reducible refine (M.out _ (by assumption)).mono ?_)); rintro e w1 ⟨rfl, hb1⟩) | (go_at_call 126; (with_reducible refine (D.out _ (by assumption)).mono ?_); rintro e w1 ⟨rfl, hb1⟩))
      go_ret
      exact ⟨ret_bool HE.out.symm, by assumption⟩
  · have h44 : sizedB s 4 4 (alnumS s) = false := by
      unfold sizedB
      have : ¬ (4 ≤ s.size ∧ s.size ≤ 4) := by omega
      cases alnumS s <;> simp
      omega
    have HE := Lib.hid (show variantS s = sizedB s 5 8 (alnumS s) by
      unfold variantS sizedB
      simp [h4])
    rw [h44] at M
    clear hs h4 h44
    generalize sizedB s 5 8 (alnumS s) = a at *
    cases a <;>
    · go_enter Tryz.func120, Tryz.ntmps120
      go_wp2_with (go_at_call 114; (first | (with_reducible refine (L.out _ (by assumption)).mono ?_) | (with_reducible refine (M.out _ (by assumption)).mono ?_)); rintro e w1 ⟨rfl, hb1⟩)
      go_ret
      exact ⟨ret_bool HE.out.symm, by assumption⟩
theorem same_x : ∀ s : ByteArray, s.size = 1 → sameS s ⟨#[120]⟩ = (decide (s = ⟨#[120]⟩) || decide (s = ⟨#[88]⟩)) := by
  intro s h
  obtain ⟨d⟩ := s
  obtain ⟨l⟩ := d
  match l, h with
  | [c], _ => exact byte_all (fun c => sameS ⟨⟨[c]⟩⟩ ⟨#[120]⟩ = (decide (ByteArray.mk ⟨[c]⟩ = ⟨#[120]⟩) || decide (ByteArray.mk ⟨[c]⟩ = ⟨#[88]⟩))) (by decide +kernel) c
set_option maxRecDepth 100000 in
theorem singleton_own (s : ByteArray) (w : World) (hs : s.size ≤ maxLen) :
    Calls Tryz.prog 122 #[.string s] w fun e w' => e = .returned (.bool (singletonS s)) ∧ Below w.heap.size w w' := by
  have L := onward w (fun w5 => show Calls Tryz.prog 114 #[.string s, .int .i64 1, .int .i64 1, .func (.func 125) #[] #[]] w5 fun e w' => e = .returned (.bool (sizedB s 1 1 (alnumS s))) ∧ Below w5.heap.size w5 w' from sized_alnum s 1 1 w5 hs)
  have D := onward w (fun w5 => same_any s ⟨#[120]⟩ w5 hs (by decide))
  have hB0 : Below w.heap.size w w := Below.refl _ _
  by_cases h1 : s.size = 1
  · have HE := Lib.hid (show singletonS s = (sizedB s 1 1 (alnumS s) && !sameS s ⟨#[120]⟩) by
      rw [same_x s h1]
      unfold singletonS sizedB
      simp [h1])
    clear hs h1
    generalize sameS s ⟨#[120]⟩ = c at *
    generalize sizedB s 1 1 (alnumS s) = a at *
    cases a <;>
    · go_enter Tryz.func122, Tryz.ntmps122
      go_wp2_with (first | (go_at_call 114; (with_reducible refine (L.out _ (by assumption)).mono ?_); rintro e w1 ⟨rfl, hb1⟩) | (go_at_call 62; (with_reducible refine (D.out _ (by assumption)).mono ?_); rintro e w1 ⟨rfl, hb1⟩))
      go_ret
      exact ⟨ret_bool HE.out.symm, by assumption⟩
  · have h44 : sizedB s 1 1 (alnumS s) = false := by
      unfold sizedB
      have : ¬ (1 ≤ s.size ∧ s.size ≤ 1) := by omega
      cases alnumS s <;> simp
      omega
    have HE := Lib.hid (show singletonS s = false by unfold singletonS; simp [h1])
    rw [h44] at L
    clear hs h1 h44
    go_enter Tryz.func122, Tryz.ntmps122
    go_wp2_with (go_at_call 114; (with_reducible refine (L.out _ (by assumption)).mono ?_); rintro e w1 ⟨rfl, hb1⟩)
    go_ret
    exact ⟨ret_bool HE.out.symm, by assumption⟩
end Go.Proofs.YtpnhjpplfjamkaaGreatDoor

/-! Layer 6's statements: awake. -/
namespace Go.Proofs.YtpnhjpplfjamkaaGreatDoor
open Go Go.RowKit

end Go.Proofs.YtpnhjpplfjamkaaGreatDoor
