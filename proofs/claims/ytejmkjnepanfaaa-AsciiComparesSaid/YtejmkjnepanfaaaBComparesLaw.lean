/-
  AsciiCompares: the walk of the law.
-/
import Derived.Test.YtejmkjnepanfaaaBKit
namespace Go.Proofs.Ytejmkjnepanfaaa
open Go Go.RowKit

theorem sameS_of {a b : ByteArray} {n : Int} {v : Bool} (h : cmpS a b = n) (hv : decide (n = 0) = v) : sameS a b = v := by unfold sameS; rw [h, hv]
set_option maxHeartbeats 1600000 in
theorem compares_law (a b : ByteArray) (w : World) (hsa : a.size ≤ maxLen) (hsb : b.size ≤ maxLen) :
    Calls Try.prog 4 #[.string a, .string b] w fun e w' => e = .returned (.bool true) ∧ Below w.heap.size w w' := by
  obtain ⟨x, htx⟩ : ∃ x, cut a = x := ⟨_, rfl⟩
  have h40x : x.size ≤ 40 := by rw [← htx]; exact size_cut a
  have Sx := told (onwardS w fun w5 => short_any a w5 hsa) (ret_string htx)
  have HRx := Lib.hid (show x.size ≤ 140737488351232 by omega)
  have HMx := Lib.hid (show x.size ≤ maxLen by unfold maxLen; omega)
  clear htx
  obtain ⟨y, hty⟩ : ∃ y, cut b = y := ⟨_, rfl⟩
  have h40y : y.size ≤ 40 := by rw [← hty]; exact size_cut b
  have Sy := told (onwardS w fun w5 => short_any b w5 hsb) (ret_string hty)
  have HRy := Lib.hid (show y.size ≤ 140737488351232 by omega)
  have HMy := Lib.hid (show y.size ≤ maxLen by unfold maxLen; omega)
  clear hty
  have A1 := onward w awake_any
  have HMu := Lib.hid (show (upS x).size ≤ maxLen by rw [size_upS]; exact HMx.out)
  have HMl := Lib.hid (show (lowS y).size ≤ maxLen by rw [size_lowS]; exact HMy.out)
  have HMt := Lib.hid (show (titleS x).size ≤ maxLen by rw [size_titleS]; exact HMx.out)
  have C1 := onward w fun w5 => comp_any x y w5 HMx.out HMy.out
  have C2 := onward w fun w5 => comp_any y x w5 HMy.out HMx.out
  have C3 := onward w fun w5 => comp_any (upS x) (lowS y) w5 HMu.out HMl.out
  have R1 := onward w fun w5 => compare_ref x y w5 HRx.out HRy.out
  have T1 := onward w fun w5 => same_any x y w5 HMx.out HMy.out
  have T2 := onward w fun w5 => same_any x (titleS x) w5 HMx.out HMt.out
  have U := onward w fun w5 => upper_text x w5 HRx.out
  have V := onward w fun w5 => lower_text y w5 HRy.out
  have W := onward w fun w5 => title_text x w5 HRx.out
  rw [cmpS_swap x y] at C2
  rw [cmpS_up_low] at C3
  rw [sameS_of (cmpS_title x) rfl] at T2
  have hB0 : Below w.heap.size w w := Below.refl _ _
  clear h40x h40y
  rcases cmpS_range x y with h | h | h
  all_goals
    rw [sameS_of h rfl] at T1
    rw [h] at C1 C2 C3 R1
    clear h
    go_enter Try.func4, Try.ntmps4
    go_wp2_with (first | (go_at_call 9; ((with_reducible refine (A1.out _ (by assumption)).mono ?_); rintro e w5 ⟨rfl, hb5⟩)) | (go_at_call 10; ((with_reducible refine (Sx.out _ (by assumption)).mono ?_); rintro e w5 ⟨rfl, hb5⟩)) | (go_at_call 10; ((with_reducible refine (Sy.out _ (by assumption)).mono ?_); rintro e w5 ⟨rfl, hb5⟩)) | (go_at_call 22; ((with_reducible refine (C1.out _ (by assumption)).mono ?_); rintro e w5 ⟨rfl, hb5⟩)) | (go_at_call 22; ((with_reducible refine (C2.out _ (by assumption)).mono ?_); rintro e w5 ⟨rfl, hb5⟩)) | (go_at_call 22; ((with_reducible refine (C3.out _ (by assumption)).mono ?_); rintro e w5 ⟨rfl, hb5⟩)) | (go_at_call 23; ((with_reducible refine (R1.out _ (by assumption)).mono ?_); rintro e w5 ⟨rfl, hb5⟩)) | (go_at_call 24; ((with_reducible refine (T1.out _ (by assumption)).mono ?_); rintro e w5 ⟨rfl, hb5⟩)) | (go_at_call 24; ((with_reducible refine (T2.out _ (by assumption)).mono ?_); rintro e w5 ⟨rfl, hb5⟩)) | (go_at_call 18; ((with_reducible refine (U.out _ (by assumption)).mono ?_); rintro e w5 ⟨rfl, hb5⟩)) | (go_at_call 16; ((with_reducible refine (V.out _ (by assumption)).mono ?_); rintro e w5 ⟨rfl, hb5⟩)) | (go_at_call 20; ((with_reducible refine (W.out _ (by assumption)).mono ?_); rintro e w5 ⟨rfl, hb5⟩)))
    go_ret
    exact ⟨rfl, by assumption⟩
end Go.Proofs.Ytejmkjnepanfaaa
