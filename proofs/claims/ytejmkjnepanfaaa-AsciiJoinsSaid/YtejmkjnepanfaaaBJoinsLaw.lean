/-
  AsciiJoins: the walk of the law.
-/
import Derived.Test.YtejmkjnepanfaaaBKit
namespace Go.Proofs.Ytejmkjnepanfaaa
open Go Go.RowKit

theorem bs_app2 (a b : ByteArray) : bs (a ++ b) = bs a ++ bs b := by simp [bs]
theorem app_empty_l {a : ByteArray} (h : a.size = 0) (b : ByteArray) : a ++ b = b := by
  apply ofL_ext
  rw [bs_app2, List.eq_nil_of_length_eq_zero (l := bs a) (by rw [size_bs]; exact h)]
  rfl
theorem app_empty_r {b : ByteArray} (h : b.size = 0) (a : ByteArray) : a ++ b = a := by
  apply ofL_ext
  rw [bs_app2, List.eq_nil_of_length_eq_zero (l := bs b) (by rw [size_bs]; exact h), List.append_nil]
theorem class_empty {a : ByteArray} (h : a.size = 0) : classS a = 0 := by
  unfold classS alphaS digitS alnumS has
  rw [List.eq_nil_of_length_eq_zero (l := bs a) (by rw [size_bs]; exact h)]
  rfl
theorem has_app (p : UInt8 → Bool) {a b : ByteArray} (ha : 0 < a.size) (hb : 0 < b.size) : has p (a ++ b) = (has p a && has p b) := by
  have ea : (bs a).isEmpty = false := by
    rw [← size_bs] at ha
    cases h : bs a with
    | nil => rw [h] at ha; simp at ha
    | cons => rfl
  have eb : (bs b).isEmpty = false := by
    rw [← size_bs] at hb
    cases h : bs b with
    | nil => rw [h] at hb; simp at hb
    | cons => rfl
  have eab : (bs a ++ bs b).isEmpty = false := by
    cases h : bs a with
    | nil => rw [h] at ea; cases ea
    | cons => rfl
  unfold has
  rw [bs_app2, eab, ea, eb, List.all_append]
  rfl
theorem class_app {a b : ByteArray} (ha : 0 < a.size) (hb : 0 < b.size) {x y : Int} {p q r p' q' r' : Bool} (h1 : ClassIs a x p q r) (h2 : ClassIs b y p' q' r') :
    classS (a ++ b) = if 0 < x ∧ 0 < y then (if x = y then x else 3) else 0 := by
  have eA := has_app isA ha hb
  have eD := has_app isD ha hb
  have eN := has_app isN ha hb
  unfold classS alphaS digitS alnumS
  rw [eA, eD, eN]
  rcases h1 with ⟨_, h1, h2', h3⟩ | ⟨_, h1, h2', h3⟩ | ⟨_, h1, h2', h3⟩ | ⟨_, h1, h2', h3⟩ <;> rcases h2 with ⟨_, g1, g2, g3⟩ | ⟨_, g1, g2, g3⟩ | ⟨_, g1, g2, g3⟩ | ⟨_, g1, g2, g3⟩ <;>
    (unfold alphaS at h1 g1; unfold digitS at h2' g2; unfold alnumS at h3 g3; rw [h1, h2', h3, g1, g2, g3]; rfl)
theorem lowS_app (a b : ByteArray) : lowS (a ++ b) = lowS a ++ lowS b := by
  unfold lowS; rw [bs_app2, List.map_append, ofL_append]
theorem upS_app (a b : ByteArray) : upS (a ++ b) = upS a ++ upS b := by
  unfold upS; rw [bs_app2, List.map_append, ofL_append]
theorem titleS_app {a : ByteArray} (b : ByteArray) (h : 0 < a.size) : titleS (a ++ b) = titleS a ++ lowS b := by
  unfold titleS lowS
  rw [bs_app2, ofL_append]
  congr 1
  rw [← size_bs] at h
  cases hb : bs a with
  | nil => rw [hb] at h; simp at h
  | cons c r => simp [titleL]

set_option maxHeartbeats 16000000 in
theorem joins_law (a b : ByteArray) (w : World) (hsa : a.size ≤ maxLen) (hsb : b.size ≤ maxLen) :
    Calls Try.prog 8 #[.string a, .string b] w fun e w' => e = .returned (.bool true) ∧ Below w.heap.size w w' := by
  obtain ⟨x, htx⟩ : ∃ x, cut a = x := ⟨_, rfl⟩
  have h40x : x.size ≤ 40 := by rw [← htx]; exact size_cut a
  have Sx := told (onwardS w fun w5 => short_any a w5 hsa) (ret_string htx)
  have HRx := Lib.hid (show x.size ≤ 140737488351232 by omega)
  have HMx := Lib.hid (show x.size ≤ maxLen by unfold maxLen; omega)
  clear htx
  obtain ⟨y, hty⟩ : ∃ y, cut b = y := ⟨_, rfl⟩
  have h40y : y.size ≤ 40 := by rw [← hty]; exact size_cut b
  have Sy := told (onwardS w fun w5 => short_any b w5 hsb) (ret_string hty)
  have HRy := Lib.hid (show y.size ≤ 140737488351232 by omega)
  have HMy := Lib.hid (show y.size ≤ maxLen by unfold maxLen; omega)
  clear hty
  have A1 := onward w awake_any
  have hab : (x ++ y).size = x.size + y.size := ByteArray.size_append
  have HMb := Lib.hid (show (x ++ y).size ≤ maxLen by rw [hab]; unfold maxLen; omega)
  have HRb := Lib.hid (show (x ++ y).size ≤ 140737488351232 by rw [hab]; omega)
  obtain ⟨lx, hlx⟩ : ∃ l, lowS x = l := ⟨_, rfl⟩
  obtain ⟨ly, hly⟩ : ∃ l, lowS y = l := ⟨_, rfl⟩
  obtain ⟨ux, hux⟩ : ∃ l, upS x = l := ⟨_, rfl⟩
  obtain ⟨uy, huy⟩ : ∃ l, upS y = l := ⟨_, rfl⟩
  obtain ⟨tx, htx⟩ : ∃ l, titleS x = l := ⟨_, rfl⟩
  have s1 : lx.size = x.size := by rw [← hlx, size_lowS]
  have s2 : ly.size = y.size := by rw [← hly, size_lowS]
  have s3 : ux.size = x.size := by rw [← hux, size_upS]
  have s4 : uy.size = y.size := by rw [← huy, size_upS]
  have s5 : tx.size = x.size := by rw [← htx, size_titleS]
  have K1 := onward w fun w5 => class_any x w5 HMx.out
  have K2 := onward w fun w5 => class_any y w5 HMy.out
  have K3 := onward w fun w5 => class_any (x ++ y) w5 HMb.out
  have L1 := told (onward w fun w5 => lower_text x w5 HRx.out) (ret_string hlx)
  have L2 := told (onward w fun w5 => lower_text y w5 HRy.out) (ret_string hly)
  have L3 := told (onward w fun w5 => lower_text (x ++ y) w5 HRb.out) (ret_string (show lowS (x ++ y) = lx ++ ly by rw [lowS_app, hlx, hly]))
  have U1 := told (onward w fun w5 => upper_text x w5 HRx.out) (ret_string hux)
  have U2 := told (onward w fun w5 => upper_text y w5 HRy.out) (ret_string huy)
  have U3 := told (onward w fun w5 => upper_text (x ++ y) w5 HRb.out) (ret_string (show upS (x ++ y) = ux ++ uy by rw [upS_app, hux, huy]))
  have hsum : x.size + y.size ≤ 9223372036854775807 := by omega
  have hsun : ¬ (9223372036854775807 < x.size + y.size) := by omega
  have hB0 : Below w.heap.size w w := Below.refl _ _
  clear hab h40x h40y
  by_cases h0 : x.size = 0
  · have he := empty_true h0
    have e3 := app_empty_l h0 y
    obtain ⟨c, p, q, r, hC⟩ := classIs y
    have hK : classS (x ++ y) = classS y := by rw [e3]
    rw [hK] at K3
    rw [class_empty h0] at K1
    clear e3 hK h0 hlx hly hux huy htx
    rcases hC with ⟨h1, _, _, _⟩ | ⟨h1, _, _, _⟩ | ⟨h1, _, _, _⟩ | ⟨h1, _, _, _⟩
    all_goals
      rw [h1] at K2 K3
      clear h1
      go_enter Try.func8, Try.ntmps8
      go_wp2_with (first | (go_at_call 9; ((with_reducible refine (A1.out _ (by assumption)).mono ?_); rintro e w5 ⟨rfl, hb5⟩)) | (go_at_call 10; ((with_reducible refine (Sx.out _ (by assumption)).mono ?_); rintro e w5 ⟨rfl, hb5⟩)) | (go_at_call 10; ((with_reducible refine (Sy.out _ (by assumption)).mono ?_); rintro e w5 ⟨rfl, hb5⟩)) | (go_at_call 12; ((with_reducible refine (K1.out _ (by assumption)).mono ?_); rintro e w5 ⟨rfl, hb5⟩)) | (go_at_call 12; ((with_reducible refine (K2.out _ (by assumption)).mono ?_); rintro e w5 ⟨rfl, hb5⟩)) | (go_at_call 12; ((with_reducible refine (K3.out _ (by assumption)).mono ?_); rintro e w5 ⟨rfl, hb5⟩)) | (go_at_call 16; ((with_reducible refine (L1.out _ (by assumption)).mono ?_); rintro e w5 ⟨rfl, hb5⟩)) | (go_at_call 16; ((with_reducible refine (L2.out _ (by assumption)).mono ?_); rintro e w5 ⟨rfl, hb5⟩)) | (go_at_call 16; ((with_reducible refine (L3.out _ (by assumption)).mono ?_); rintro e w5 ⟨rfl, hb5⟩)) | (go_at_call 18; ((with_reducible refine (U1.out _ (by assumption)).mono ?_); rintro e w5 ⟨rfl, hb5⟩)) | (go_at_call 18; ((with_reducible refine (U2.out _ (by assumption)).mono ?_); rintro e w5 ⟨rfl, hb5⟩)) | (go_at_call 18; ((with_reducible refine (U3.out _ (by assumption)).mono ?_); rintro e w5 ⟨rfl, hb5⟩)))
      go_ret
      exact ⟨rfl, by assumption⟩
  · have T1 := told (onward w fun w5 => title_text x w5 HRx.out) (ret_string htx)
    have T2 := told (onward w fun w5 => title_text (x ++ y) w5 HRb.out) (ret_string (show titleS (x ++ y) = tx ++ ly by rw [titleS_app y (by omega), htx, hly]))
    have he := empty_false (s := x) (by omega)
    by_cases g0 : y.size = 0
    · have ge := empty_true g0
      have e3 := app_empty_r g0 x
      obtain ⟨c, p, q, r, hC⟩ := classIs x
      have hK : classS (x ++ y) = classS x := by rw [e3]
      rw [hK] at K3
      rw [class_empty g0] at K2
      clear e3 hK h0 g0 hlx hly hux huy htx
      rcases hC with ⟨h1, _, _, _⟩ | ⟨h1, _, _, _⟩ | ⟨h1, _, _, _⟩ | ⟨h1, _, _, _⟩
      all_goals
        rw [h1] at K1 K3
        clear h1
        go_enter Try.func8, Try.ntmps8
        go_wp2_with (first | (go_at_call 9; ((with_reducible refine (A1.out _ (by assumption)).mono ?_); rintro e w5 ⟨rfl, hb5⟩)) | (go_at_call 10; ((with_reducible refine (Sx.out _ (by assumption)).mono ?_); rintro e w5 ⟨rfl, hb5⟩)) | (go_at_call 10; ((with_reducible refine (Sy.out _ (by assumption)).mono ?_); rintro e w5 ⟨rfl, hb5⟩)) | (go_at_call 12; ((with_reducible refine (K1.out _ (by assumption)).mono ?_); rintro e w5 ⟨rfl, hb5⟩)) | (go_at_call 12; ((with_reducible refine (K2.out _ (by assumption)).mono ?_); rintro e w5 ⟨rfl, hb5⟩)) | (go_at_call 12; ((with_reducible refine (K3.out _ (by assumption)).mono ?_); rintro e w5 ⟨rfl, hb5⟩)) | (go_at_call 16; ((with_reducible refine (L1.out _ (by assumption)).mono ?_); rintro e w5 ⟨rfl, hb5⟩)) | (go_at_call 16; ((with_reducible refine (L2.out _ (by assumption)).mono ?_); rintro e w5 ⟨rfl, hb5⟩)) | (go_at_call 16; ((with_reducible refine (L3.out _ (by assumption)).mono ?_); rintro e w5 ⟨rfl, hb5⟩)) | (go_at_call 18; ((with_reducible refine (U1.out _ (by assumption)).mono ?_); rintro e w5 ⟨rfl, hb5⟩)) | (go_at_call 18; ((with_reducible refine (U2.out _ (by assumption)).mono ?_); rintro e w5 ⟨rfl, hb5⟩)) | (go_at_call 18; ((with_reducible refine (U3.out _ (by assumption)).mono ?_); rintro e w5 ⟨rfl, hb5⟩)) | (go_at_call 20; ((with_reducible refine (T1.out _ (by assumption)).mono ?_); rintro e w5 ⟨rfl, hb5⟩)) | (go_at_call 20; ((with_reducible refine (T2.out _ (by assumption)).mono ?_); rintro e w5 ⟨rfl, hb5⟩)))
        go_ret
        exact ⟨rfl, by assumption⟩
    · have ge := empty_false (s := y) (by omega)
      obtain ⟨c, p, q, r, hC⟩ := classIs x
      obtain ⟨c', p', q', r', hC'⟩ := classIs y
      have hK := class_app (show 0 < x.size by omega) (show 0 < y.size by omega) hC hC'
      clear h0 g0 hlx hly hux huy htx
      rcases hC with ⟨h1, _, _, _⟩ | ⟨h1, _, _, _⟩ | ⟨h1, _, _, _⟩ | ⟨h1, _, _, _⟩ <;> rcases hC' with ⟨h2, _, _, _⟩ | ⟨h2, _, _, _⟩ | ⟨h2, _, _, _⟩ | ⟨h2, _, _, _⟩
      all_goals
        simp at hK
        rw [hK] at K3
        rw [h1] at K1
        rw [h2] at K2
        clear h1 h2 hK
        go_enter Try.func8, Try.ntmps8
        go_wp2_with (first | (go_at_call 9; ((with_reducible refine (A1.out _ (by assumption)).mono ?_); rintro e w5 ⟨rfl, hb5⟩)) | (go_at_call 10; ((with_reducible refine (Sx.out _ (by assumption)).mono ?_); rintro e w5 ⟨rfl, hb5⟩)) | (go_at_call 10; ((with_reducible refine (Sy.out _ (by assumption)).mono ?_); rintro e w5 ⟨rfl, hb5⟩)) | (go_at_call 12; ((with_reducible refine (K1.out _ (by assumption)).mono ?_); rintro e w5 ⟨rfl, hb5⟩)) | (go_at_call 12; ((with_reducible refine (K2.out _ (by assumption)).mono ?_); rintro e w5 ⟨rfl, hb5⟩)) | (go_at_call 12; ((with_reducible refine (K3.out _ (by assumption)).mono ?_); rintro e w5 ⟨rfl, hb5⟩)) | (go_at_call 16; ((with_reducible refine (L1.out _ (by assumption)).mono ?_); rintro e w5 ⟨rfl, hb5⟩)) | (go_at_call 16; ((with_reducible refine (L2.out _ (by assumption)).mono ?_); rintro e w5 ⟨rfl, hb5⟩)) | (go_at_call 16; ((with_reducible refine (L3.out _ (by assumption)).mono ?_); rintro e w5 ⟨rfl, hb5⟩)) | (go_at_call 18; ((with_reducible refine (U1.out _ (by assumption)).mono ?_); rintro e w5 ⟨rfl, hb5⟩)) | (go_at_call 18; ((with_reducible refine (U2.out _ (by assumption)).mono ?_); rintro e w5 ⟨rfl, hb5⟩)) | (go_at_call 18; ((with_reducible refine (U3.out _ (by assumption)).mono ?_); rintro e w5 ⟨rfl, hb5⟩)) | (go_at_call 20; ((with_reducible refine (T1.out _ (by assumption)).mono ?_); rintro e w5 ⟨rfl, hb5⟩)) | (go_at_call 20; ((with_reducible refine (T2.out _ (by assumption)).mono ?_); rintro e w5 ⟨rfl, hb5⟩)))
        go_ret
        exact ⟨rfl, by assumption⟩
end Go.Proofs.Ytejmkjnepanfaaa
