/-
  AsciiOrders: the walk of the law.
-/
import Derived.Test.YtejmkjnepanfaaaBKit
namespace Go.Proofs.Ytejmkjnepanfaaa
open Go Go.RowKit

theorem size_add (a b : ByteArray) : (a ++ b).size = a.size + b.size := ByteArray.size_append
theorem bs_append (a b : ByteArray) : bs (a ++ b) = bs a ++ bs b := by simp [bs]
theorem cmpS_append (a b : ByteArray) (h : 0 < b.size) : cmpS a (a ++ b) = -1 := by
  unfold cmpS
  rw [bs_append, List.map_append]
  refine cmpL_append _ _ fun h' => ?_
  have : ((bs b).map lowB).length = b.size := by rw [List.length_map, size_bs]
  rw [h'] at this
  simp at this
  omega
theorem cmpS_trans {a b c : ByteArray} (h1 : cmpS a b ≤ 0) (h2 : cmpS b c ≤ 0) : cmpS a c ≤ 0 := cmpL_trans _ _ _ h1 h2
theorem ords (a b c : ByteArray) : (cmpS a b = 0 ∧ cmpS b c = cmpS a c) ∨ (cmpS a b = -1 ∧ cmpS b c ≤ 0 ∧ cmpS a c ≤ 0) ∨ (cmpS a b = -1 ∧ cmpS b c = 1) ∨ (cmpS a b = 1 ∧ 0 ≤ cmpS b c ∧ 0 ≤ cmpS a c) ∨ (cmpS a b = 1 ∧ cmpS b c = -1) := by
  have r1 := cmpS_range a b
  have r2 := cmpS_range b c
  have r3 := cmpS_range a c
  have t1 := @cmpS_trans a b c
  have t2 := @cmpS_trans c b a
  rw [cmpS_swap b c, cmpS_swap a b, cmpS_swap a c] at t2
  rcases r1 with r1 | r1 | r1
  · rcases r2 with r2 | r2 | r2
    · exact .inr (.inl ⟨r1, by omega, t1 (by omega) (by omega)⟩)
    · exact .inr (.inl ⟨r1, by omega, t1 (by omega) (by omega)⟩)
    · exact .inr (.inr (.inl ⟨r1, r2⟩))
  · exact .inl ⟨r1, cmpS_of_zero r1 c⟩
  · rcases r2 with r2 | r2 | r2
    · exact .inr (.inr (.inr (.inr ⟨r1, r2⟩)))
    · exact .inr (.inr (.inr (.inl ⟨r1, by omega, by have := t2 (by omega) (by omega); omega⟩)))
    · exact .inr (.inr (.inr (.inl ⟨r1, by omega, by have := t2 (by omega) (by omega); omega⟩)))

set_option maxHeartbeats 16000000 in
theorem orders_law (a b c : ByteArray) (w : World) (hsa : a.size ≤ maxLen) (hsb : b.size ≤ maxLen) (hsc : c.size ≤ maxLen) :
    Calls Try.prog 7 #[.string a, .string b, .string c] w fun e w' => e = .returned (.bool true) ∧ Below w.heap.size w w' := by
  obtain ⟨s, hts⟩ : ∃ s, cut a = s := ⟨_, rfl⟩
  have h40s : s.size ≤ 40 := by rw [← hts]; exact size_cut a
  have Ss := told (onwardS w fun w5 => short_any a w5 hsa) (ret_string hts)
  have HRs := Lib.hid (show s.size ≤ 140737488351232 by omega)
  have HMs := Lib.hid (show s.size ≤ maxLen by unfold maxLen; omega)
  clear hts
  obtain ⟨t, htt⟩ : ∃ t, cut b = t := ⟨_, rfl⟩
  have h40t : t.size ≤ 40 := by rw [← htt]; exact size_cut b
  have St := told (onwardS w fun w5 => short_any b w5 hsb) (ret_string htt)
  have HRt := Lib.hid (show t.size ≤ 140737488351232 by omega)
  have HMt := Lib.hid (show t.size ≤ maxLen by unfold maxLen; omega)
  clear htt
  obtain ⟨u, htu⟩ : ∃ u, cut c = u := ⟨_, rfl⟩
  have h40u : u.size ≤ 40 := by rw [← htu]; exact size_cut c
  have Su := told (onwardS w fun w5 => short_any c w5 hsc) (ret_string htu)
  have HRu := Lib.hid (show u.size ≤ 140737488351232 by omega)
  have HMu := Lib.hid (show u.size ≤ maxLen by unfold maxLen; omega)
  clear htu
  have A1 := onward w awake_any
  have HMa := Lib.hid (show (s ++ t).size ≤ maxLen by rw [size_add]; unfold maxLen; omega)
  have hsum : s.size + t.size ≤ 9223372036854775807 := by omega
  have hsun : ¬ (9223372036854775807 < s.size + t.size) := by omega
  have C1 := onward w fun w5 => comp_any s t w5 HMs.out HMt.out
  have C2 := onward w fun w5 => comp_any t u w5 HMt.out HMu.out
  have C3 := onward w fun w5 => comp_any s u w5 HMs.out HMu.out
  have C4 := onward w fun w5 => comp_any s (s ++ t) w5 HMs.out HMa.out
  have hB0 : Below w.heap.size w w := Below.refl _ _
  have H0 : (t.size = 0 ∧ t.toList.isEmpty = true) ∨ (cmpS s (s ++ t) = -1 ∧ t.toList.isEmpty = false) := by
    by_cases h : t.size = 0
    · exact .inl ⟨h, empty_true h⟩
    · exact .inr ⟨cmpS_append s t (by omega), empty_false (by omega)⟩
  have HO := ords s t u
  have g1 := cmpS_range s t
  have g2 := cmpS_range t u
  have g3 := cmpS_range s u
  obtain ⟨x, hx⟩ : ∃ x, cmpS s t = x := ⟨_, rfl⟩
  obtain ⟨y, hy⟩ : ∃ y, cmpS t u = y := ⟨_, rfl⟩
  obtain ⟨z, hz⟩ : ∃ z, cmpS s u = z := ⟨_, rfl⟩
  rw [hx] at HO C1 g1
  rw [hy] at HO C2 g2
  rw [hz] at HO C3 g3
  clear h40s h40t h40u hx hy hz
  rcases H0 with ⟨_, he⟩ | ⟨h4, he⟩
  · clear C4
    rcases g1 with rfl | rfl | rfl <;> rcases g2 with rfl | rfl | rfl <;> rcases g3 with rfl | rfl | rfl <;> (first | (exfalso; omega) | skip)
    all_goals
      clear HO
      go_enter Try.func7, Try.ntmps7
      go_wp2_with (first | (go_at_call 9; ((with_reducible refine (A1.out _ (by assumption)).mono ?_); rintro e w5 ⟨rfl, hb5⟩)) | (go_at_call 10; ((with_reducible refine (Ss.out _ (by assumption)).mono ?_); rintro e w5 ⟨rfl, hb5⟩)) | (go_at_call 10; ((with_reducible refine (St.out _ (by assumption)).mono ?_); rintro e w5 ⟨rfl, hb5⟩)) | (go_at_call 10; ((with_reducible refine (Su.out _ (by assumption)).mono ?_); rintro e w5 ⟨rfl, hb5⟩)) | (go_at_call 22; ((with_reducible refine (C1.out _ (by assumption)).mono ?_); rintro e w5 ⟨rfl, hb5⟩)) | (go_at_call 22; ((with_reducible refine (C2.out _ (by assumption)).mono ?_); rintro e w5 ⟨rfl, hb5⟩)) | (go_at_call 22; ((with_reducible refine (C3.out _ (by assumption)).mono ?_); rintro e w5 ⟨rfl, hb5⟩)))
      go_ret
      exact ⟨rfl, by assumption⟩
  · rw [h4] at C4
    clear h4
    rcases g1 with rfl | rfl | rfl <;> rcases g2 with rfl | rfl | rfl <;> rcases g3 with rfl | rfl | rfl <;> (first | (exfalso; omega) | skip)
    all_goals
      clear HO
      go_enter Try.func7, Try.ntmps7
      go_wp2_with (first | (go_at_call 9; ((with_reducible refine (A1.out _ (by assumption)).mono ?_); rintro e w5 ⟨rfl, hb5⟩)) | (go_at_call 10; ((with_reducible refine (Ss.out _ (by assumption)).mono ?_); rintro e w5 ⟨rfl, hb5⟩)) | (go_at_call 10; ((with_reducible refine (St.out _ (by assumption)).mono ?_); rintro e w5 ⟨rfl, hb5⟩)) | (go_at_call 10; ((with_reducible refine (Su.out _ (by assumption)).mono ?_); rintro e w5 ⟨rfl, hb5⟩)) | (go_at_call 22; ((with_reducible refine (C1.out _ (by assumption)).mono ?_); rintro e w5 ⟨rfl, hb5⟩)) | (go_at_call 22; ((with_reducible refine (C2.out _ (by assumption)).mono ?_); rintro e w5 ⟨rfl, hb5⟩)) | (go_at_call 22; ((with_reducible refine (C3.out _ (by assumption)).mono ?_); rintro e w5 ⟨rfl, hb5⟩)) | (go_at_call 22; ((with_reducible refine (C4.out _ (by assumption)).mono ?_); rintro e w5 ⟨rfl, hb5⟩)))
      go_ret
      exact ⟨rfl, by assumption⟩
end Go.Proofs.Ytejmkjnepanfaaa
