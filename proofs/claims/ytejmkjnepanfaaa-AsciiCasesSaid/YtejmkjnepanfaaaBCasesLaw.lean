/-
  AsciiCases: the walk of the law.
-/
import Derived.Test.YtejmkjnepanfaaaBKit
namespace Go.Proofs.Ytejmkjnepanfaaa
open Go Go.RowKit

inductive Trip (c l u : UInt8) : Prop
  | same (h1 : l = c) (h2 : u = c)
  | great (h1 : l.toNat = c.toNat + 32) (h2 : u = c) (h3 : c.toNat ≤ 90)
  | small (h1 : l = c) (h2 : u.toNat + 32 = c.toNat) (h3 : c.toNat ≤ 122)
theorem trip (c : UInt8) : Trip c (lowB c) (upB c) := by
  rcases kd c with ⟨h1, h2⟩ | ⟨h1, h2⟩ | ⟨h1, h2⟩ | ⟨h1, h2, h3⟩
  · exact .great (low_nat_U c ((isU_iff c).2 ⟨h1, h2⟩)) (up_int c (by omega)) h2
  · exact .small (low_int c (by omega)) (up_nat_L c ((isL_iff c).2 ⟨h1, h2⟩)) h2
  · exact .same (low_int c (by omega)) (up_int c (by omega))
  · exact .same (low_int c (by omega)) (up_int c (by omega))
theorem low_at (s : ByteArray) (k : Nat) (h : k < (lowS s).size) (h' : k < s.size) : (lowS s)[k] = lowB s[k] := by
  have e : (lowS s)[k] = (bs (lowS s))[k]'(by rw [size_bs]; exact h) := rfl
  have e' : s[k] = (bs s)[k]'(by rw [size_bs]; exact h') := rfl
  rw [e, e']
  simp only [lowS, bs_ofL, List.getElem_map]
theorem up_at (s : ByteArray) (k : Nat) (h : k < (upS s).size) (h' : k < s.size) : (upS s)[k] = upB s[k] := by
  have e : (upS s)[k] = (bs (upS s))[k]'(by rw [size_bs]; exact h) := rfl
  have e' : s[k] = (bs s)[k]'(by rw [size_bs]; exact h') := rfl
  rw [e, e']
  simp only [upS, bs_ofL, List.getElem_map]

set_option maxHeartbeats 1600000 in
theorem cases_law (a : ByteArray) (w : World) (hsa : a.size ≤ maxLen) :
    Calls Try.prog 5 #[.string a] w fun e w' => e = .returned (.bool true) ∧ Below w.heap.size w w' := by
  obtain ⟨x, htx⟩ : ∃ x, cut a = x := ⟨_, rfl⟩
  have h40x : x.size ≤ 40 := by rw [← htx]; exact size_cut a
  have Sx := told (onwardS w fun w5 => short_any a w5 hsa) (ret_string htx)
  have HRx := Lib.hid (show x.size ≤ 140737488351232 by omega)
  have HMx := Lib.hid (show x.size ≤ maxLen by unfold maxLen; omega)
  clear htx
  have A1 := onward w awake_any
  obtain ⟨l, hl⟩ : ∃ l, lowS x = l := ⟨_, rfl⟩
  obtain ⟨u, hu⟩ : ∃ u, upS x = u := ⟨_, rfl⟩
  obtain ⟨t, ht⟩ : ∃ t, titleS x = t := ⟨_, rfl⟩
  have hls : l.size = x.size := by rw [← hl, size_lowS]
  have hus : u.size = x.size := by rw [← hu, size_upS]
  have hts : t.size = x.size := by rw [← ht, size_titleS]
  have HRl := Lib.hid (show l.size ≤ 140737488351232 by omega)
  have HRu := Lib.hid (show u.size ≤ 140737488351232 by omega)
  have HRt := Lib.hid (show t.size ≤ 140737488351232 by omega)
  have HMl := Lib.hid (show l.size ≤ maxLen by unfold maxLen; omega)
  have HMu := Lib.hid (show u.size ≤ maxLen by unfold maxLen; omega)
  have L1 := told (onward w fun w5 => lower_text x w5 HRx.out) (ret_string hl)
  have U1 := told (onward w fun w5 => upper_text x w5 HRx.out) (ret_string hu)
  have T1 := told (onward w fun w5 => title_text x w5 HRx.out) (ret_string ht)
  have L2 := told (onward w fun w5 => lower_text u w5 HRu.out) (ret_string (show lowS u = l by rw [← hu, low_upS, hl]))
  have U2 := told (onward w fun w5 => upper_text l w5 HRl.out) (ret_string (show upS l = u by rw [← hl, up_lowS, hu]))
  have T2 := told (onward w fun w5 => title_text t w5 HRt.out) (ret_string (show titleS t = t by rw [← ht, title_titleS]))
  have L3 := told (onward w fun w5 => lower_text t w5 HRt.out) (ret_string (show lowS t = l by rw [← ht, low_titleS, hl]))
  have C1 := onward w fun w5 => class_any x w5 HMx.out
  have C2 := told (onward w fun w5 => class_any l w5 HMl.out) (ret_int (show classS l = classS x by rw [← hl, class_low]))
  have C3 := told (onward w fun w5 => class_any u w5 HMu.out) (ret_int (show classS u = classS x by rw [← hu, class_up]))
  have HT := Lib.hid (fun (k : Nat) (h1 : k < l.size) (h2 : k < u.size) (h3 : k < x.size) => (show Trip x[k] l[k] u[k] by subst hl hu; rw [low_at x k h1 h3, up_at x k h2 h3]; exact trip _))
  have hB0 : Below w.heap.size w w := Below.refl _ _
  have H40 := Lib.hid h40x
  clear hl hu ht h40x
  go_enter Try.func5, Try.ntmps5
  go_wp2_with (first | (go_at_call 9; ((with_reducible refine (A1.out _ (by assumption)).mono ?_); rintro e w5 ⟨rfl, hb5⟩)) | (go_at_call 10; ((with_reducible refine (Sx.out _ (by assumption)).mono ?_); rintro e w5 ⟨rfl, hb5⟩)) | (go_at_call 16; ((with_reducible refine (L1.out _ (by assumption)).mono ?_); rintro e w5 ⟨rfl, hb5⟩)) | (go_at_call 18; ((with_reducible refine (U1.out _ (by assumption)).mono ?_); rintro e w5 ⟨rfl, hb5⟩)) | (go_at_call 20; ((with_reducible refine (T1.out _ (by assumption)).mono ?_); rintro e w5 ⟨rfl, hb5⟩)))
  go_loopw [7] (fun i wr => ∃ k : Nat, k ≤ x.size ∧ i = .int .i64 k ∧ Below w.heap.size w wr) (fun i _ => x.size - (intOf i).toNat)
  case atStart => exact ⟨0, Nat.zero_le _, rfl, by assumption⟩
  case round =>
    obtain ⟨k, hk, rfl, hB⟩ := hrel
    have h40 := H40.out
    by_cases hlt : k < x.size
    · have h1 : k < l.size := by omega
      have h2 : k < u.size := by omega
      rcases HT.out k h1 h2 hlt with ⟨g1, g2⟩ | ⟨g1, g2, g3⟩ | ⟨g1, g2, g3⟩
      · go_wp2
        go_quiet (fail)
        go_wp2
        go_roundw
        case rel => exact ⟨k + 1, by omega, by go_num, below_drewN hB _⟩
        case measure => simp [intOf]; omega
      · have e1 : ((l[k].toNat : Int) != (x[k].toNat : Int)) = true := by rw [bne_iff_ne]; omega
        have e2 : ((l[k].toNat : Int) == (x[k].toNat : Int)) = false := by rw [beq_eq_false_iff_ne]; omega
        have f3 : decide ((127 : Int) < (x[k].toNat : Int)) = false := decide_eq_false (by omega)
        have f4 : (l[k].toNat : Int) - (x[k].toNat : Int) = 32 := by omega
        have f5 : IntKind.u8.wrap ((l[k].toNat : Int) - (x[k].toNat : Int)) = 32 := by rw [f4]; decide
        clear g1 f4
        go_wp2
        go_quiet (fail)
        go_wp2
        go_roundw
        case rel => exact ⟨k + 1, by omega, by go_num, below_drewN hB _⟩
        case measure => simp [intOf]; omega
      · have e1 : ((u[k].toNat : Int) != (x[k].toNat : Int)) = true := by rw [bne_iff_ne]; omega
        have e2 : ((x[k].toNat : Int) == (u[k].toNat : Int)) = false := by rw [beq_eq_false_iff_ne]; omega
        have f3 : decide ((127 : Int) < (x[k].toNat : Int)) = false := decide_eq_false (by omega)
        have f4 : (x[k].toNat : Int) - (u[k].toNat : Int) = 32 := by omega
        have f5 : IntKind.u8.wrap ((x[k].toNat : Int) - (u[k].toNat : Int)) = 32 := by rw [f4]; decide
        clear g2 f4
        go_wp2
        go_quiet (fail)
        go_wp2
        go_roundw
        case rel => exact ⟨k + 1, by omega, by go_num, below_drewN hB _⟩
        case measure => simp [intOf]; omega
    · obtain rfl : k = x.size := by omega
      go_wp2_with (first | (go_at_call 16; ((with_reducible refine (L2.out _ (by assumption)).mono ?_); rintro e w5 ⟨rfl, hb5⟩)) | (go_at_call 16; ((with_reducible refine (L3.out _ (by assumption)).mono ?_); rintro e w5 ⟨rfl, hb5⟩)) | (go_at_call 18; ((with_reducible refine (U2.out _ (by assumption)).mono ?_); rintro e w5 ⟨rfl, hb5⟩)) | (go_at_call 20; ((with_reducible refine (T2.out _ (by assumption)).mono ?_); rintro e w5 ⟨rfl, hb5⟩)) | (go_at_call 12; ((with_reducible refine (C1.out _ (by assumption)).mono ?_); rintro e w5 ⟨rfl, hb5⟩)) | (go_at_call 12; ((with_reducible refine (C2.out _ (by assumption)).mono ?_); rintro e w5 ⟨rfl, hb5⟩)) | (go_at_call 12; ((with_reducible refine (C3.out _ (by assumption)).mono ?_); rintro e w5 ⟨rfl, hb5⟩)))
      go_ret
      exact ⟨rfl, by assumption⟩
end Go.Proofs.Ytejmkjnepanfaaa
