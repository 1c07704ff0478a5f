/-
  SplitTrims: it returns true.
-/
import Derived.Test.YtjajlfcmmgdfcaaDoorDKit
import Derived.Test.YtjajlfcmmgdfcaaDoorDTrims
namespace Go.Proofs.YtjajlfcmmgdfcaaDoor
open Go Go.RowKit

set_option maxRecDepth 100000 in
set_option maxHeartbeats 16000000 in
theorem trims_law (s : ByteArray) (w : World) (hs : s.size ≤ maxLen) (hg : TypeLaid w) :
    Calls Tryd.prog 5 #[.string s] w fun e w' => e = .returned (.bool true) ∧ Below w.heap.size w w' := by
  obtain ⟨x0, hx0⟩ : ∃ t, cut60 s = t := ⟨_, rfl⟩
  have h60 : x0.size ≤ 60 := by rw [← hx0]; exact size_cut60 s
  have SH := told (onwardS w fun w5 => short60_any s w5 hs) (ret_string hx0)
  have A1 := awake4_on w hg
  have S0 := split_on x0 w (by omega)
  have hB0 : Below w.heap.size w w := Below.refl _ _
  obtain ⟨m0, hm0⟩ : ∃ m, (splS x0).length = m + 1 := ⟨(splS x0).length - 1, by have := splS_pos x0; omega⟩
  have hm60 : m0 ≤ 60 := by have := splS_le x0; omega
  rw [hm0] at S0
  have HM0 := Lib.hid hm0
  clear hx0 hs hg hm0
  go_enter Tryd.func5, Tryd.ntmps5
  go_wp2_with (first
    | (go_at_call 9; ((with_reducible refine (A1.out _ (by assumption)).mono ?_); rintro e w5 ⟨rfl, hb5⟩))
    | (go_at_call 10; ((with_reducible refine (SH.out _ (by assumption)).mono ?_); rintro e w5 ⟨rfl, hb6⟩))
    | (go_at_call 14; ((with_reducible refine (S0.out _ (by assumption)).mono ?_); rintro e w7 ⟨u, rfl, ho, _, hb7⟩; obtain ⟨g, cap, rfl⟩ := ownsRow_succ ho; clear ho)))
  go_loopw [0, 4] (fun x l wr => ∃ (t : ByteArray) (m : Nat), x = .string t ∧ l = .int .i64 m ∧ t.size ≤ 60 ∧ m ≤ 61 ∧ (t.size = 0 ∨ (spl (bs t)).length ≤ m) ∧ Below w.heap.size w wr) (fun _ l _ => (intOf l).toNat)
  case atStart => exact ⟨x0, m0 + 1, rfl, by go_num, h60, by omega, .inr (by rw [← splS_length, HM0.out]; exact Nat.le_refl _), hb7⟩
  case round =>
    obtain ⟨x, m, rfl, rfl, hx60, hm61, hfew, hB⟩ := hrel
    rcases Nat.eq_zero_or_pos x.size with hx | hx
    · have he := empty_true hx
      clear hfew hx
      go_wp2
      go_ret
      exact ⟨rfl, hB⟩
    · have he := empty_false hx
      have hne : ¬ x = ByteArray.empty := fun e => by rw [e] at hx; exact absurd hx (by decide)
      have hsp := spl_pos (bs x)
      have hm : (spl (bs x)).length ≤ m := by omega
      have hT := trimmed x hx
      obtain ⟨t, ht⟩ : ∃ t, trimS x = t := ⟨_, rfl⟩
      rw [ht] at hT
      have T1 := Lib.hid (fun w5 => (trim_split x w5 (by omega)).mono (R' := fun e w6 => e = .returned (.string t) ∧ w5 = w6) fun e w6 ⟨p, q⟩ => ⟨by rw [p, ht], q⟩)
      have hlt := hT.lt
      have S1 := split_on t w (by omega)
      obtain ⟨n, hn⟩ : ∃ n, (splS t).length = n + 1 := ⟨(splS t).length - 1, by have := splS_pos t; omega⟩
      rw [hn] at S1
      have hNew := Lib.hid (show t.size = 0 ∨ (spl (bs t)).length ≤ m - 1 from hT.few.elim .inl (fun h => .inr (by omega)))
      have hl1 : decide (x.size ≤ t.size) = false := decide_eq_false (by omega)
      have hl2 : ¬ (x.size : Int) ≤ (t.size : Int) := by omega
      have hl3 : (t.size : Int) ≤ (x.size : Int) := by omega
      have hext := hT.beg
      have hm1 : (0 : Int) < (m : Int) := by omega
      have hm2 : 1 ≤ m := by omega
      have hn61 : n ≤ 60 := by have := splS_le t; omega
      have hlast : n = 0 ∨ ∃ k p, n = k + 1 ∧ (splS t)[k + 1]? = some p ∧ ((p.size : Int) == 1) = false := by
        rcases n with _ | k
        · exact .inl rfl
        · refine .inr ⟨k, _, rfl, List.getElem?_eq_getElem (by omega), ?_⟩
          rw [splS_length] at hn
          have h1 := hT.last k ((spl (bs t))[k + 1]'(by omega)) hn (List.getElem?_eq_getElem (by omega))
          have h2 : (splS t)[k + 1]'(by rw [splS_length]; omega) = ofL ((spl (bs t))[k + 1]'(by omega)) := by simp [splS]
          rw [h2, size_ofL, beq_eq_false_iff_ne]
          omega
      have hempty : (t.size = 0 ∧ t.toList.isEmpty = true) ∨ (t.toList.isEmpty = false ∧ ((x[t.size].toNat : Int) != 45) = false) := by
        rcases Nat.eq_zero_or_pos t.size with h | h
        · exact .inl ⟨h, empty_true h⟩
        · have h1 := hT.mark h
          rw [bs_get x t.size hlt] at h1
          exact .inr ⟨empty_false h, (mark_true (Option.some.inj h1)).2⟩
      clear hT ht hfew hm hsp
      rcases hempty with ⟨_, het⟩ | ⟨het, hmk⟩ <;> rcases hlast with rfl | ⟨k, p, rfl, hp, hps⟩
      · go_wp2_with (first
          | (go_at_call 21; ((with_reducible refine (T1.out _).mono ?_); rintro e w5 ⟨rfl, rfl⟩))
          | (go_at_call 14; ((with_reducible refine (S1.out _ (by assumption)).mono ?_); rintro e w7 ⟨u, rfl, ho, _, hb7⟩; obtain ⟨g, cap, rfl⟩ := ownsRow_succ ho; clear ho)))
        refine ⟨⟨t, m - 1, rfl, by congr 1; omega, by omega, by omega, hNew.out, by assumption⟩, ?_⟩
        simp [intOf]; omega
      · go_wp2_with (first
          | (go_at_call 21; ((with_reducible refine (T1.out _).mono ?_); rintro e w5 ⟨rfl, rfl⟩))
          | (go_at_call 14; ((with_reducible refine (S1.out _ (by assumption)).mono ?_); rintro e w7 ⟨u, rfl, ho, _, hb7⟩; obtain ⟨g, cap, rfl⟩ := ownsRow_succ ho; have hk1 : (k : Int) ≤ 60 := (by omega); have hcell := (ho.cellAt (k + 1) (by omega)).trans (strs_get hp); clear ho)))
        refine ⟨⟨t, m - 1, rfl, by congr 1; omega, by omega, by omega, hNew.out, by assumption⟩, ?_⟩
        simp [intOf]; omega
      · go_wp2_with (first
          | (go_at_call 21; ((with_reducible refine (T1.out _).mono ?_); rintro e w5 ⟨rfl, rfl⟩))
          | (go_at_call 14; ((with_reducible refine (S1.out _ (by assumption)).mono ?_); rintro e w7 ⟨u, rfl, ho, _, hb7⟩; obtain ⟨g, cap, rfl⟩ := ownsRow_succ ho; clear ho)))
        refine ⟨⟨t, m - 1, rfl, by congr 1; omega, by omega, by omega, hNew.out, by assumption⟩, ?_⟩
        simp [intOf]; omega
      · go_wp2_with (first
          | (go_at_call 21; ((with_reducible refine (T1.out _).mono ?_); rintro e w5 ⟨rfl, rfl⟩))
          | (go_at_call 14; ((with_reducible refine (S1.out _ (by assumption)).mono ?_); rintro e w7 ⟨u, rfl, ho, _, hb7⟩; obtain ⟨g, cap, rfl⟩ := ownsRow_succ ho; have hk1 : (k : Int) ≤ 60 := (by omega); have hcell := (ho.cellAt (k + 1) (by omega)).trans (strs_get hp); clear ho)))
        refine ⟨⟨t, m - 1, rfl, by congr 1; omega, by omega, by omega, hNew.out, by assumption⟩, ?_⟩
        simp [intOf]; omega
end Go.Proofs.YtjajlfcmmgdfcaaDoor
