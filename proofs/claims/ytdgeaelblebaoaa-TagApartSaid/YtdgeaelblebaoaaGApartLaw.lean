/-
  TagApart: the walk of the law.
-/
import Derived.Test.YtdgeaelblebaoaaGAwake
import Derived.Test.YtdgeaelblebaoaaDRefC
namespace Go.Proofs.Ytdgeaelblebaoaa
open Go Go.RowKit

/-- What a text is, all kinds at once; its size is three, or not; its class. -/
structure Tup (s : ByteArray) (a r v g e f ok q : Bool) : Prop where
  a : languageS s = a
  r : regionS s = r
  v : variantS s = v
  g : singletonS s = g
  e : extlangS s = e
  f : scriptS s = f
  ok : okS s = ok
  q : ((s.size : Int) == 3) = q
theorem sizes (s : ByteArray) : s.size = 0 ∨ s.size = 1 ∨ s.size = 2 ∨ s.size = 3 ∨ s.size = 4 ∨ s.size = 5 ∨ s.size = 6 ∨ s.size = 7 ∨ s.size = 8 ∨ 9 ≤ s.size := by omega
/-- Which of them can be together. -/
def Ways (s : ByteArray) (c : Int) : Prop :=
  (∃ q, Tup s false false false false false false false q) ∨ (∃ q, Tup s false false false false false false true q) ∨ (∃ q, Tup s false false false true false false true q)
  ∨ Tup s true true false false false false true false ∨ (∃ q, Tup s true false false false true false true q) ∨ (∃ q, Tup s true false false false false true true q)
  ∨ (c = 1 ∧ ∃ q, Tup s true false true false false false true q) ∨ Tup s false true false false false false true true ∨ ((c = 2 ∨ c = 3) ∧ ∃ q, Tup s false false true false false false true q)
theorem tup_of (s : ByteArray) (n : Nat) (hn : s.size = n) (al dg an hd x X : Bool) (h1 : alphaS s = al) (h2 : digitS s = dg) (h3 : alnumS s = an) (h4 : ((bs s).head?.map isD).getD false = hd) (h5 : decide (s = ⟨#[120]⟩) = x) (h6 : decide (s = ⟨#[88]⟩) = X) :
    Tup s (al && (decide (2 ≤ n) && decide (n ≤ 8))) ((al && (decide (2 ≤ n) && decide (n ≤ 2))) || (decide (n = 3) && dg)) (an && ((decide (5 ≤ n) && decide (n ≤ 8)) || (decide (n = 4) && hd)))
      (decide (n = 1) && (an && (!x && !X))) (al && (decide (3 ≤ n) && decide (n ≤ 3))) (al && (decide (4 ≤ n) && decide (n ≤ 4))) (decide (n ≤ 8) && an) (decide (n = 3)) := by
  subst hn h1 h2 h3 h4 h5 h6
  refine ⟨rfl, rfl, rfl, rfl, rfl, rfl, rfl, ?_⟩
  by_cases h : s.size = 3
  · simp [h]
  · rw [decide_eq_false h, beq_eq_false_iff_ne]
    omega
theorem ways (s : ByteArray) (c : Int) (al dg an hd x X : Bool) (n : Nat) (hk : (c = 0 ∧ al = false ∧ dg = false ∧ an = false) ∨ (c = 1 ∧ al = true ∧ dg = false ∧ an = true) ∨ (c = 2 ∧ al = false ∧ dg = true ∧ an = true) ∨ (c = 3 ∧ al = false ∧ dg = false ∧ an = true))
    (hn : n ≤ 9) (hal : al = true → hd = false)
    (h : Tup s (al && (decide (2 ≤ n) && decide (n ≤ 8))) ((al && (decide (2 ≤ n) && decide (n ≤ 2))) || (decide (n = 3) && dg)) (an && ((decide (5 ≤ n) && decide (n ≤ 8)) || (decide (n = 4) && hd)))
      (decide (n = 1) && (an && (!x && !X))) (al && (decide (3 ≤ n) && decide (n ≤ 3))) (al && (decide (4 ≤ n) && decide (n ≤ 4))) (decide (n ≤ 8) && an) (decide (n = 3))) : Ways s c := by
  have hn' : n = 0 ∨ n = 1 ∨ n = 2 ∨ n = 3 ∨ n = 4 ∨ n = 5 ∨ n = 6 ∨ n = 7 ∨ n = 8 ∨ n = 9 := by omega
  unfold Ways
  rcases hk with ⟨rfl, rfl, rfl, rfl⟩ | ⟨rfl, rfl, rfl, rfl⟩ | ⟨rfl, rfl, rfl, rfl⟩ | ⟨rfl, rfl, rfl, rfl⟩ <;> rcases hn' with rfl | rfl | rfl | rfl | rfl | rfl | rfl | rfl | rfl | rfl <;> cases hd <;> cases x <;> cases X <;>
  first
  | exact absurd (hal rfl) (by decide)
  | exact .inl ⟨_, h⟩
  | exact .inr (.inl ⟨_, h⟩)
  | exact .inr (.inr (.inl ⟨_, h⟩))
  | exact .inr (.inr (.inr (.inl h)))
  | exact .inr (.inr (.inr (.inr (.inl ⟨_, h⟩))))
  | exact .inr (.inr (.inr (.inr (.inr (.inl ⟨_, h⟩)))))
  | exact .inr (.inr (.inr (.inr (.inr (.inr (.inl ⟨rfl, _, h⟩))))))
  | exact .inr (.inr (.inr (.inr (.inr (.inr (.inr (.inl h)))))))
  | exact .inr (.inr (.inr (.inr (.inr (.inr (.inr (.inr ⟨.inl rfl, _, h⟩)))))))
  | exact .inr (.inr (.inr (.inr (.inr (.inr (.inr (.inr ⟨.inr rfl, _, h⟩)))))))
theorem tup_big (s : ByteArray) (hn : 9 ≤ s.size) : Tup s false false false false false false false false := by
  have k1 : ¬ s.size ≤ 8 := by omega
  have k2 : ¬ s.size ≤ 2 := by omega
  have k3 : ¬ s.size ≤ 3 := by omega
  have k4 : ¬ s.size ≤ 4 := by omega
  have k5 : ¬ s.size = 3 := by omega
  have k6 : ¬ s.size = 4 := by omega
  have k7 : ¬ s.size = 1 := by omega
  exact ⟨by simp [languageS, lettersS, k1], by simp [regionS, lettersS, k2, k5], by simp [variantS, k1, k6], by simp [singletonS, k7], by simp [extlangS, lettersS, k3], by simp [scriptS, lettersS, k4], by simp [okS, k1], by rw [beq_eq_false_iff_ne]; omega⟩
theorem alpha_head (s : ByteArray) (h : alphaS s = true) : ((bs s).head?.map isD).getD false = false := by
  unfold alphaS has at h
  rw [Bool.and_eq_true] at h
  cases hb : bs s with
  | nil => rfl
  | cons c r =>
    rw [hb] at h
    have h2 := h.2
    rw [List.all_cons, Bool.and_eq_true] at h2
    exact isA_not_isD c h2.1
theorem ways_of (s : ByteArray) : Ways s (classS s) := by
  obtain ⟨c, a, d, n, h⟩ := classIs s
  by_cases h9 : 9 ≤ s.size
  · exact .inl ⟨_, tup_big s h9⟩
  · have hT := fun h1 h2 h3 => tup_of s s.size rfl a d n _ _ _ h1 h2 h3 rfl rfl rfl
    cases h with
    | none h0 h1 h2 h3 => rw [h0]; exact ways s _ _ _ _ _ _ _ s.size (.inl ⟨rfl, rfl, rfl, rfl⟩) (by omega) (by simp) (hT h1 h2 h3)
    | alpha h0 h1 h2 h3 => rw [h0]; exact ways s _ _ _ _ _ _ _ s.size (.inr (.inl ⟨rfl, rfl, rfl, rfl⟩)) (by omega) (fun _ => alpha_head s h1) (hT h1 h2 h3)
    | digit h0 h1 h2 h3 => rw [h0]; exact ways s _ _ _ _ _ _ _ s.size (.inr (.inr (.inl ⟨rfl, rfl, rfl, rfl⟩))) (by omega) (by simp) (hT h1 h2 h3)
    | alnum h0 h1 h2 h3 => rw [h0]; exact ways s _ _ _ _ _ _ _ s.size (.inr (.inr (.inr ⟨rfl, rfl, rfl, rfl⟩))) (by omega) (by simp) (hT h1 h2 h3)

set_option maxHeartbeats 1600000 in
theorem apart_one (s t : ByteArray) (c : Int) (a r v g e f ok q : Bool) (w : World) (hs : s.size ≤ maxLen) (ht : cut12 s = t) (hc : classS t = c) (T : Tup t a r v g e f ok q)
    (hw : (a = false ∧ r = false ∧ v = false ∧ g = false ∧ e = false ∧ f = false ∧ ok = false) ∨ (a = false ∧ r = false ∧ v = false ∧ g = false ∧ e = false ∧ f = false ∧ ok = true) ∨ (a = false ∧ r = false ∧ v = false ∧ g = true ∧ e = false ∧ f = false ∧ ok = true)
      ∨ (a = true ∧ r = true ∧ v = false ∧ g = false ∧ e = false ∧ f = false ∧ ok = true ∧ q = false) ∨ (a = true ∧ r = false ∧ v = false ∧ g = false ∧ e = true ∧ f = false ∧ ok = true) ∨ (a = true ∧ r = false ∧ v = false ∧ g = false ∧ e = false ∧ f = true ∧ ok = true)
      ∨ (c = 1 ∧ a = true ∧ r = false ∧ v = true ∧ g = false ∧ e = false ∧ f = false ∧ ok = true) ∨ (a = false ∧ r = true ∧ v = false ∧ g = false ∧ e = false ∧ f = false ∧ ok = true ∧ q = true) ∨ (c = 2 ∧ a = false ∧ r = false ∧ v = true ∧ g = false ∧ e = false ∧ f = false ∧ ok = true) ∨ (c = 3 ∧ a = false ∧ r = false ∧ v = true ∧ g = false ∧ e = false ∧ f = false ∧ ok = true)) :
    Calls Try.prog 4 #[.string s] w fun e w' => e = .returned (.bool true) ∧ Below w.heap.size w w' := by
  have h12 : t.size ≤ 12 := by rw [← ht]; exact size_cut12 s
  have HM := Lib.hid (show t.size ≤ maxLen by unfold maxLen; omega)
  have A1 := onward w awake6_any
  have A2 := told (onwardS w fun w5 => short12_any s w5 hs) (ret_string ht)
  have B1 := onward w (fun w5 => language_own t w5 HM.out)
  have B2 := onward w (fun w5 => extlang_own t w5 HM.out)
  have B3 := onward w (fun w5 => script_own t w5 HM.out)
  have B4 := onward w (fun w5 => region_own t w5 HM.out)
  have B5 := onward w (fun w5 => variant_own t w5 HM.out)
  have B6 := onward w (fun w5 => singleton_own t w5 HM.out)
  have B7 := onwardS w (fun w5 => class_ref t w5 (by omega))
  have B8 := onwardS w (fun w5 => sub_ref t w5 (by omega))
  have hB0 : Below w.heap.size w w := Below.refl _ _
  obtain ⟨ha, hr, hv, hg, he, hf, hok, hq⟩ := T
  rw [ha] at B1
  rw [he] at B2
  rw [hf] at B3
  rw [hr] at B4
  rw [hv] at B5
  rw [hg] at B6
  rw [hc] at B7
  rw [hok] at B8
  clear ha hr hv hg he hf hok hc ht h12 hs
  rcases hw with ⟨rfl, rfl, rfl, rfl, rfl, rfl, rfl⟩ | ⟨rfl, rfl, rfl, rfl, rfl, rfl, rfl⟩ | ⟨rfl, rfl, rfl, rfl, rfl, rfl, rfl⟩ | ⟨rfl, rfl, rfl, rfl, rfl, rfl, rfl, rfl⟩ | ⟨rfl, rfl, rfl, rfl, rfl, rfl, rfl⟩ | ⟨rfl, rfl, rfl, rfl, rfl, rfl, rfl⟩ | ⟨rfl, rfl, rfl, rfl, rfl, rfl, rfl, rfl⟩ | ⟨rfl, rfl, rfl, rfl, rfl, rfl, rfl, rfl⟩ | ⟨rfl, rfl, rfl, rfl, rfl, rfl, rfl, rfl⟩ | ⟨rfl, rfl, rfl, rfl, rfl, rfl, rfl, rfl⟩
  all_goals
    go_enter Try.func4, Try.ntmps4
    go_wp2_with (first | (go_at_call 8; refine (A1.out _ (by assumption)).mono ?_; rintro e w5 ⟨rfl, hb5⟩) | (go_at_call 9; refine (A2.out _ (by assumption)).mono ?_; rintro e w5 ⟨rfl, hb5⟩) | (go_at_call 13; refine (B1.out _ (by assumption)).mono ?_; rintro e w5 ⟨rfl, hb5⟩) | (go_at_call 19; refine (B2.out _ (by assumption)).mono ?_; rintro e w5 ⟨rfl, hb5⟩) | (go_at_call 20; refine (B3.out _ (by assumption)).mono ?_; rintro e w5 ⟨rfl, hb5⟩) | (go_at_call 14; refine (B4.out _ (by assumption)).mono ?_; rintro e w5 ⟨rfl, hb5⟩) | (go_at_call 15; refine (B5.out _ (by assumption)).mono ?_; rintro e w5 ⟨rfl, hb5⟩) | (go_at_call 17; refine (B6.out _ (by assumption)).mono ?_; rintro e w5 ⟨rfl, hb5⟩) | (go_at_call 16; refine (B7.out _ (by assumption)).mono ?_; rintro e w5 ⟨rfl, hb5⟩) | (go_at_call 18; refine (B8.out _ (by assumption)).mono ?_; rintro e w5 ⟨rfl, hb5⟩))
    go_ret
    exact ⟨rfl, by assumption⟩
theorem apart_law (s : ByteArray) (w : World) (hs : s.size ≤ maxLen) :
    Calls Try.prog 4 #[.string s] w fun e w' => e = .returned (.bool true) ∧ Below w.heap.size w w' := by
  rcases ways_of (cut12 s) with ⟨q, h⟩ | ⟨q, h⟩ | ⟨q, h⟩ | h | ⟨q, h⟩ | ⟨q, h⟩ | ⟨hc, q, h⟩ | h | ⟨hc | hc, q, h⟩
  · exact apart_one s _ _ _ _ _ _ _ _ _ _ w hs rfl rfl h (by simp)
  · exact apart_one s _ _ _ _ _ _ _ _ _ _ w hs rfl rfl h (by simp)
  · exact apart_one s _ _ _ _ _ _ _ _ _ _ w hs rfl rfl h (by simp)
  · exact apart_one s _ _ _ _ _ _ _ _ _ _ w hs rfl rfl h (by simp)
  · exact apart_one s _ _ _ _ _ _ _ _ _ _ w hs rfl rfl h (by simp)
  · exact apart_one s _ _ _ _ _ _ _ _ _ _ w hs rfl rfl h (by simp)
  · exact apart_one s _ _ _ _ _ _ _ _ _ _ w hs rfl hc h (by simp)
  · exact apart_one s _ _ _ _ _ _ _ _ _ _ w hs rfl rfl h (by simp)
  · exact apart_one s _ _ _ _ _ _ _ _ _ _ w hs rfl hc h (by simp)
  · exact apart_one s _ _ _ _ _ _ _ _ _ _ w hs rfl hc h (by simp)
end Go.Proofs.Ytdgeaelblebaoaa
