import Derived.Test.YtpnhjpplfjamkaaGreatDoorPReading
import Derived.Test.YtpnhjpplfjamkaaGreatDoorPParsed
import Derived.Test.YtpnhjpplfjamkaaGreatDoorPTellsA
import Derived.Test.YtpnhjpplfjamkaaGreatDoorQGot
import Derived.StillTailTactics
import Derived.BigRegion
namespace Go.Proofs.YtpnhjpplfjamkaaGreatDoor
open Go Go.RowKit

/-- A beginning of n bytes, up to a mark or the end. -/
def BndS (s : ByteArray) (n : Nat) : Prop := 0 < n ∧ n ≤ s.size ∧ (n < s.size → (bs s)[n]? = some 45)
theorem placed_len (n : Nat) (ps : List (List UInt8)) : (placed n ps).length = ps.length := by
  induction ps generalizing n with
  | nil => rfl
  | cons p r ih => simp [placed, ih]
theorem placed_app : ∀ (ps qs : List (List UInt8)) (a : Nat), ps ≠ [] → placed a (ps ++ qs) = placed a ps ++ placed (a + (joinP ps).length + 1) qs
  | [], _, _, h => absurd rfl h
  | [p], qs, a, _ => by simp [placed, joinP_one]
  | p :: q :: r, qs, a, _ => by
    have h := placed_app (q :: r) qs (a + p.length + 1) (by simp)
    have e : a + (joinP (p :: q :: r)).length + 1 = a + p.length + 1 + (joinP (q :: r)).length + 1 := by
      rw [joinP_cons p (by simp), List.length_append, List.length_cons]; omega
    rw [e]
    simp only [List.cons_append, placed] at h ⊢
    rw [h]
theorem joinP_app : ∀ (ps qs : List (List UInt8)), ps ≠ [] → qs ≠ [] → joinP (ps ++ qs) = joinP ps ++ 45 :: joinP qs
  | [], _, h, _ => absurd rfl h
  | [p], qs, _, hq => by rw [List.singleton_append, joinP_cons p hq, joinP_one]
  | p :: q :: r, qs, _, hq => by
    have h := joinP_app (q :: r) qs (by simp) hq
    rw [List.cons_append, joinP_cons p (by simp), h, joinP_cons p (by simp)]
    simp
theorem bs_pre (s : ByteArray) (n : Nat) : bs (s.extract 0 n) = (bs s).take n := by rw [bs_extract]; simp
theorem pre_all (s : ByteArray) : s.extract 0 s.size = s := by
  rw [← ofL_bs (s.extract 0 s.size), bs_pre, List.take_of_length_le (by rw [size_bs]; exact Nat.le_refl _), ofL_bs]
theorem placed_fromF : ∀ {ps : List (List UInt8)} {n : Nat} {y : Nat × ByteArray}, y ∈ placed n ps → n ≤ y.1
  | [], _, _, h => by cases h
  | p :: r, n, y, h => by
    simp only [placed, List.mem_cons] at h
    rcases h with rfl | h
    · exact Nat.le_refl _
    · have := placed_fromF h; omega
theorem placed_end : ∀ (ps : List (List UInt8)) (a k : Nat) (x : Nat × ByteArray), (placed a ps)[k]? = some x → x.1 + x.2.size = a + (joinP (ps.take (k + 1))).length
  | [], a, k, x, h => by simp [placed] at h
  | p :: r, a, 0, x, h => by
    simp [placed] at h
    subst h
    simp [joinP_one, size_ofL]
  | p :: r, a, k + 1, x, h => by
    simp only [placed, List.getElem?_cons_succ] at h
    have h1 := placed_end r _ k x h
    have hr : r ≠ [] := by rintro rfl; simp [placed] at h
    rw [h1, List.take_succ_cons, joinP_cons _ (by rw [ne_eq, List.take_eq_nil_iff]; rintro (h | h); omega; exact hr h)]
    simp
    omega
theorem pieces_pre {s : ByteArray} {n : Nat} (h : BndS s n) : ∃ r, pieces s = pieces (s.extract 0 n) ++ r ∧ ∀ y ∈ r, n < y.1 := by
  obtain ⟨h0, h1, h2⟩ := h
  rcases Nat.lt_or_eq_of_le h1 with h3 | h3
  · have hl : n < (bs s).length := by rw [size_bs]; exact h3
    have hg : (bs s)[n] = 45 := by have := h2 h3; rwa [List.getElem?_eq_getElem hl, Option.some.injEq] at this
    have hs : bs s = (bs s).take n ++ 45 :: (bs s).drop (n + 1) := by
      have h4 := List.drop_eq_getElem_cons hl
      rw [hg] at h4
      rw [← h4, List.take_append_drop]
    refine ⟨placed (n + 1) (spl ((bs s).drop (n + 1))), ?_, fun y hy => placed_fromF hy⟩
    unfold pieces
    rw [bs_pre]
    have h5 : placed 0 (spl (bs s)) = placed 0 (spl ((bs s).take n ++ 45 :: (bs s).drop (n + 1))) := by rw [← hs]
    rw [h5, spl_app, placed_app _ _ _ (spl_ne _), joinP_spl, List.length_take, Nat.min_eq_left (by omega), Nat.zero_add]
  · subst h3
    exact ⟨[], by rw [pre_all, List.append_nil], fun y hy => by cases hy⟩
theorem last_end {s : ByteArray} {us : List (Nat × ByteArray)} {x : Nat × ByteArray} (h : pieces s = us ++ [x]) : x.1 + x.2.size = s.size := by
  have h1 : (placed 0 (spl (bs s)))[us.length]? = some x := by
    show (pieces s)[us.length]? = some x
    rw [h]; simp
  have h2 := placed_end _ _ _ _ h1
  have h3 : (spl (bs s)).length = us.length + 1 := by rw [← placed_len 0]; show (pieces s).length = _; rw [h]; simp
  rw [h2, List.take_of_length_le (by omega), joinP_spl, size_bs, Nat.zero_add]
theorem pre_pieces {s : ByteArray} {us r : List (Nat × ByteArray)} {x : Nat × ByteArray} (h : pieces s = us ++ [x] ++ r) (h0 : 0 < x.1 + x.2.size) : BndS s (x.1 + x.2.size) ∧ pieces (s.extract 0 (x.1 + x.2.size)) = us ++ [x] := by
  obtain ⟨ps, hps⟩ : ∃ ps, (spl (bs s)).take (us.length + 1) = ps := ⟨_, rfl⟩
  obtain ⟨qs, hqs⟩ : ∃ qs, (spl (bs s)).drop (us.length + 1) = qs := ⟨_, rfl⟩
  have hsp : spl (bs s) = ps ++ qs := by rw [← hps, ← hqs, List.take_append_drop]
  have hlen : (spl (bs s)).length = us.length + 1 + r.length := by rw [← placed_len 0]; show (pieces s).length = _; rw [h]; simp; omega
  have hpl : ps.length = us.length + 1 := by rw [← hps, List.length_take]; omega
  have hpn : ps ≠ [] := fun e => by rw [e] at hpl; cases hpl
  have hx : (placed 0 (spl (bs s)))[us.length]? = some x := by
    show (pieces s)[us.length]? = some x
    rw [h]; simp
  have hn : x.1 + x.2.size = (joinP ps).length := by rw [placed_end _ _ _ _ hx, hps, Nat.zero_add]
  have hpl2 : placed 0 ps = us ++ [x] := by
    have h1 : placed 0 ps ++ placed (0 + (joinP ps).length + 1) qs = us ++ [x] ++ r := by rw [← placed_app _ _ _ hpn, ← hsp]; exact h
    exact (List.append_inj h1 (by rw [placed_len, hpl]; simp)).1
  have hmem : ∀ p ∈ ps, (45 : UInt8) ∉ p := fun p hp => spl_mem (bs s) p (by rw [hsp]; exact List.mem_append_left _ hp)
  have hbs : (bs s).take (joinP ps).length = joinP ps ∧ (joinP ps).length ≤ s.size ∧ ((joinP ps).length < s.size → (bs s)[(joinP ps).length]? = some 45) := by
    rcases List.eq_nil_or_concat qs with rfl | ⟨q1, q2, hq⟩
    · have e : bs s = joinP ps := by rw [← joinP_spl (bs s), hsp, List.append_nil]
      have e2 : (joinP ps).length = s.size := by rw [← e, size_bs]
      exact ⟨by rw [← e]; exact List.take_length, Nat.le_of_eq e2, fun h => by omega⟩
    · have e : bs s = joinP ps ++ 45 :: joinP qs := by rw [← joinP_app _ _ hpn (by rw [hq]; simp), ← hsp, joinP_spl]
      refine ⟨by rw [e]; simp, by rw [← size_bs, e]; simp, fun _ => by rw [e]; simp⟩
  rw [hn]
  refine ⟨⟨by omega, hbs.2.1, hbs.2.2⟩, ?_⟩
  unfold pieces
  rw [bs_pre, hbs.1, spl_joinP hpn hmem, hpl2]
theorem ends_mono {s : ByteArray} {n : Nat} (h : BndS s n) {vs r' : List (Nat × ByteArray)} {y : Nat × ByteArray} (hv : pieces s = vs ++ [y] ++ r') (hl : pieces (s.extract 0 n) <+: vs ++ [y]) : n ≤ y.1 + y.2.size := by
  obtain ⟨t, ht⟩ := hl
  obtain ⟨r, hr, hy⟩ := pieces_pre h
  rcases List.eq_nil_or_concat t with rfl | ⟨t1, t2, h2⟩
  · rw [List.append_nil] at ht
    have := last_end ht
    rw [this, ByteArray.size_extract]
    have := h.2.1
    omega
  · rw [List.concat_eq_append] at h2
    subst h2
    have e : t2 = y := by
      have := congrArg List.getLast? ht
      simpa using this
    subst e
    have e2 : r = t1 ++ [t2] ++ r' := by
      rw [← ht, hr, List.append_assoc] at hv
      exact List.append_cancel_left hv
    have := hy t2 (by rw [e2]; simp)
    omega

/-! The machine. -/
theorem take_must {st st' : PSt} {a : Nat} {p : ByteArray} (hI : st.must = true → 5 ≤ st.stage) (h : takeP st a p = .ok st') : (st'.must = true → 5 ≤ st'.stage) ∧ (st'.must = true → st.must = false ∧ st'.T = st.T) ∧ st'.last = st.last := by
  unfold takeP furtherP extendP at h
  cases hm : st.must with
  | true =>
    have h5 := hI hm
    rw [if_neg (show ¬ st.stage = 0 by omega)] at h
    split at h
    · split at h
      · cases h; exact ⟨fun h => (by cases h), fun h => (by cases h), rfl⟩
      · cases h
    · rw [if_neg (by omega), if_neg (by omega), if_neg (by omega), if_neg (by omega)] at h
      split at h
      · cases h; exact ⟨fun h => (by cases h), fun h => (by cases h), rfl⟩
      · rw [if_neg (by rw [hm]; rintro ⟨h, _⟩; cases h), if_neg (by rw [hm]; rintro ⟨h, _⟩; cases h)] at h
        cases h
  | false =>
    repeat' split at h
    all_goals first
      | (cases h; done)
      | (cases h; exact ⟨fun h => (by simp_all), fun h => (by simp_all), rfl⟩)
theorem run_used : ∀ (xs : List (Nat × ByteArray)) (st : PSt), ∃ ys zs, xs = ys ++ zs ∧ runP ys st = ((runP xs st).1, none) ∧ (zs = [] ∨ ∃ z zs' e, zs = z :: zs' ∧ runP (ys ++ [z]) st = ((runP xs st).1, some e))
  | [], st => ⟨[], [], rfl, rfl, .inl rfl⟩
  | x :: r, st => by
    cases ht : takeP st x.1 (lowS x.2) with
    | error e => exact ⟨[], x :: r, rfl, by simp [runP, ht], .inr ⟨x, r, e, rfl, by simp [runP, ht]⟩⟩
    | ok s2 =>
      obtain ⟨ys, zs, h1, h2, h3⟩ := run_used r (endP s2 x.1 x.2.size)
      refine ⟨x :: ys, zs, by rw [h1, List.cons_append], by simp only [runP, ht]; exact h2, ?_⟩
      rcases h3 with h3 | ⟨z, zs', e, h3, h4⟩
      · exact .inl h3
      · exact .inr ⟨z, zs', e, h3, by simp only [List.cons_append, runP, ht]; exact h4⟩
theorem run_pre {a b : List (Nat × ByteArray)} {st s2 : PSt} (h : runP (a ++ b) st = (s2, none)) : ∃ s1, runP a st = (s1, none) ∧ runP b s1 = (s2, none) := by
  rw [runP_append] at h
  obtain ⟨⟨s1, o⟩, ho⟩ : ∃ z, runP a st = z := ⟨_, rfl⟩
  rw [ho] at h
  cases o with
  | none => exact ⟨s1, ho, h⟩
  | some e => simp at h
theorem run_preE {a b : List (Nat × ByteArray)} {st s2 : PSt} {e : PErr} (h : runP a st = (s2, some e)) : runP (a ++ b) st = (s2, some e) := by
  rw [runP_append, h]
/-- Where the last tag ended. -/
def RunJ (us : List (Nat × ByteArray)) (st : PSt) : Prop := (st.must = true → 5 ≤ st.stage) ∧
  (st.must = false → (us = [] ∧ st.last = 0) ∨ ∃ vs x, us = vs ++ [x] ∧ st.last = x.1 + x.2.size) ∧
  (st.must = true → ∃ vs x s1, us = vs ++ [x] ∧ runP vs pSt0 = (s1, none) ∧ s1.must = false ∧ s1.T = st.T ∧ s1.last = st.last)
theorem run_Jn (n : Nat) : ∀ (us : List (Nat × ByteArray)) st, us.length = n → runP us pSt0 = (st, none) → RunJ us st := by
  induction n with
  | zero =>
    intro us st hl h
    obtain rfl := List.eq_nil_of_length_eq_zero hl
    have e : pSt0 = st := congrArg Prod.fst h
    subst e
    exact ⟨fun h => (by cases h), fun _ => .inl ⟨rfl, rfl⟩, fun h => (by cases h)⟩
  | succ n ih =>
    intro us st hl h
    obtain ⟨vs, x, rfl⟩ : ∃ vs x, us = vs ++ [x] := by
      rcases List.eq_nil_or_concat us with rfl | ⟨a, b, e⟩
      · cases hl
      · exact ⟨a, b, by rw [e, List.concat_eq_append]⟩
    obtain ⟨s1, h1, h2⟩ := run_pre h
    obtain ⟨j1, j2, j3⟩ := ih vs s1 (by simpa using hl) h1
    cases ht : takeP s1 x.1 (lowS x.2) with
    | error e => simp [runP, ht] at h2
    | ok s2 =>
      have e : endP s2 x.1 x.2.size = st := by simpa [runP, ht] using h2
      obtain ⟨k1, k2, k3⟩ := take_must j1 ht
      cases hm : s2.must with
      | true =>
        have e2 : s2 = st := by rw [← e]; unfold endP; rw [if_pos hm]
        subst e2
        refine ⟨k1, fun h => (by rw [hm] at h; cases h), fun _ => ⟨vs, x, s1, rfl, h1, (k2 hm).1, (k2 hm).2.symm, k3.symm⟩⟩
      | false =>
        have e2 : { s2 with last := x.1 + x.2.size } = st := by rw [← e]; unfold endP; rw [if_neg (by rw [hm]; simp)]
        subst e2
        exact ⟨fun h => (by rw [hm] at h; cases h), fun _ => .inr ⟨vs, x, rfl, rfl⟩, fun h => (by rw [hm] at h; cases h)⟩
theorem run_J (us : List (Nat × ByteArray)) (st : PSt) (h : runP us pSt0 = (st, none)) : RunJ us st := run_Jn _ us st rfl h
theorem read_pre (s : ByteArray) (h : 0 < (readS s).1.last) : BndS s (readS s).1.last ∧ outP (readS (s.extract 0 (readS s).1.last)) = ((readS s).1.T, none) := by
  have e1 : (readS s).1 = (runP (pieces s) pSt0).1 := by
    unfold readS finP
    split
    · rename_i st e he; rw [he]
    · rename_i st he; rw [he]; split <;> rfl
  rw [e1] at h ⊢
  obtain ⟨ys, zs, hx, hy, _⟩ := run_used (pieces s) pSt0
  generalize (runP (pieces s) pSt0).1 = st at *
  obtain ⟨j1, j2, j3⟩ := run_J ys st hy
  have go : ∀ vs x r (s1 : PSt), pieces s = vs ++ [x] ++ r → runP (vs ++ [x]) pSt0 = (s1, none) → s1.must = false → s1.T = st.T → st.last = x.1 + x.2.size → BndS s st.last ∧ outP (readS (s.extract 0 st.last)) = (st.T, none) := by
    intro vs x r s1 g1 g2 g3 g4 g5
    rw [g5] at h ⊢
    obtain ⟨a1, a2⟩ := pre_pieces g1 h
    refine ⟨a1, ?_⟩
    unfold readS
    rw [a2, g2]
    simp [finP, g3, outP, g4]
  cases hm : st.must with
  | false =>
    rcases j2 hm with ⟨_, h0⟩ | ⟨vs, x, rfl, hl⟩
    · omega
    · exact go vs x zs st hx hy hm rfl hl
  | true =>
    obtain ⟨vs, x, s1, rfl, g1, g2, g3, g4⟩ := j3 hm
    obtain ⟨i1, i2, i3⟩ := run_J vs s1 g1
    rcases i2 g2 with ⟨_, h0⟩ | ⟨us, y, rfl, hl⟩
    · omega
    · exact go us y ([x] ++ zs) s1 (by rw [hx]; simp) g1 g2 g3 (by rw [← g4, hl])
theorem read_beyond (s : ByteArray) (n : Nat) (hb : BndS s n) (h : (readS s).1.last < n) : (outP (readS (s.extract 0 n))).2 ≠ none := by
  have e1 : (readS s).1 = (runP (pieces s) pSt0).1 := by
    unfold readS finP
    split
    · rename_i st e he; rw [he]
    · rename_i st he; rw [he]; split <;> rfl
  rw [e1] at h
  obtain ⟨ys, zs, hx, hy, hz⟩ := run_used (pieces s) pSt0
  generalize (runP (pieces s) pSt0).1 = st at *
  obtain ⟨r, hr, _⟩ := pieces_pre hb
  obtain ⟨P, hP⟩ : ∃ P, pieces (s.extract 0 n) = P := ⟨_, rfl⟩
  have hmono := fun vs r' y => @ends_mono s n hb vs r' y
  have hPne : P ≠ [] := by
    intro e
    have h1 : (spl (bs (s.extract 0 n))).length = 0 := by rw [← placed_len 0]; show (pieces _).length = 0; rw [hP, e]; rfl
    have h2 := spl_pos (bs (s.extract 0 n))
    omega
  rw [hP] at hr hmono
  have hpre : ∀ t, ys = P ++ t → (outP (readS (s.extract 0 n))).2 ≠ none := by
    rintro t rfl
    obtain ⟨s1, g1, g2⟩ := run_pre hy
    obtain ⟨j1, j2, j3⟩ := run_J _ s1 g1
    cases hm : s1.must with
    | true => unfold readS; rw [hP, g1]; simp [finP, hm, outP]
    | false =>
      exfalso
      obtain ⟨k1, k2, k3⟩ := run_J _ st hy
      cases hmt : st.must with
      | false =>
        rcases k2 hmt with ⟨e, _⟩ | ⟨vs, x, e, hl⟩
        · exact hPne (List.append_eq_nil_iff.1 e).1
        · have := hmono vs zs x (by rw [hx, e]) ⟨t, e⟩
          omega
      | true =>
        obtain ⟨vs, x, s2, e, q1, q2, q3, q4⟩ := k3 hmt
        rcases List.eq_nil_or_concat t with rfl | ⟨t1, t2, ht⟩
        · rw [List.append_nil] at hy
          rw [hy] at g1
          have : st = s1 := congrArg Prod.fst g1
          rw [this, hm] at hmt
          cases hmt
        · rw [List.concat_eq_append] at ht
          subst ht
          rw [← List.append_assoc] at e
          have e3 := (List.append_inj' e rfl).1
          obtain ⟨i1, i2, i3⟩ := run_J vs s2 q1
          rcases i2 q2 with ⟨e4, _⟩ | ⟨us, y, e4, hl⟩
          · rw [e4] at e3
            exact hPne (List.append_eq_nil_iff.1 e3).1
          · have := hmono us (t2 :: zs) y (by rw [hx, ← e4, ← e3]; simp) ⟨t1, by rw [e3, e4]⟩
            omega
  rw [hx] at hr
  rcases List.append_eq_append_iff.1 hr with ⟨t, h1, h2⟩ | ⟨t, h1, h2⟩
  · rcases hz with rfl | ⟨z, zs', e, rfl, g⟩
    · obtain ⟨rfl, _⟩ := List.append_eq_nil_iff.1 h2.symm
      exact hpre [] (by rw [h1]; simp)
    · cases t with
      | nil => exact hpre [] (by rw [h1]; simp)
      | cons w t' =>
        obtain ⟨rfl, _⟩ := List.cons.inj h2
        have : runP P pSt0 = (st, some e) := by
          rw [h1, show ys ++ z :: t' = (ys ++ [z]) ++ t' by simp]
          exact run_preE g
        unfold readS
        rw [hP, this]
        simp [finP, outP]
  · exact hpre t h1
end Go.Proofs.YtpnhjpplfjamkaaGreatDoor

namespace Go.Proofs.YtpnhjpplfjamkaaGreatDoor
open Go Go.RowKit

/-- Are a text's first pieces a name? -/
def begS (s nm : ByteArray) : Bool := decide (nm.size ≤ s.size) && (sameS (s.extract 0 nm.size) nm && (decide (s.size = nm.size) || decide ((bs s)[nm.size]? = some 45)))
theorem begS_iff (s : ByteArray) (k : Nat) (hk : k < 26) : begS s (nameG k) = true ↔ BndS s (nameG k).size ∧ findV (s.extract 0 (nameG k).size) = some k := by
  have hz := (name_size k hk).1
  unfold begS BndS
  rw [findV_iff _ _ hk, Bool.and_eq_true, Bool.and_eq_true, Bool.or_eq_true, decide_eq_true_eq, decide_eq_true_eq, decide_eq_true_eq, same_low, name_low k hk]
  constructor
  · rintro ⟨h1, h2, h3⟩
    refine ⟨⟨by omega, h1, fun h => ?_⟩, h2⟩
    rcases h3 with h3 | h3
    · omega
    · exact h3
  · rintro ⟨⟨_, h1, h3⟩, h2⟩
    refine ⟨h1, h2, ?_⟩
    rcases Nat.lt_or_eq_of_le h1 with h | h
    · exact .inr (h3 h)
    · exact .inl h.symm
def stepG (s : ByteArray) (p : TagM × Nat) (nm : ByteArray) : TagM × Nat := if p.2 ≤ nm.size ∧ begS s nm = true then ({ pNo with grand := nm }, nm.size) else p
def foldG (s : ByteArray) (p : TagM × Nat) : Nat → TagM × Nat
  | 0 => p
  | k + 1 => stepG s (foldG s p k) (nameG k)
theorem fold_inv (s : ByteArray) (t0 : TagM) (e0 : Nat) : ∀ k, (foldG s (t0, e0) k = (t0, e0) ∧ ∀ j, j < k → begS s (nameG j) = true → (nameG j).size < e0) ∨
    ∃ i, i < k ∧ begS s (nameG i) = true ∧ foldG s (t0, e0) k = ({ pNo with grand := nameG i }, (nameG i).size) ∧ e0 ≤ (nameG i).size ∧ ∀ j, j < k → begS s (nameG j) = true → (nameG j).size ≤ (nameG i).size
  | 0 => .inl ⟨rfl, fun j h => by omega⟩
  | k + 1 => by
    have h := fold_inv s t0 e0 k
    generalize hp : foldG s (t0, e0) k = p at h
    have hs : foldG s (t0, e0) (k + 1) = stepG s p (nameG k) := by rw [← hp]; rfl
    rw [hs]
    unfold stepG
    by_cases hc : p.2 ≤ (nameG k).size ∧ begS s (nameG k) = true
    · rw [if_pos hc]
      refine .inr ⟨k, by omega, hc.2, rfl, ?_, fun j hj hb => ?_⟩
      · rcases h with ⟨rfl, _⟩ | ⟨i, _, _, rfl, h4, _⟩
        · exact hc.1
        · exact Nat.le_trans h4 hc.1
      · rcases Nat.lt_or_eq_of_le (Nat.le_of_lt_succ hj) with hj | rfl
        · rcases h with ⟨rfl, h2⟩ | ⟨i, _, _, rfl, _, h5⟩
          · exact Nat.le_of_lt (Nat.lt_of_lt_of_le (h2 j hj hb) hc.1)
          · exact Nat.le_trans (h5 j hj hb) hc.1
        · exact Nat.le_refl _
    · rw [if_neg hc]
      rcases h with ⟨h1, h2⟩ | ⟨i, h1, h2, h3, h4, h5⟩
      · refine .inl ⟨h1, fun j hj hb => ?_⟩
        rcases Nat.lt_or_eq_of_le (Nat.le_of_lt_succ hj) with hj | rfl
        · exact h2 j hj hb
        · have h6 : ¬ p.2 ≤ (nameG j).size := fun h => hc ⟨h, hb⟩
          rw [h1] at h6
          exact Nat.lt_of_not_le h6
      · refine .inr ⟨i, by omega, h2, h3, h4, fun j hj hb => ?_⟩
        rcases Nat.lt_or_eq_of_le (Nat.le_of_lt_succ hj) with hj | rfl
        · exact h5 j hj hb
        · have h6 : ¬ p.2 ≤ (nameG j).size := fun h => hc ⟨h, hb⟩
          rw [h3] at h6
          exact Nat.le_of_lt (Nat.lt_of_not_le h6)
theorem pre_size {s : ByteArray} {n : Nat} (h : n ≤ s.size) : (s.extract 0 n).size = n := by rw [ByteArray.size_extract]; omega
theorem parse_ways {s : ByteArray} {n : Nat} (hb : BndS s n) : (∃ k, k < 26 ∧ begS s (nameG k) = true ∧ (nameG k).size = n) ∨ parseS (s.extract 0 n) = outP (readS (s.extract 0 n)) := by
  cases hf : findV (s.extract 0 n) with
  | none => exact .inr (by unfold parseS; rw [hf]; rfl)
  | some k =>
    have hk := findV_lt hf
    have h1 := (findV_iff _ _ hk).1 hf
    have h2 : (nameG k).size = n := by rw [← h1, size_lowS, pre_size hb.2.1]
    exact .inl ⟨k, hk, (begS_iff s k hk).2 ⟨by rw [h2]; exact hb, by rw [h2]; exact hf⟩, h2⟩
/-- The tag of a text's longest beginning that is one, and where that ends. -/
def firstP (s : ByteArray) : TagM × Nat := foldG s ((readS s).1.T, (readS s).1.last) 26
theorem first_ok (s : ByteArray) : (∀ n, (firstP s).2 < n → BndS s n → (parseS (s.extract 0 n)).2 ≠ none) ∧ (0 < (firstP s).2 → BndS s (firstP s).2 ∧ parseS (s.extract 0 (firstP s).2) = ((firstP s).1, none)) := by
  unfold firstP
  have hB := read_beyond s
  have hP := read_pre s
  generalize (readS s).1 = st at *
  rcases fold_inv s st.T st.last 26 with ⟨h1, h2⟩ | ⟨i, h1, h2, h3, h4, h5⟩
  · rw [h1]
    refine ⟨fun n hn hb => ?_, fun h0 => ?_⟩
    · rcases parse_ways hb with ⟨k, hk, g1, g2⟩ | g
      · have := h2 k hk g1
        dsimp only at hn
        omega
      · rw [g]; exact hB n hb hn
    · obtain ⟨a1, a2⟩ := hP h0
      refine ⟨a1, ?_⟩
      rcases parse_ways a1 with ⟨k, hk, g1, g2⟩ | g
      · have := h2 k hk g1
        omega
      · dsimp only
        rw [g, a2]
  · rw [h3]
    refine ⟨fun n hn hb => ?_, fun h0 => ?_⟩
    · dsimp only at hn
      rcases parse_ways hb with ⟨k, hk, g1, g2⟩ | g
      · have := h5 k hk g1
        omega
      · rw [g]; exact hB n hb (by omega)
    · obtain ⟨a1, a2⟩ := (begS_iff s i h1).1 h2
      refine ⟨a1, ?_⟩
      dsimp only
      unfold parseS
      rw [a2, (findV_iff _ _ h1).1 a2]
      rfl
end Go.Proofs.YtpnhjpplfjamkaaGreatDoor

namespace Go.Proofs.YtpnhjpplfjamkaaGreatDoor
open Go Go.RowKit

def NeT (T : TagM) : Prop := (∀ x ∈ T.extl, x.size ≠ 0) ∧ (∀ x ∈ T.vars, x.size ≠ 0) ∧ (∀ x ∈ T.exts, x.1.size ≠ 0 ∧ ∀ y ∈ x.2, y.size ≠ 0) ∧ (∀ x ∈ T.priv, x.size ≠ 0)
theorem has_ne {p : UInt8 → Bool} {s : ByteArray} (h : has p s = true) : s.size ≠ 0 := by
  intro e
  have hb : bs s = [] := List.eq_nil_of_length_eq_zero (by rw [size_bs]; exact e)
  unfold has at h
  rw [hb] at h
  simp at h
theorem okS_ne {s : ByteArray} (h : okS s = true) : s.size ≠ 0 := by
  unfold okS at h
  rw [Bool.and_eq_true] at h
  exact has_ne h.2
theorem variantS_ne {s : ByteArray} (h : variantS s = true) : s.size ≠ 0 := by
  unfold variantS at h
  rw [Bool.and_eq_true] at h
  exact has_ne h.1
theorem extlangS_ne {s : ByteArray} (h : extlangS s = true) : s.size ≠ 0 := by
  unfold extlangS lettersS at h
  intro e
  rw [e] at h
  simp at h
theorem addSub_ne {p : ByteArray} (hp : p.size ≠ 0) : ∀ {l : List (ByteArray × List ByteArray)}, (∀ x ∈ l, x.1.size ≠ 0 ∧ ∀ y ∈ x.2, y.size ≠ 0) → ∀ x ∈ addSub l p, x.1.size ≠ 0 ∧ ∀ y ∈ x.2, y.size ≠ 0
  | [], _ => fun x hx => by simp [addSub] at hx
  | [z], h => fun x hx => by
    simp only [addSub, List.mem_singleton] at hx
    subst hx
    refine ⟨(h z (by simp)).1, fun y hy => ?_⟩
    rcases List.mem_append.1 hy with hy | hy
    · exact (h z (by simp)).2 y hy
    · rw [List.mem_singleton.1 hy]; exact hp
  | z :: w :: r, h => fun x hx => by
    simp only [addSub, List.mem_cons] at hx
    rcases hx with rfl | hx
    · exact h x (by simp)
    · exact addSub_ne hp (l := w :: r) (fun y hy => h y (List.mem_cons_of_mem _ hy)) x (by simpa [addSub] using hx)
theorem app_ne {l : List ByteArray} {p : ByteArray} (h : ∀ x ∈ l, x.size ≠ 0) (hp : p.size ≠ 0) : ∀ x ∈ l ++ [p], x.size ≠ 0 := fun x hx => by
  rcases List.mem_append.1 hx with hx | hx
  · exact h x hx
  · rw [List.mem_singleton.1 hx]; exact hp
theorem take_ne {st st' : PSt} {a : Nat} {p : ByteArray} (h : NeT st.T) (ht : takeP st a p = .ok st') : NeT st'.T := by
  obtain ⟨h1, h2, h3, h4⟩ := h
  unfold takeP at ht
  split at ht
  · split at ht
    · cases ht; exact ⟨h1, h2, h3, h4⟩
    · split at ht
      · cases ht; exact ⟨h1, h2, h3, h4⟩
      · cases ht
  · split at ht
    · split at ht
      · rename_i ho; cases ht; exact ⟨h1, h2, h3, app_ne h4 (okS_ne ho)⟩
      · cases ht
    · unfold furtherP at ht
      split at ht
      · rename_i he; cases ht; exact ⟨app_ne h1 (extlangS_ne he.2.1), h2, h3, h4⟩
      · split at ht
        · cases ht; exact ⟨h1, h2, h3, h4⟩
        · split at ht
          · cases ht; exact ⟨h1, h2, h3, h4⟩
          · split at ht
            · rename_i he
              split at ht
              · cases ht
              · cases ht; exact ⟨h1, app_ne h2 (variantS_ne he.2), h3, h4⟩
            · split at ht
              · rename_i he
                cases ht
                unfold extendP
                refine ⟨h1, h2, ?_, h4⟩
                dsimp only
                split
                · intro x hx
                  rcases List.mem_append.1 hx with hx | hx
                  · exact h3 x hx
                  · rw [List.mem_singleton.1 hx]
                    exact ⟨he.1, fun y hy => by rw [List.mem_singleton.1 hy]; exact okS_ne he.2.2⟩
                · exact addSub_ne (okS_ne he.2.2) h3
              · split at ht
                · split at ht
                  · cases ht
                  · cases ht; exact ⟨h1, h2, h3, h4⟩
                · split at ht
                  · cases ht; exact ⟨h1, h2, h3, h4⟩
                  · cases ht
theorem run_ne : ∀ (xs : List (Nat × ByteArray)) (st : PSt), NeT st.T → NeT (runP xs st).1.T
  | [], _, h => h
  | x :: r, st, h => by
    unfold runP
    split
    · exact h
    · rename_i s2 hs
      refine run_ne r _ ?_
      have := take_ne h hs
      unfold endP
      split
      · exact this
      · exact this
theorem pNo_ne : NeT pNo := by simp [NeT, pNo]
theorem parse_ne {s : ByteArray} {T : TagM} (h : parseS s = (T, none)) : NeT T := by
  unfold parseS at h
  split at h
  · have e := congrArg Prod.fst h
    dsimp only at e
    rw [← e]
    exact pNo_ne
  · have hr := run_ne (pieces s) pSt0 pNo_ne
    unfold readS at h
    obtain ⟨⟨st, o⟩, hq⟩ : ∃ z, runP (pieces s) pSt0 = z := ⟨_, rfl⟩
    rw [hq] at h hr
    cases o with
    | some e => simp [finP, outP] at h
    | none =>
      cases hm : st.must with
      | true => simp [finP, outP, hm] at h
      | false =>
        simp [finP, outP, hm] at h
        rw [← h]
        exact hr
theorem Row.setNe {W : World} {v : Value} {l : List ByteArray} (h : Row W v l) (hn : ∀ x ∈ l, x.size ≠ 0) {R : Nat} (hR : ∀ k x, W.cell? ⟨R, k, none⟩ = some (.string x) → x.size = 0) (cs : Array Value) : Row (W.setRow R cs) v l := by
  obtain ⟨ao, cap, rfl, hc⟩ := h
  refine ⟨ao, cap, rfl, fun i x hx => ?_⟩
  obtain ⟨g, h1, h2⟩ := hc i x hx
  have hg : g ≠ R := fun e => hn x (List.mem_of_getElem? hx) (hR i x (by rw [← e]; exact h2))
  refine ⟨g, h1, ?_⟩
  rw [← h2]
  unfold World.cell?
  rw [setRow_other W R g cs hg]
theorem TagIs.setNe {W : World} {v : Value} {T : TagM} (h : TagIs W v T) (hn : NeT T) {R : Nat} (hR : ∀ k x, W.cell? ⟨R, k, none⟩ = some (.string x) → x.size = 0) (cs : Array Value) : TagIs (W.setRow R cs) v T := by
  obtain ⟨ve, vv, vx, vp, rfl, h1, h2, ⟨ao, cap, rfl, hc⟩, h4⟩ := h
  obtain ⟨n1, n2, n3, n4⟩ := hn
  refine ⟨ve, vv, _, vp, rfl, h1.setNe n1 hR cs, h2.setNe n2 hR cs, ⟨ao, cap, rfl, fun i x hx => ?_⟩, h4.setNe n4 hR cs⟩
  obtain ⟨g, vs, k1, k2, k3, k4⟩ := hc i x hx
  have hm := n3 x (List.mem_of_getElem? hx)
  have hg : g ≠ R := fun e => hm.1 (hR _ x.1 (by rw [← e]; exact k2))
  refine ⟨g, vs, k1, ?_, ?_, k4.setNe hm.2 hR cs⟩
  · rw [← k2]; unfold World.cell?; rw [setRow_other W R g cs hg]
  · rw [← k3]; unfold World.cell?; rw [setRow_other W R g cs hg]
/-- A block of empty texts. -/
theorem no_texts {W : World} {R : Nat} {t : TypeId} {cs : Array Value} (h : W.heap[R]? = some (.cells cs t (0, 0))) (hc : ∀ v ∈ cs.toList, ∀ x, v = .string x → x.size = 0) : ∀ k x, W.cell? ⟨R, k, none⟩ = some (.string x) → x.size = 0 := by
  intro k x hx
  simp only [World.cell?, h] at hx
  refine hc _ (List.mem_of_getElem? (i := k) (by simpa using hx)) x rfl
end Go.Proofs.YtpnhjpplfjamkaaGreatDoor

namespace Go.Proofs.YtpnhjpplfjamkaaGreatDoor
open Go Go.RowKit

theorem restSize : (Tryz.prog.info? 63).map (·.size) = some 9 := by kernel_rfl
/-- What First answers. -/
def restS (s : ByteArray) : TagM × ByteArray := if (firstP s).2 = 0 then (pNo, s) else ((firstP s).1, s.extract (min ((firstP s).2 + 1) s.size) s.size)
def RestR (W : World) (v : Value) (r : TagM × ByteArray) : Prop := ∃ g1 g2 g3 g4 g5 g6 g7 g8, v = .agg #[.string r.1.lang, .slice g1 r.1.extl.length g2, .string r.1.script, .string r.1.region, .slice g3 r.1.vars.length g4, .slice g5 r.1.exts.length g6, .slice g7 r.1.priv.length g8, .string r.1.grand, .string r.2] ∧ TagIs W (.agg #[.string r.1.lang, .slice g1 r.1.extl.length g2, .string r.1.script, .string r.1.region, .slice g3 r.1.vars.length g4, .slice g5 r.1.exts.length g6, .slice g7 r.1.priv.length g8, .string r.1.grand]) r.1

set_option maxRecDepth 100000 in
set_option maxHeartbeats 4000000 in
theorem first_ref (s : ByteArray) (w : World) (hs : s.size ≤ 40000) :
    Calls Tryz.prog 34 #[.string s] w fun e w' => ∃ v, e = .returned v ∧ RestR w' v (restS s) ∧ Below w.heap.size w w' := by
  obtain ⟨W1, hW1⟩ : ∃ x, w.alloc (.cells #[.string ⟨#[]⟩, .slice none 0 0, .string ⟨#[]⟩, .string ⟨#[]⟩, .slice none 0 0, .slice none 0 0, .slice none 0 0, .string ⟨#[]⟩, .string ⟨#[]⟩] 63) = x := ⟨_, rfl⟩
  have hb1 : Below w.heap.size w W1 := by rw [← hW1]; exact (Below.refl _ w).alloc (Nat.le_refl _) _
  have hR1 : W1.heap[w.heap.size]? = some (.cells #[.string ⟨#[]⟩, .slice none 0 0, .string ⟨#[]⟩, .string ⟨#[]⟩, .slice none 0 0, .slice none 0 0, .slice none 0 0, .string ⟨#[]⟩, .string ⟨#[]⟩] 63 (0, 0)) := by rw [← hW1]; exact World.alloc_heap_new w _
  have hlR := lt_of_heap hR1
  have HR := Lib.hid (fun (w' : World) (hb : Below W1.heap.size W1 w') => (hb.block _ hlR).trans hR1)
  have HB1 := Lib.hid hb1
  obtain ⟨hF1, hF2⟩ := first_ok s
  have HF1 := Lib.hid hF1
  have HF2 := Lib.hid hF2
  have HRS := Lib.hid (show restS s = if (firstP s).2 = 0 then (pNo, s) else ((firstP s).1, s.extract (min ((firstP s).2 + 1) s.size) s.size) from rfl)
  generalize restS s = RS at *
  have hes : (firstP s).2 ≤ s.size := by
    rcases Nat.eq_zero_or_pos (firstP s).2 with h | h
    · omega
    · exact (hF2 h).1.2.1
  generalize firstP s = FP at *
  obtain ⟨T, e⟩ := FP
  dsimp only at *
  have HW1 := Lib.hid hW1
  clear hF1 hF2 hb1 hR1 hW1
  go_enter Tryz.func34, Tryz.ntmps34
  go_upto_region 1 with fail
  rw [HW1.out]
  clear HW1
  go_wp2_with fail
  go_loopw [3] (fun i wr => ∃ k : Nat, k ≤ s.size ∧ e ≤ k ∧ i = .int .i64 (k : Int) ∧ Below W1.heap.size W1 wr) (fun i _ => (intOf i).toNat)
  case atStart => exact ⟨s.size, Nat.le_refl _, hes, rfl, Below.refl _ _⟩
  case round =>
    obtain ⟨k, hk, hek, rfl, hB⟩ := hrel
    rcases k with _ | m
    · have he : e = 0 := by omega
      have HR9 := Lib.hid (HR.out _ hB)
      have HE := Lib.hid he
      clear he
      go_wp2_with (refine wpList_store_row rfl _ _ _ rfl _ _ rfl rfl _ _ HR9.out restSize rfl (by simp [Value.oneCell']) ?_)
      refine bodyPost_ret (results_cell_row rfl _ _ w.heap.size 63 #[.string ⟨#[]⟩, .slice none 0 0, .string ⟨#[]⟩, .string ⟨#[]⟩, .slice none 0 0, .slice none 0 0, .slice none 0 0, .string ⟨#[]⟩, .string s] (0, 0) _ rfl (setRow_heap _ _ _ _ _ _ HR9.out) Tryz.underlying63 rfl restSize) rfl ?_
      refine ⟨_, rfl, ?_, below_setRowQ (HB1.out.trans (hB.mono HB1.out.size)) (Nat.le_refl _) _⟩
      rw [HRS.out, if_pos HE.out]
      exact ⟨none, 0, none, 0, none, 0, none, 0, rfl, pNo_is _⟩
    · have hm0 : (0 : Int) < ((m + 1 : Nat) : Int) := by omega
      have hm1 : (0 : Int) ≤ ((m + 1 : Nat) : Int) := by omega
      have hmv : ((m + 1 : Nat) : Int) - 1 = (m : Int) := by omega
      have HM := Lib.hid hmv
      clear hmv
      generalize hK : m + 1 = K at *
      have HK := Lib.hid hK
      clear hK
      by_cases hbd : BndS s K
      · have hguard : (¬ (K : Int) < (s.size : Int)) ∨ ((K : Int) < (s.size : Int) ∧ ∃ h : K < s.size, (((s[K]'h).toNat : Int) != 45) = false) := by
          rcases Nat.lt_or_ge K s.size with h | h
          · refine .inr ⟨by omega, h, ?_⟩
            have h2 := hbd.2.2 h
            rw [bs_get s K h] at h2
            exact (mark_true (Option.some.inj h2)).2
          · exact .inl (by omega)
        have hki : (K : Int) ≤ (s.size : Int) := by omega
        have HPR := Lib.hid (fun w5 => parse_ref (s.extract 0 K) w5 (by rw [ByteArray.size_extract]; omega))
        rcases Nat.lt_or_eq_of_le hek with hlt | heq
        · -- no tag
          obtain ⟨x, hx⟩ : ∃ x, (parseS (s.extract 0 K)).2 = some x := by
            cases hp : (parseS (s.extract 0 K)).2 with
            | none => exact absurd hp (HF1.out K hlt hbd)
            | some x => exact ⟨x, rfl⟩
          obtain ⟨hx1, hx2⟩ := parse_err hx
          have hx3 : (x.1 == 0) = false := by rw [beq_eq_false_iff_ne]; omega
          have PR := Lib.hid (fun w5 (hb : Below W1.heap.size W1 w5) => (HPR.out w5).mono (R' := fun e w7 => e = .returned (.agg #[.string ⟨#[]⟩, .slice none 0 0, .string ⟨#[]⟩, .string ⟨#[]⟩, .slice none 0 0, .slice none 0 0, .slice none 0 0, .string ⟨#[]⟩, .int .i64 x.1, .int .i64 (x.2.1 : Int), .string x.2.2]) ∧ Below W1.heap.size W1 w7) fun e w7 ⟨v, p, q, r⟩ => by
            rw [hx1] at q
            have := got_err q
            subst this
            exact ⟨p, hb.trans (r.mono hb.size)⟩)
          clear hx hx1 hx2 HPR hbd
          rcases hguard with h1 | ⟨h1, h2, h3⟩
          all_goals
            go_wp2_with (go_at_call 28; (with_reducible refine (PR.out _ hB).mono ?_); rintro e w5 ⟨rfl, hB5⟩)
            go_roundw
            case rel => exact ⟨m, by have := HK.out; omega, by have := HK.out; omega, congrArg (Value.int .i64) HM.out, hB5.alloc hB5.size _⟩
            case measure =>
              have := HK.out
              simp [intOf]
              omega
        · subst heq
          obtain ⟨-, ho⟩ := HF2.out (by have := HK.out; omega)
          have HNE := Lib.hid (parse_ne ho)
          have HE := Lib.hid (show ¬ e = 0 by have := HK.out; omega)
          have PR := Lib.hid (fun w5 (hb : Below W1.heap.size W1 w5) => (HPR.out w5).mono (R' := fun ex w7 => ∃ g1 g2 g3 g4 g5 g6 g7 g8, ex = .returned (.agg #[.string T.lang, .slice g1 T.extl.length g2, .string T.script, .string T.region, .slice g3 T.vars.length g4, .slice g5 T.exts.length g6, .slice g7 T.priv.length g8, .string T.grand, .int .i64 0, .int .i64 0, .string ⟨#[]⟩]) ∧ TagIs w7 (.agg #[.string T.lang, .slice g1 T.extl.length g2, .string T.script, .string T.region, .slice g3 T.vars.length g4, .slice g5 T.exts.length g6, .slice g7 T.priv.length g8, .string T.grand]) T ∧ Below W1.heap.size W1 w7) fun ex w7 ⟨v, p, q, r⟩ => by
            rw [ho] at q
            obtain ⟨g1, g2, g3, g4, g5, g6, g7, g8, rfl, hi⟩ := got_ok q
            exact ⟨g1, g2, g3, g4, g5, g6, g7, g8, p, hi, hb.trans (r.mono hb.size)⟩)
          clear ho HPR hbd
          rcases hguard with h1 | ⟨h1, h2, h3⟩
          all_goals
            obtain ⟨mm, hmm⟩ : ∃ mm : Nat, min (e + 1) s.size = mm := ⟨_, rfl⟩
            have HMM := Lib.hid hmm
            have HMIN := Lib.hid (show min ((e : Int) + 1) (s.size : Int) = (mm : Int) by omega)
            have hmm1 : (mm : Int) ≤ (s.size : Int) := by omega
            have hmm0 : (0 : Int) ≤ (mm : Int) := by omega
            clear hmm
            go_upto_region 6 with (go_at_call 28; (with_reducible refine (PR.out _ hB).mono ?_); rintro e5 w5 ⟨g1, g2, g3, g4, g5, g6, g7, g8, rfl, hI5, hB5⟩)
            obtain ⟨WU, hWU⟩ : ∃ W, w5.alloc (.cells #[.string T.lang, .slice g1 T.extl.length g2, .string T.script, .string T.region, .slice g3 T.vars.length g4, .slice g5 T.exts.length g6, .slice g7 T.priv.length g8, .string T.grand, .int .i64 0, .int .i64 0, .string ⟨#[]⟩] 54) = W := ⟨_, rfl⟩
            have hbU : Below w5.heap.size w5 WU := by rw [← hWU]; exact (Below.refl _ _).alloc (Nat.le_refl _) _
            have hU : WU.heap[w5.heap.size]? = some (.cells #[.string T.lang, .slice g1 T.extl.length g2, .string T.script, .string T.region, .slice g3 T.vars.length g4, .slice g5 T.exts.length g6, .slice g7 T.priv.length g8, .string T.grand, .int .i64 0, .int .i64 0, .string ⟨#[]⟩] 54 (0, 0)) := by rw [← hWU]; exact World.alloc_heap_new w5 _
            obtain ⟨u0, u1, u2, u3, u4, u5, u6, u7, u8, u9, u10⟩ := got_cells hU
            rw [hWU]
            clear hWU
            have hBU := hB5.trans (hbU.mono hB5.size)
            have HRU := Lib.hid (HR.out _ hBU)
            have HIU := Lib.hid (hI5.below hbU)
            have HBU := Lib.hid hBU
            clear hI5 hbU hU hB5 hBU
            go_upto_region 7 with fail
            have hwr : IntKind.i64.wrap ((e : Int) + 1) = (e : Int) + 1 := by rw [IntKind.wrap_i64]; omega
            have hmin := HMIN.out
            have hle : (e : Int) ≤ (s.size : Int) := hki
            go_still_tail 10, (by kernel_rfl)
            change wpList _ _ _ _ _ WU.drew
            have HRD := Lib.hid (show WU.drew.heap[w.heap.size]? = _ from HRU.out)
            have HBD := Lib.hid (HBU.out.drew)
            have HID := Lib.hid (HIU.out.below (Below.refl WU.heap.size WU).drew)
            generalize WU.drew = WD at *
            go_wp2_with (refine wpList_store_row rfl _ _ _ rfl _ _ rfl rfl _ _ HRD.out restSize rfl (by simp [Value.oneCell']) ?_)
            refine bodyPost_ret (results_cell_row rfl _ _ w.heap.size 63 #[.string T.lang, .slice g1 T.extl.length g2, .string T.script, .string T.region, .slice g3 T.vars.length g4, .slice g5 T.exts.length g6, .slice g7 T.priv.length g8, .string T.grand, .string (s.extract mm s.size)] (0, 0) _ rfl (setRow_heap _ _ _ _ _ _ HRD.out) Tryz.underlying63 rfl restSize) rfl ?_
            refine ⟨_, rfl, ?_, below_setRowQ (HB1.out.trans (HBD.out.mono HB1.out.size)) (Nat.le_refl _) _⟩
            rw [HRS.out, if_neg HE.out, HMM.out]
            exact ⟨g1, g2, g3, g4, g5, g6, g7, g8, rfl, HID.out.setNe HNE.out (no_texts HRD.out (fun v hv x hx => by subst hx; simp at hv; subst hv; rfl)) _⟩
      · have hkn : K < s.size := by
          rcases Nat.lt_or_ge K s.size with h | h
          · exact h
          · exact absurd ⟨by have := HK.out; omega, hk, fun h2 => by omega⟩ hbd
        have hne : s[K] ≠ 45 := fun h => hbd ⟨by have := HK.out; omega, hk, fun h2 => by rw [bs_get s K hkn, h]⟩
        have h3 := (mark_false hne).2
        have h1 : (K : Int) < (s.size : Int) := by omega
        have hlt : e < K := by
          rcases Nat.lt_or_eq_of_le hek with h | h
          · exact h
          · subst h
            exact absurd (HF2.out (by have := HK.out; omega)).1 hbd
        have HLT := Lib.hid hlt
        clear hbd hne hlt
        go_wp2_with fail
        go_roundw
        case rel => exact ⟨m, by have := HK.out; omega, by have := HK.out; have := HLT.out; omega, congrArg (Value.int .i64) HM.out, hB⟩
        case measure =>
          have := HK.out
          simp [intOf]
          omega
end Go.Proofs.YtpnhjpplfjamkaaGreatDoor
