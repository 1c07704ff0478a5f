/-
  Package parse: what is parsed is right (the mathematics).
-/
import Derived.Test.YtggfdmhfcpabdaaGreatDoorPRight
namespace Go.Proofs.YtggfdmhfcpabdaaGreatDoor
open Go Go.RowKit

/-- Behind a language, ahead of x: what is read so far. -/
structure RunP (st : PSt) (l : List ByteArray) : Prop where
  lo : 1 ≤ st.stage
  hi : st.stage ≤ 5
  g : st.T.grand = ByteArray.empty
  p : st.T.priv = []
  lg : languageS st.T.lang = true
  e : ∀ p ∈ st.T.extl, extlangS p = true
  en : st.T.extl.length ≤ 3
  el : st.T.extl ≠ [] → st.T.lang.size ≤ 3
  e1 : st.stage = 1 → st.T.lang.size ≤ 3
  s : st.T.script.size = 0 ∨ scriptS st.T.script = true
  s0 : st.stage ≤ 2 → st.T.script = ByteArray.empty
  r : st.T.region.size = 0 ∨ regionS st.T.region = true
  r0 : st.stage ≤ 3 → st.T.region = ByteArray.empty
  v : ∀ p ∈ st.T.vars, variantS p = true
  vn : ∀ (i : Nat) p, st.T.vars[i]? = some p → hasT (st.T.vars.take i) p = false
  v0 : st.stage ≤ 3 → st.T.vars = []
  x : ∀ e ∈ st.T.exts, singletonS e.1 = true ∧ e.2 ≠ [] ∧ ∀ p ∈ e.2, 2 ≤ p.size ∧ okS p = true
  xn : ∀ (i : Nat) e, st.T.exts[i]? = some e → hasT ((st.T.exts.take i).map (·.1)) e.1 = false
  x0 : st.stage ≤ 4 → st.T.exts = []
  seen : st.seen = st.T.vars ++ st.T.exts.map (·.1) ++ (if st.must = true then [st.key] else [])
  mu : st.must = true → singletonS st.key = true ∧ hasT (st.T.exts.map (·.1)) st.key = false ∧ st.stage = 5
  kx : st.must = false → st.key.size ≠ 0 → st.T.exts ≠ []
  k5 : st.key.size ≠ 0 → st.stage = 5
  ls : l = oneT st.T.lang ++ st.T.extl ++ oneT st.T.script ++ oneT st.T.region ++ st.T.vars ++ st.T.exts.flatMap extT ++ (if st.must = true then [st.key] else [])
theorem RunP.whole {st : PSt} {l : List ByteArray} (h : RunP st l) : WholeP st.T := ⟨by rw [h.g]; rfl, h.lg, h.e, h.en, h.el, h.s, h.r, h.v, h.vn, h.x, h.xn, fun p hp => by rw [h.p] at hp; cases hp⟩
theorem oneT_empty : oneT ByteArray.empty = [] := rfl
theorem oneT_some {p : ByteArray} (h : p.size ≠ 0) : oneT p = [p] := by unfold oneT; rw [if_neg h]
theorem snoc_no {l : List ByteArray} {p : ByteArray} (h : ∀ (i : Nat) q, l[i]? = some q → hasT (l.take i) q = false) (hp : hasT l p = false) : ∀ (i : Nat) q, (l ++ [p])[i]? = some q → hasT ((l ++ [p]).take i) q = false := by
  intro i q hq
  rcases Nat.lt_trichotomy i l.length with hi | hi | hi
  · rw [List.getElem?_append_left hi] at hq
    rw [List.take_append_of_le_length (Nat.le_of_lt hi)]
    exact h i q hq
  · subst hi
    simp at hq
    subst hq
    simpa using hp
  · rw [List.getElem?_eq_none (by simp; omega)] at hq
    cases hq
theorem RunP.later {st : PSt} {l : List ByteArray} (h : RunP st l) (n : Nat) : RunP { st with last := n } l := ⟨h.lo, h.hi, h.g, h.p, h.lg, h.e, h.en, h.el, h.e1, h.s, h.s0, h.r, h.r0, h.v, h.vn, h.v0, h.x, h.xn, h.x0, h.seen, h.mu, h.kx, h.k5, h.ls⟩
theorem RunP.nomust {st : PSt} {l : List ByteArray} (h : RunP st l) (h4 : st.stage ≤ 4) : st.must = false ∧ ¬ st.key.size ≠ 0 := by
  constructor
  · cases hm : st.must with
    | false => rfl
    | true => have := (h.mu hm).2.2; omega
  · intro hk
    have := h.k5 hk
    omega
theorem RunP.extl {st : PSt} {l : List ByteArray} (h : RunP st l) {p : ByteArray} (h1 : st.stage ≤ 1) (hp : extlangS p = true) (hn : st.T.extl.length ≠ 3) : RunP { st with T := { st.T with extl := st.T.extl ++ [p] } } (l ++ [p]) := by
  obtain ⟨hm, hk⟩ := h.nomust (by omega)
  have hs1 : st.stage = 1 := by have := h.lo; omega
  refine ⟨h.lo, h.hi, h.g, h.p, h.lg, fun q hq => ?_, by have := h.en; simp; omega, fun _ => h.e1 hs1, h.e1, h.s, h.s0, h.r, h.r0, h.v, h.vn, h.v0, h.x, h.xn, h.x0, h.seen, h.mu, h.kx, h.k5, ?_⟩
  · rcases List.mem_append.1 hq with hq | hq
    · exact h.e q hq
    · rw [List.mem_singleton.1 hq]; exact hp
  · rw [h.ls]
    dsimp only
    rw [h.s0 (by omega), h.r0 (by omega), h.v0 (by omega), h.x0 (by omega), hm]
    simp [oneT_empty]
theorem RunP.script {st : PSt} {l : List ByteArray} (h : RunP st l) {p : ByteArray} (h2 : st.stage ≤ 2) (hp : scriptS p = true) : RunP { st with T := { st.T with script := p }, stage := 3 } (l ++ [p]) := by
  obtain ⟨hm, hk⟩ := h.nomust (by omega)
  have hz := scr_size hp
  refine ⟨by simp, by simp, h.g, h.p, h.lg, h.e, h.en, h.el, fun e => by simp at e, .inr hp, fun e => by simp at e, h.r, fun _ => h.r0 (by omega), h.v, h.vn, fun _ => h.v0 (by omega), h.x, h.xn, fun _ => h.x0 (by omega), h.seen, fun e => by simp [hm] at e, h.kx, fun e => absurd e hk, ?_⟩
  rw [h.ls]
  dsimp only
  rw [h.s0 (by omega), h.r0 (by omega), h.v0 (by omega), h.x0 (by omega), hm, oneT_some (p := p) (by omega)]
  simp [oneT_empty]
theorem RunP.region {st : PSt} {l : List ByteArray} (h : RunP st l) {p : ByteArray} (h2 : st.stage ≤ 3) (hp : regionS p = true) : RunP { st with T := { st.T with region := p }, stage := 4 } (l ++ [p]) := by
  obtain ⟨hm, hk⟩ := h.nomust (by omega)
  have hz := reg_size hp
  refine ⟨by simp, by simp, h.g, h.p, h.lg, h.e, h.en, h.el, fun e => by simp at e, h.s, fun e => by simp at e, .inr hp, fun e => by simp at e, h.v, h.vn, fun e => by simp at e, h.x, h.xn, fun _ => h.x0 (by omega), h.seen, fun e => by simp [hm] at e, h.kx, fun e => absurd e hk, ?_⟩
  rw [h.ls]
  dsimp only
  rw [h.r0 (by omega), h.v0 (by omega), h.x0 (by omega), hm, oneT_some (p := p) (by omega)]
  simp [oneT_empty]
theorem RunP.variant {st : PSt} {l : List ByteArray} (h : RunP st l) {p : ByteArray} (h4 : st.stage ≤ 4) (hp : variantS p = true) (hn : hasT st.seen p = false) : RunP { st with T := { st.T with vars := st.T.vars ++ [p] }, stage := 4, seen := st.seen ++ [p] } (l ++ [p]) := by
  obtain ⟨hm, hk⟩ := h.nomust h4
  have hse : st.seen = st.T.vars := by rw [h.seen, h.x0 h4, hm]; simp
  refine ⟨by simp, by simp, h.g, h.p, h.lg, h.e, h.en, h.el, fun e => by simp at e, h.s, fun e => by simp at e, h.r, fun e => by simp at e, fun q hq => ?_, snoc_no h.vn (by rw [← hse]; exact hn), fun e => by simp at e, h.x, h.xn, fun _ => h.x0 h4, ?_, fun e => by simp [hm] at e, h.kx, fun e => absurd e hk, ?_⟩
  · rcases List.mem_append.1 hq with hq | hq
    · exact h.v q hq
    · rw [List.mem_singleton.1 hq]; exact hp
  · dsimp only
    rw [hse, h.x0 h4, hm]
    simp
  · rw [h.ls]
    dsimp only
    rw [h.x0 h4, hm]
    simp
theorem RunP.one {st : PSt} {l : List ByteArray} (h : RunP st l) {p : ByteArray} (hm : st.must = false) (hp : singletonS p = true) (hn : hasT st.seen p = false) : RunP { st with key := p, must := true, stage := 5, seen := st.seen ++ [p] } (l ++ [p]) := by
  have hse : st.seen = st.T.vars ++ st.T.exts.map (·.1) := by rw [h.seen, hm]; simp
  have hn' := hn
  rw [hse, hasT_app, Bool.or_eq_false_iff] at hn'
  refine ⟨by simp, by simp, h.g, h.p, h.lg, h.e, h.en, h.el, fun e => by simp at e, h.s, fun e => by simp at e, h.r, fun e => by simp at e, h.v, h.vn, fun e => by simp at e, h.x, h.xn, fun e => by simp at e, ?_, fun _ => ⟨hp, hn'.2, rfl⟩, fun e => by simp at e, fun _ => rfl, ?_⟩
  · dsimp only
    rw [hse]
    simp
  · rw [h.ls]
    dsimp only
    rw [hm]
    simp
theorem xn_map {l : List (ByteArray × List ByteArray)} : (∀ (i : Nat) e, l[i]? = some e → hasT ((l.take i).map (·.1)) e.1 = false) ↔ (∀ (i : Nat) q, (l.map (·.1))[i]? = some q → hasT ((l.map (·.1)).take i) q = false) := by
  constructor
  · intro h i q hq
    rw [List.getElem?_map] at hq
    cases he : l[i]? with
    | none => rw [he] at hq; cases hq
    | some e =>
      rw [he] at hq
      cases hq
      rw [← List.map_take]
      exact h i e he
  · intro h i e he
    rw [List.map_take]
    exact h i e.1 (by rw [List.getElem?_map, he]; rfl)
theorem RunP.extend {st : PSt} {l : List ByteArray} (h : RunP st l) {p : ByteArray} (hk : st.key.size ≠ 0) (hz : 2 ≤ p.size) (hp : okS p = true) : RunP (extendP st p) (l ++ [p]) := by
  have h5 := h.k5 hk
  unfold extendP
  cases hm : st.must with
  | true =>
    obtain ⟨q1, q2, _⟩ := h.mu hm
    rw [if_pos rfl]
    refine ⟨h.lo, h.hi, h.g, h.p, h.lg, h.e, h.en, h.el, h.e1, h.s, h.s0, h.r, h.r0, h.v, h.vn, h.v0, fun e he => ?_, ?_, fun e => absurd e (by dsimp only; omega), ?_, fun e => by simp at e, fun _ _ => by simp, h.k5, ?_⟩
    · rcases List.mem_append.1 he with he | he
      · exact h.x e he
      · rw [List.mem_singleton.1 he]
        exact ⟨q1, by simp, fun q hq => by rw [List.mem_singleton.1 hq]; exact ⟨hz, hp⟩⟩
    · rw [xn_map]
      simp only [List.map_append, List.map_cons, List.map_nil]
      exact snoc_no (xn_map.1 h.xn) q2
    · dsimp only
      rw [h.seen, hm]
      simp
    · rw [h.ls]
      dsimp only
      rw [hm]
      simp [extT]
  | false =>
    rw [if_neg (by simp)]
    have hne := h.kx hm hk
    have hsp := List.dropLast_concat_getLast hne
    generalize st.T.exts.dropLast = a at hsp
    generalize st.T.exts.getLast hne = b at hsp
    have hx := h.x
    have hxn := xn_map.1 h.xn
    have hse := h.seen
    have hls := h.ls
    rw [hm] at hse hls
    rw [← hsp] at hx hxn hse hls
    rw [← hsp, addSub_snoc]
    refine ⟨h.lo, h.hi, h.g, h.p, h.lg, h.e, h.en, h.el, h.e1, h.s, h.s0, h.r, h.r0, h.v, h.vn, h.v0, fun e he => ?_, ?_, fun e => absurd e (by dsimp only; omega), ?_, fun e => by simp at e, fun _ _ => by simp, h.k5, ?_⟩
    · rcases List.mem_append.1 he with he | he
      · exact hx e (List.mem_append_left _ he)
      · obtain ⟨r1, r2, r3⟩ := hx b (by simp)
        rw [List.mem_singleton.1 he]
        refine ⟨r1, by simp, fun q hq => ?_⟩
        rcases List.mem_append.1 hq with hq | hq
        · exact r3 q hq
        · rw [List.mem_singleton.1 hq]; exact ⟨hz, hp⟩
    · rw [xn_map]
      simpa using hxn
    · dsimp only
      rw [hse]
      simp
    · rw [hls]
      dsimp only
      simp [extT]
theorem RunP.start {p : ByteArray} (hp : languageS p = true) : RunP { pSt0 with T := { pSt0.T with lang := p }, stage := if p.size ≤ 3 then 1 else 2 } [p] := by
  have hz := lang_size hp
  have hst : (if p.size ≤ 3 then 1 else 2) = 1 ∨ (if p.size ≤ 3 then 1 else 2) = 2 := by split <;> simp
  refine ⟨by dsimp only; omega, by dsimp only; omega, rfl, rfl, hp, fun q hq => by simp [pSt0, pNo] at hq, by simp [pSt0, pNo], fun e => by simp [pSt0, pNo] at e, fun e => ?_, .inl rfl, fun _ => rfl, .inl rfl, fun _ => rfl, fun q hq => by simp [pSt0, pNo] at hq, fun i q hq => by simp [pSt0, pNo] at hq, fun _ => rfl, fun q hq => by simp [pSt0, pNo] at hq, fun i q hq => by simp [pSt0, pNo] at hq, fun _ => rfl, rfl, fun e => by simp [pSt0] at e, fun _ e => absurd rfl e, fun e => absurd rfl e, ?_⟩
  · dsimp only at e ⊢
    by_cases hq : p.size ≤ 3
    · exact hq
    · rw [if_neg hq] at e; cases e
  · dsimp only
    rw [oneT_some (p := p) (by omega)]
    rfl
/-- A tag, and what is private behind it. -/
def withP (b : TagM) (ps : List ByteArray) : TagM := { b with priv := ps }
/-- Behind an x. -/
def PrivP (st : PSt) (l : List ByteArray) : Prop :=
  ∃ b ps, (WholeP b ∨ b = pNo) ∧ b.priv = [] ∧ st.T = withP b ps ∧ (∀ p ∈ ps, okS p = true) ∧ l = subtagsT b ++ sX :: ps ∧ st.stage = 6 ∧ (st.must = false → ps ≠ [])
theorem RunP.subs {st : PSt} {l : List ByteArray} (h : RunP st l) (hm : st.must = false) : l = subtagsT st.T := by
  have hg : st.T.grand.size = 0 := by rw [h.g]; rfl
  rw [h.ls, hm]
  unfold subtagsT
  rw [if_pos hg, h.p]
  rfl
theorem RunP.private {st : PSt} {l : List ByteArray} (h : RunP st l) (hm : st.must = false) : PrivP { st with must := true, stage := 6 } (l ++ [sX]) := by
  refine ⟨st.T, [], .inl h.whole, h.p, ?_, fun q hq => (by cases hq), ?_, rfl, fun e => (by cases e)⟩
  · unfold withP
    rw [← h.p]
  · rw [h.subs hm]
theorem PrivP.start : PrivP { pSt0 with must := true, stage := 6 } [sX] := ⟨pNo, [], .inr rfl, rfl, rfl, fun q hq => (by cases hq), rfl, rfl, fun e => (by cases e)⟩
theorem PrivP.push {st : PSt} {l : List ByteArray} (h : PrivP st l) {p : ByteArray} (hp : okS p = true) : PrivP { st with T := { st.T with priv := st.T.priv ++ [p] }, must := false } (l ++ [p]) := by
  obtain ⟨b, ps, h1, h2, h3, h4, h5, h6, h7⟩ := h
  refine ⟨b, ps ++ [p], h1, h2, ?_, fun q hq => ?_, ?_, h6, fun _ => by simp⟩
  · dsimp only
    rw [h3]
    rfl
  · rcases List.mem_append.1 hq with hq | hq
    · exact h4 q hq
    · rw [List.mem_singleton.1 hq]; exact hp
  · rw [h5]; simp
theorem PrivP.later {st : PSt} {l : List ByteArray} (h : PrivP st l) (n : Nat) : PrivP { st with last := n } l := h
/-- At each place: before all, behind a language, behind an x. -/
def AtP (st : PSt) (l : List ByteArray) : Prop := (st = pSt0 ∧ l = []) ∨ (RunP st l ∨ PrivP st l)
theorem further_step {st st' : PSt} {l : List ByteArray} {a : Nat} {p : ByteArray} (h : RunP st l) (ht : furtherP st a p = .ok st') : RunP st' (l ++ [p]) ∨ PrivP st' (l ++ [p]) := by
  unfold furtherP at ht
  split at ht
  · rename_i hc; cases ht; exact .inl (h.extl hc.1 hc.2.1 hc.2.2)
  split at ht
  · rename_i hc; cases ht; exact .inl (h.script hc.1 hc.2)
  split at ht
  · rename_i hc; cases ht; exact .inl (h.region hc.1 hc.2)
  split at ht
  · rename_i hc
    split at ht
    · cases ht
    · rename_i hn; cases ht; exact .inl (h.variant hc.1 hc.2 (by simpa using hn))
  split at ht
  · rename_i hc; cases ht; exact .inl (h.extend hc.1 hc.2.1 hc.2.2)
  split at ht
  · rename_i hc
    split at ht
    · cases ht
    · rename_i hn; cases ht; exact .inl (h.one hc.1 hc.2 (by simpa using hn))
  split at ht
  · rename_i hc
    cases ht
    rw [hc.2]
    exact .inr (h.private hc.1)
  · cases ht
theorem take_step {st st' : PSt} {l : List ByteArray} {a : Nat} {p : ByteArray} (h : AtP st l) (ht : takeP st a p = .ok st') : RunP st' (l ++ [p]) ∨ PrivP st' (l ++ [p]) := by
  unfold takeP at ht
  rcases h with ⟨h1, h2⟩ | h | h
  · subst h1
    subst h2
    rw [if_pos (show pSt0.stage = 0 from rfl)] at ht
    split at ht
    · rename_i hc; cases ht; rw [hc]; exact .inr PrivP.start
    split at ht
    · rename_i hc; cases ht; exact .inl (RunP.start hc)
    · cases ht
  · have h1 := h.lo
    have h2 := h.hi
    rw [if_neg (by omega), if_neg (by omega)] at ht
    exact further_step h ht
  · obtain ⟨b, ps, q1, q2, q3, q4, q5, q6, q7⟩ := id h
    rw [if_neg (by omega), if_pos q6] at ht
    split at ht
    · rename_i hc; cases ht; exact .inr (h.push hc)
    · cases ht
theorem end_step {st : PSt} {l : List ByteArray} (a n : Nat) (h : RunP st l ∨ PrivP st l) : AtP (endP st a n) l := by
  unfold endP
  split
  · exact .inr h
  · rcases h with h | h
    · exact .inr (.inl (h.later _))
    · exact .inr (.inr (h.later _))
theorem run_step : ∀ (xs : List (Nat × ByteArray)) (st st' : PSt) (l : List ByteArray), AtP st l → runP xs st = (st', none) → AtP st' (l ++ lowsOf xs)
  | [], st, st', l, h, hr => by
    cases hr
    simpa [lowsOf] using h
  | x :: r, st, st', l, h, hr => by
    rw [runP] at hr
    cases ht : takeP st x.1 (lowS x.2) with
    | error e => rw [ht] at hr; cases hr
    | ok s2 =>
      rw [ht] at hr
      have := run_step r _ st' _ (end_step x.1 x.2.size (take_step h ht)) hr
      simpa [lowsOf] using this
theorem ok_one {p : ByteArray} (h : okS p = true) : 1 ≤ p.size := by
  rcases Nat.eq_zero_or_pos p.size with h0 | h0
  · rw [empty_of_size h0] at h
    exact absurd h (by decide)
  · exact h0
theorem eachN_all {α : Type} {p : List α → α → Bool} {l : List α} {n : Nat} (h : ∀ (i : Nat) x, l[i]? = some x → p (l.take i) x = true) : eachN p l n = true := by
  unfold eachN
  rw [List.all_eq_true]
  intro i _
  cases hx : l[i]? with
  | none => rfl
  | some x => exact h i x hx
theorem has_pre {l : List ByteArray} {x : ByteArray} (h : hasT l x = false) : (l.all fun y => decide (y ≠ x)) = true := by
  have := diffT_has l x
  unfold diffT at this
  rw [this, h]
  rfl
theorem of_whole {T : TagM} (h : WholeP T) (hf : findV (joinS (subtagsT T)) = none) : wholeT T = true := by
  unfold wholeT rowsT
  simp only [Bool.and_eq_true, Bool.or_eq_true, decide_eq_true_eq]
  refine ⟨⟨h.l, h.s, h.r, eachN_all fun i x hx => ?_, eachN_all fun i x hx => ?_, ?_⟩, ⟨h.en, ?_⟩, List.all_eq_true.2 h.e, by rw [hf]; rfl⟩
  · unfold pV
    rw [Bool.and_eq_true]
    exact ⟨h.v x (List.mem_of_getElem? hx), has_pre (h.vn i x hx)⟩
  · obtain ⟨q1, q2, q3⟩ := h.x x (List.mem_of_getElem? hx)
    unfold pE keyT subsT
    simp only [Bool.and_eq_true, decide_eq_true_eq]
    refine ⟨⟨q1, ?_⟩, List.all_eq_true.2 fun p hp => ?_, fun e => q2 (List.eq_nil_of_length_eq_zero e)⟩
    · have := has_pre (h.xn i x hx)
      rw [List.all_map] at this
      exact this
    · simp only [Bool.and_eq_true, decide_eq_true_eq]
      exact ⟨(q3 p hp).2, (q3 p hp).1⟩
  · unfold subsT
    refine List.all_eq_true.2 fun p hp => ?_
    simp only [Bool.and_eq_true, decide_eq_true_eq]
    exact ⟨h.p p hp, ok_one (h.p p hp)⟩
  · cases hl : T.extl with
    | nil => rfl
    | cons a r =>
      have := h.el (by rw [hl]; simp)
      simp
      omega
theorem whole_with {b : TagM} (h : WholeP b) (ps : List ByteArray) (hp : ∀ p ∈ ps, okS p = true) : WholeP (withP b ps) := ⟨h.g, h.l, h.e, h.en, h.el, h.s, h.r, h.v, h.vn, h.x, h.xn, hp⟩
theorem subs_with {b : TagM} (hg : b.grand.size = 0) (hb : b.priv = []) {ps : List ByteArray} (hne : ps ≠ []) : subtagsT (withP b ps) = subtagsT b ++ sX :: ps := by
  have h1 : privT ps = sX :: ps := by unfold privT; rw [if_neg (fun e => hne (List.eq_nil_of_length_eq_zero e))]; rfl
  unfold subtagsT withP
  rw [if_pos hg, if_pos hg, hb]
  dsimp only
  rw [h1, show privT [] = [] from rfl, List.append_nil]
theorem lows_pieces (s : ByteArray) : lowsOf (pieces s) = splS (lowS s) := by
  rw [← pieces_map, pieces_low, List.map_map]
  rfl
theorem low_lows (s : ByteArray) : lowT (splS (lowS s)) = true := by
  rw [← lows_pieces]
  unfold lowT lowsOf
  rw [List.all_eq_true]
  intro x hx
  obtain ⟨y, _, rfl⟩ := List.mem_map.1 hx
  simp [low_lowS]
/-- What is in small letters where its subtags are. -/
theorem small_of {T : TagM} {s : ByteArray} (hg : T.grand.size = 0) (h : subtagsT T = splS (lowS s)) : smallT T = true := by
  have hl : lowT (splS (lowS s)) = true := low_lows s
  unfold smallT
  rw [Bool.and_eq_true]
  refine ⟨?_, by rw [empty_of_size hg]; decide⟩
  rw [← h] at hl
  unfold lowT at hl ⊢
  rw [List.all_append, hl, Bool.true_and]
  have key : ∀ p, (p.size ≠ 0 → p ∈ subtagsT T) → decide (p = lowS p) = true := fun p hp => by
    by_cases hz : p.size = 0
    · rw [empty_of_size hz]; decide
    · exact List.all_eq_true.1 hl p (hp hz)
  have hm : ∀ p, p.size ≠ 0 → p ∈ oneT p := fun p hp => by unfold oneT; rw [if_neg hp]; simp
  have hs : subtagsT T = oneT T.lang ++ T.extl ++ oneT T.script ++ oneT T.region ++ T.vars ++ T.exts.flatMap extT ++ privT T.priv := by unfold subtagsT; rw [if_pos hg]
  refine List.all_eq_true.2 fun p hp => key p fun hz => ?_
  have := hm p hz
  rw [hs]
  simp only [List.mem_cons, List.mem_nil_iff, or_false] at hp
  simp only [List.mem_append]
  rcases hp with rfl | rfl | rfl <;> simp [this]
/-- P7.3, the other way: what is parsed is right, and its subtags are the text's pieces. -/
theorem parsed_right (s : ByteArray) (T : TagM) (h : parseS s = (T, none)) : rightT T = true ∧ subtagsT T = splS (lowS s) := by
  unfold parseS at h
  split at h
  · rename_i hf
    cases h
    have hz : (lowS s).size ≠ 0 := fun e => by
      rw [← findV_low, empty_of_size e] at hf
      exact absurd hf (by decide +kernel)
    have hs : subtagsT { pNo with grand := lowS s } = splS (lowS s) := by unfold subtagsT; rw [if_neg hz]
    refine ⟨?_, hs⟩
    unfold rightT smallT
    rw [hs, if_neg hz, Bool.and_eq_true, Bool.and_eq_true, Bool.and_eq_true, Bool.and_eq_true]
    refine ⟨⟨?_, by simp [low_lowS]⟩, rfl, rfl, by dsimp only; rw [findV_low]; exact hf⟩
    have hl : lowT (splS (lowS s)) = true := low_lows s
    unfold lowT at hl ⊢
    rw [List.all_append, hl, Bool.true_and]
    show ([ByteArray.empty, ByteArray.empty, ByteArray.empty].all fun x => decide (x = lowS x)) = true
    decide
  · rename_i hf
    have hfn : findV s = none := by simpa using hf
    unfold readS at h
    cases hr : runP (pieces s) pSt0 with
    | mk st o =>
      rw [hr] at h
      cases o with
      | some e => cases h
      | none =>
        unfold finP at h
        cases hm : st.must with
        | true => simp only [hm, if_true] at h; cases h
        | false =>
          simp only [hm] at h
          cases h
          have hA := run_step _ _ _ _ (.inl ⟨rfl, rfl⟩) hr
          rw [List.nil_append, lows_pieces] at hA
          have hj : joinS (splS (lowS s)) = lowS s := join_split _
          rcases hA with ⟨h1, h2⟩ | hR | hP
          · have h4 : 0 < (splS (lowS s)).length := by unfold splS; rw [List.length_map]; exact List.length_pos_iff.2 (spl_ne _)
            rw [h2] at h4
            exact absurd h4 (by simp)
          · have hs := (hR.subs hm).symm
            have hw := hR.whole
            refine ⟨?_, hs⟩
            have hl := lang_size hw.l
            unfold rightT
            rw [small_of hw.g hs, if_pos hw.g, if_neg (by omega), of_whole hw (by rw [hs, hj, findV_low]; exact hfn)]
            rfl
          · obtain ⟨b, ps, q1, q2, q3, q4, q5, q6, q7⟩ := hP
            have hne := q7 hm
            rw [q3]
            rcases q1 with q1 | q1
            · have hw := whole_with q1 ps q4
              have hs := subs_with q1.g q2 hne
              rw [← q5] at hs
              refine ⟨?_, hs⟩
              have hl := lang_size hw.l
              unfold rightT
              rw [small_of hw.g hs, if_pos hw.g, if_neg (by omega), of_whole hw (by rw [hs, hj, findV_low]; exact hfn)]
              rfl
            · subst q1
              have hs := subs_with (b := pNo) rfl rfl hne
              rw [← q5] at hs
              refine ⟨?_, hs⟩
              unfold rightT
              rw [small_of rfl hs, if_pos (show (withP pNo ps).grand.size = 0 from rfl), if_pos (show (withP pNo ps).lang.size = 0 from rfl)]
              rw [Bool.true_and, Bool.and_eq_true, Bool.and_eq_true]
              refine ⟨rfl, decide_eq_true (List.length_pos_iff.2 hne), List.all_eq_true.2 fun p hp => ?_⟩
              rw [Bool.and_eq_true]
              exact ⟨q4 p hp, decide_eq_true (ok_one (q4 p hp))⟩
/-- P7.3, both ways: a tag that is parsed comes back of its own text. -/
theorem parsed_back (s : ByteArray) (T : TagM) (h : parseS s = (T, none)) : parseS (joinS (subtagsT T)) = (T, none) ∧ joinS (subtagsT T) = lowS s := by
  obtain ⟨h1, h2⟩ := parsed_right s T h
  exact ⟨parse_right T h1, by rw [h2, join_split]⟩
end Go.Proofs.YtggfdmhfcpabdaaGreatDoor
