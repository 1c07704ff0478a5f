/-
  Package parse: what is parsed is right (the mathematics).
-/
import Derived.Test.YtpnhjpplfjamkaaPRight
namespace Go.Proofs.Ytpnhjpplfjamkaa
open Go Go.RowKit

/-- Behind a language, ahead of x: what is read so far. -/
structure RunP (st : PSt) (l : List ByteArray) : Prop where
  lo : 1 ≤ st.stage
  hi : st.stage ≤ 5
  g : st.T.grand = ByteArray.empty
  p : st.T.priv = []
  lg : languageS st.T.lang = true
  e : ∀ p ∈ st.T.extl, extlangS p = true
  en : st.T.extl.length ≤ 3
  el : st.T.extl ≠ [] → st.T.lang.size ≤ 3
  e1 : st.stage = 1 → st.T.lang.size ≤ 3
  s : st.T.script.size = 0 ∨ scriptS st.T.script = true
  s0 : st.stage ≤ 2 → st.T.script = ByteArray.empty
  r : st.T.region.size = 0 ∨ regionS st.T.region = true
  r0 : st.stage ≤ 3 → st.T.region = ByteArray.empty
  v : ∀ p ∈ st.T.vars, variantS p = true
  vn : ∀ (i : Nat) p, st.T.vars[i]? = some p → hasT (st.T.vars.take i) p = false
  v0 : st.stage ≤ 3 → st.T.vars = []
  x : ∀ e ∈ st.T.exts, singletonS e.1 = true ∧ e.2 ≠ [] ∧ ∀ p ∈ e.2, 2 ≤ p.size ∧ okS p = true
  xn : ∀ (i : Nat) e, st.T.exts[i]? = some e → hasT ((st.T.exts.take i).map (·.1)) e.1 = false
  x0 : st.stage ≤ 4 → st.T.exts = []
  seen : st.seen = st.T.vars ++ st.T.exts.map (·.1) ++ (if st.must = true then [st.key] else [])
  mu : st.must = true → singletonS st.key = true ∧ hasT (st.T.exts.map (·.1)) st.key = false ∧ st.stage = 5
  kx : st.must = false → st.key.size ≠ 0 → st.T.exts ≠ []
  k5 : st.key.size ≠ 0 → st.stage = 5
  ls : l = oneT st.T.lang ++ st.T.extl ++ oneT st.T.script ++ oneT st.T.region ++ st.T.vars ++ st.T.exts.flatMap extT ++ (if st.must = true then [st.key] else [])
theorem RunP.whole {st : PSt} {l : List ByteArray} (h : RunP st l) : WholeP st.T := ⟨by rw [h.g]; rfl, h.lg, h.e, h.en, h.el, h.s, h.r, h.v, h.vn, h.x, h.xn, fun p hp => by rw [h.p] at hp; cases hp⟩
theorem oneT_empty : oneT ByteArray.empty = [] := rfl
theorem oneT_some {p : ByteArray} (h : p.size ≠ 0) : oneT p = [p] := by unfold oneT; rw [if_neg h]
theorem snoc_no {l : List ByteArray} {p : ByteArray} (h : ∀ (i : Nat) q, l[i]? = some q → hasT (l.take i) q = false) (hp : hasT l p = false) : ∀ (i : Nat) q, (l ++ [p])[i]? = some q → hasT ((l ++ [p]).take i) q = false := by
  intro i q hq
  rcases Nat.lt_trichotomy i l.length with hi | hi | hi
  · rw [List.getElem?_append_left hi] at hq
    rw [List.take_append_of_le_length (Nat.le_of_lt hi)]
    exact h i q hq
  · subst hi
    simp at hq
    subst hq
    simpa using hp
  · rw [List.getElem?_eq_none (by simp; omega)] at hq
    cases hq
theorem RunP.nomust {st : PSt} {l : List ByteArray} (h : RunP st l) (h4 : st.stage ≤ 4) : st.must = false ∧ ¬ st.key.size ≠ 0 := by
  constructor
  · cases hm : st.must with
    | false => rfl
    | true => have := (h.mu hm).2.2; omega
  · intro hk
    have := h.k5 hk
    omega
theorem RunP.extl {st : PSt} {l : List ByteArray} (h : RunP st l) {p : ByteArray} (h1 : st.stage ≤ 1) (hp : extlangS p = true) (hn : st.T.extl.length ≠ 3) : RunP { st with T := { st.T with extl := st.T.extl ++ [p] } } (l ++ [p]) := by
  obtain ⟨hm, hk⟩ := h.nomust (by omega)
  have hs1 : st.stage = 1 := by have := h.lo; omega
  refine ⟨h.lo, h.hi, h.g, h.p, h.lg, fun q hq => ?_, by have := h.en; simp; omega, fun _ => h.e1 hs1, h.e1, h.s, h.s0, h.r, h.r0, h.v, h.vn, h.v0, h.x, h.xn, h.x0, h.seen, h.mu, h.kx, h.k5, ?_⟩
  · rcases List.mem_append.1 hq with hq | hq
    · exact h.e q hq
    · rw [List.mem_singleton.1 hq]; exact hp
  · rw [h.ls]
    dsimp only
    rw [h.s0 (by omega), h.r0 (by omega), h.v0 (by omega), h.x0 (by omega), hm]
    simp [oneT_empty]
theorem RunP.script {st : PSt} {l : List ByteArray} (h : RunP st l) {p : ByteArray} (h2 : st.stage ≤ 2) (hp : scriptS p = true) : RunP { st with T := { st.T with script := p }, stage := 3 } (l ++ [p]) := by
  obtain ⟨hm, hk⟩ := h.nomust (by omega)
  have hz := scr_size hp
  refine ⟨by simp, by simp, h.g, h.p, h.lg, h.e, h.en, h.el, fun e => by simp at e, .inr hp, fun e => by simp at e, h.r, fun _ => h.r0 (by omega), h.v, h.vn, fun _ => h.v0 (by omega), h.x, h.xn, fun _ => h.x0 (by omega), h.seen, fun e => by simp [hm] at e, h.kx, fun e => absurd e hk, ?_⟩
  rw [h.ls]
  dsimp only
  rw [h.s0 (by omega), h.r0 (by omega), h.v0 (by omega), h.x0 (by omega), hm, oneT_some (p := p) (by omega)]
  simp [oneT_empty]
theorem RunP.region {st : PSt} {l : List ByteArray} (h : RunP st l) {p : ByteArray} (h2 : st.stage ≤ 3) (hp : regionS p = true) : RunP { st with T := { st.T with region := p }, stage := 4 } (l ++ [p]) := by
  obtain ⟨hm, hk⟩ := h.nomust (by omega)
  have hz := reg_size hp
  refine ⟨by simp, by simp, h.g, h.p, h.lg, h.e, h.en, h.el, fun e => by simp at e, h.s, fun e => by simp at e, .inr hp, fun e => by simp at e, h.v, h.vn, fun e => by simp at e, h.x, h.xn, fun _ => h.x0 (by omega), h.seen, fun e => by simp [hm] at e, h.kx, fun e => absurd e hk, ?_⟩
  rw [h.ls]
  dsimp only
  rw [h.r0 (by omega), h.v0 (by omega), h.x0 (by omega), hm, oneT_some (p := p) (by omega)]
  simp [oneT_empty]
theorem RunP.one {st : PSt} {l : List ByteArray} (h : RunP st l) {p : ByteArray} (hm : st.must = false) (hp : singletonS p = true) (hn : hasT st.seen p = false) : RunP { st with key := p, must := true, stage := 5, seen := st.seen ++ [p] } (l ++ [p]) := by
  have hse : st.seen = st.T.vars ++ st.T.exts.map (·.1) := by rw [h.seen, hm]; simp
  have hn' := hn
  rw [hse, hasT_app, Bool.or_eq_false_iff] at hn'
  refine ⟨by simp, by simp, h.g, h.p, h.lg, h.e, h.en, h.el, fun e => by simp at e, h.s, fun e => by simp at e, h.r, fun e => by simp at e, h.v, h.vn, fun e => by simp at e, h.x, h.xn, fun e => by simp at e, ?_, fun _ => ⟨hp, hn'.2, rfl⟩, fun e => by simp at e, fun _ => rfl, ?_⟩
  · dsimp only
    rw [hse]
    simp
  · rw [h.ls]
    dsimp only
    rw [hm]
    simp
theorem xn_map {l : List (ByteArray × List ByteArray)} : (∀ (i : Nat) e, l[i]? = some e → hasT ((l.take i).map (·.1)) e.1 = false) ↔ (∀ (i : Nat) q, (l.map (·.1))[i]? = some q → hasT ((l.map (·.1)).take i) q = false) := by
  constructor
  · intro h i q hq
    rw [List.getElem?_map] at hq
    cases he : l[i]? with
    | none => rw [he] at hq; cases hq
    | some e =>
      rw [he] at hq
      cases hq
      rw [← List.map_take]
      exact h i e he
  · intro h i e he
    rw [List.map_take]
    exact h i e.1 (by rw [List.getElem?_map, he]; rfl)
theorem RunP.extend {st : PSt} {l : List ByteArray} (h : RunP st l) {p : ByteArray} (hk : st.key.size ≠ 0) (hz : 2 ≤ p.size) (hp : okS p = true) : RunP (extendP st p) (l ++ [p]) := by
  have h5 := h.k5 hk
  unfold extendP
  cases hm : st.must with
  | true =>
    obtain ⟨q1, q2, _⟩ := h.mu hm
    rw [if_pos rfl]
    refine ⟨h.lo, h.hi, h.g, h.p, h.lg, h.e, h.en, h.el, h.e1, h.s, h.s0, h.r, h.r0, h.v, h.vn, h.v0, fun e he => ?_, ?_, fun e => absurd e (by dsimp only; omega), ?_, fun e => by simp at e, fun _ _ => by simp, h.k5, ?_⟩
    · rcases List.mem_append.1 he with he | he
      · exact h.x e he
      · rw [List.mem_singleton.1 he]
        exact ⟨q1, by simp, fun q hq => by rw [List.mem_singleton.1 hq]; exact ⟨hz, hp⟩⟩
    · rw [xn_map]
      simp only [List.map_append, List.map_cons, List.map_nil]
      exact snoc_no (xn_map.1 h.xn) q2
    · dsimp only
      rw [h.seen, hm]
      simp
    · rw [h.ls]
      dsimp only
      rw [hm]
      simp [extT]
  | false =>
    rw [if_neg (by simp)]
    have hne := h.kx hm hk
    have hsp := List.dropLast_concat_getLast hne
    generalize st.T.exts.dropLast = a at hsp
    generalize st.T.exts.getLast hne = b at hsp
    have hx := h.x
    have hxn := xn_map.1 h.xn
    have hse := h.seen
    have hls := h.ls
    rw [hm] at hse hls
    rw [← hsp] at hx hxn hse hls
    rw [← hsp, addSub_snoc]
    refine ⟨h.lo, h.hi, h.g, h.p, h.lg, h.e, h.en, h.el, h.e1, h.s, h.s0, h.r, h.r0, h.v, h.vn, h.v0, fun e he => ?_, ?_, fun e => absurd e (by dsimp only; omega), ?_, fun e => by simp at e, fun _ _ => by simp, h.k5, ?_⟩
    · rcases List.mem_append.1 he with he | he
      · exact hx e (List.mem_append_left _ he)
      · obtain ⟨r1, r2, r3⟩ := hx b (by simp)
        rw [List.mem_singleton.1 he]
        refine ⟨r1, by simp, fun q hq => ?_⟩
        rcases List.mem_append.1 hq with hq | hq
        · exact r3 q hq
        · rw [List.mem_singleton.1 hq]; exact ⟨hz, hp⟩
    · rw [xn_map]
      simpa using hxn
    · dsimp only
      rw [hse]
      simp
    · rw [hls]
      dsimp only
      simp [extT]
theorem RunP.start {p : ByteArray} (hp : languageS p = true) : RunP { pSt0 with T := { pSt0.T with lang := p }, stage := if p.size ≤ 3 then 1 else 2 } [p] := by
  have hz := lang_size hp
  have hst : (if p.size ≤ 3 then 1 else 2) = 1 ∨ (if p.size ≤ 3 then 1 else 2) = 2 := by split <;> simp
  refine ⟨by dsimp only; omega, by dsimp only; omega, rfl, rfl, hp, fun q hq => by simp [pSt0, pNo] at hq, by simp [pSt0, pNo], fun e => by simp [pSt0, pNo] at e, fun e => ?_, .inl rfl, fun _ => rfl, .inl rfl, fun _ => rfl, fun q hq => by simp [pSt0, pNo] at hq, fun i q hq => by simp [pSt0, pNo] at hq, fun _ => rfl, fun q hq => by simp [pSt0, pNo] at hq, fun i q hq => by simp [pSt0, pNo] at hq, fun _ => rfl, rfl, fun e => by simp [pSt0] at e, fun _ e => absurd rfl e, fun e => absurd rfl e, ?_⟩
  · dsimp only at e ⊢
    by_cases hq : p.size ≤ 3
    · exact hq
    · rw [if_neg hq] at e; cases e
  · dsimp only
    rw [oneT_some (p := p) (by omega)]
    rfl
/-- A tag, and what is private behind it. -/
def withP (b : TagM) (ps : List ByteArray) : TagM := { b with priv := ps }
/-- Behind an x. -/
def PrivP (st : PSt) (l : List ByteArray) : Prop :=
  ∃ b ps, (WholeP b ∨ b = pNo) ∧ b.priv = [] ∧ st.T = withP b ps ∧ (∀ p ∈ ps, okS p = true) ∧ l = subtagsT b ++ sX :: ps ∧ st.stage = 6 ∧ (st.must = false → ps ≠ [])
theorem RunP.subs {st : PSt} {l : List ByteArray} (h : RunP st l) (hm : st.must = false) : l = subtagsT st.T := by
  have hg : st.T.grand.size = 0 := by rw [h.g]; rfl
  rw [h.ls, hm]
  unfold subtagsT
  rw [if_pos hg, h.p]
  rfl
theorem RunP.private {st : PSt} {l : List ByteArray} (h : RunP st l) (hm : st.must = false) : PrivP { st with must := true, stage := 6 } (l ++ [sX]) := by
  refine ⟨st.T, [], .inl h.whole, h.p, ?_, fun q hq => (by cases hq), ?_, rfl, fun e => (by cases e)⟩
  · unfold withP
    rw [← h.p]
  · rw [h.subs hm]
theorem PrivP.start : PrivP { pSt0 with must := true, stage := 6 } [sX] := ⟨pNo, [], .inr rfl, rfl, rfl, fun q hq => (by cases hq), rfl, rfl, fun e => (by cases e)⟩
theorem PrivP.push {st : PSt} {l : List ByteArray} (h : PrivP st l) {p : ByteArray} (hp : okS p = true) : PrivP { st with T := { st.T with priv := st.T.priv ++ [p] }, must := false } (l ++ [p]) := by
  obtain ⟨b, ps, h1, h2, h3, h4, h5, h6, h7⟩ := h
  refine ⟨b, ps ++ [p], h1, h2, ?_, fun q hq => ?_, ?_, h6, fun _ => by simp⟩
  · dsimp only
    rw [h3]
    rfl
  · rcases List.mem_append.1 hq with hq | hq
    · exact h4 q hq
    · rw [List.mem_singleton.1 hq]; exact hp
  · rw [h5]; simp
end Go.Proofs.Ytpnhjpplfjamkaa
