/-
  Package parse: rows of pieces of one kind, read one after the other (the mathematics of P7.3).
-/
import Derived.Test.YtpnhjpplfjamkaaPParsed
namespace Go.Proofs.Ytpnhjpplfjamkaa
open Go Go.RowKit

/-- The small letters of pieces, wherever they stand. -/
def lowsOf (xs : List (Nat × ByteArray)) : List ByteArray := xs.map fun x => lowS x.2
theorem endP_off (st : PSt) (a n : Nat) (h : st.must = false) : endP st a n = { st with last := a + n } := by unfold endP; rw [if_neg (by rw [h]; decide)]
theorem runP_ok {x : Nat × ByteArray} {r : List (Nat × ByteArray)} {st s2 : PSt} (h : takeP st x.1 (lowS x.2) = .ok s2) (hm : s2.must = false) : runP (x :: r) st = runP r { s2 with last := x.1 + x.2.size } := by
  simp only [runP, h]
  rw [endP_off _ _ _ hm]
/-- Behind x. -/
theorem run_priv : ∀ (xs : List (Nat × ByteArray)) (st : PSt), st.stage = 6 → xs ≠ [] → (∀ p ∈ lowsOf xs, okS p = true) →
    ∃ n, runP xs st = ({ st with T := { st.T with priv := st.T.priv ++ lowsOf xs }, must := false, last := n }, none)
  | [], _, _, h, _ => absurd rfl h
  | x :: r, st, h6, _, hok => by
    have hp := hok (lowS x.2) (by simp [lowsOf])
    have ht : takeP st x.1 (lowS x.2) = .ok { st with T := { st.T with priv := st.T.priv ++ [lowS x.2] }, must := false } := by
      unfold takeP
      rw [if_neg (by omega), if_pos h6, if_pos hp]
    rw [runP_ok ht rfl]
    cases r with
    | nil => exact ⟨x.1 + x.2.size, by simp [runP, lowsOf]⟩
    | cons y r =>
      obtain ⟨n, hn⟩ := run_priv (y :: r) { st with T := { st.T with priv := st.T.priv ++ [lowS x.2] }, must := false, last := x.1 + x.2.size } h6 (by simp) (fun p hm => hok p (List.mem_cons_of_mem _ hm))
      exact ⟨n, by rw [hn]; simp [lowsOf]⟩
/-- Extended languages. -/
theorem run_extl : ∀ (xs : List (Nat × ByteArray)) (st : PSt), st.stage = 1 → st.must = false → (∀ p ∈ lowsOf xs, extlangS p = true) → st.T.extl.length + xs.length ≤ 3 →
    ∃ n, runP xs st = ({ st with T := { st.T with extl := st.T.extl ++ lowsOf xs }, last := n }, none)
  | [], st, _, _, _, _ => ⟨st.last, by simp [runP, lowsOf]⟩
  | x :: r, st, h1, hm, hok, hl => by
    have hp := hok (lowS x.2) (by simp [lowsOf])
    rw [List.length_cons] at hl
    obtain ⟨n, hn⟩ := run_extl r { st with T := { st.T with extl := st.T.extl ++ [lowS x.2] }, last := x.1 + x.2.size } h1 hm (fun p hm => hok p (List.mem_cons_of_mem _ hm)) (by simp; omega)
    refine ⟨n, ?_⟩
    have ht : takeP st x.1 (lowS x.2) = .ok { st with T := { st.T with extl := st.T.extl ++ [lowS x.2] } } := by
      unfold takeP furtherP
      rw [if_neg (by omega), if_neg (by omega), if_pos ⟨by omega, hp, by omega⟩]
    rw [runP_ok ht hm, hn]
    simp [lowsOf]
/-- Variants. -/
theorem run_vars : ∀ (xs : List (Nat × ByteArray)) (st : PSt), st.stage = 4 → st.must = false → (∀ p ∈ lowsOf xs, variantS p = true) → (∀ (i : Nat) p, (lowsOf xs)[i]? = some p → hasT (st.seen ++ (lowsOf xs).take i) p = false) →
    ∃ n, runP xs st = ({ st with T := { st.T with vars := st.T.vars ++ lowsOf xs }, seen := st.seen ++ lowsOf xs, last := n }, none)
  | [], st, _, _, _, _ => ⟨st.last, by simp [runP, lowsOf]⟩
  | x :: r, st, h1, hm, hok, hno => by
    have hp := hok (lowS x.2) (by simp [lowsOf])
    have h0 := hno 0 (lowS x.2) (by simp [lowsOf])
    rw [List.take_zero, List.append_nil] at h0
    obtain ⟨n, hn⟩ := run_vars r { st with T := { st.T with vars := st.T.vars ++ [lowS x.2] }, stage := 4, seen := st.seen ++ [lowS x.2], last := x.1 + x.2.size } rfl hm (fun p hm => hok p (List.mem_cons_of_mem _ hm)) (fun i p hi => by
      have := hno (i + 1) p (by simpa [lowsOf] using hi)
      simpa [lowsOf] using this)
    refine ⟨n, ?_⟩
    have ht : takeP st x.1 (lowS x.2) = .ok { st with T := { st.T with vars := st.T.vars ++ [lowS x.2] }, stage := 4, seen := st.seen ++ [lowS x.2] } := by
      unfold takeP furtherP
      rw [if_neg (by omega), if_neg (by omega), if_neg (by omega), if_neg (by omega), if_neg (by omega), if_pos ⟨by omega, hp⟩, if_neg (by rw [h0]; decide)]
    rw [runP_ok ht hm, hn]
    simp [lowsOf, h1]
/-- An extension's own. -/
theorem run_subs : ∀ (xs : List (Nat × ByteArray)) (st : PSt) (X : List (ByteArray × List ByteArray)) (k : ByteArray) (l : List ByteArray), st.stage = 5 → st.key.size ≠ 0 → st.must = false → st.T.exts = X ++ [(k, l)] → (∀ p ∈ lowsOf xs, 2 ≤ p.size ∧ okS p = true) →
    ∃ n, runP xs st = ({ st with T := { st.T with exts := X ++ [(k, l ++ lowsOf xs)] }, last := n }, none)
  | [], st, X, k, l, _, _, _, hX, _ => ⟨st.last, by simp [runP, lowsOf, ← hX]⟩
  | x :: r, st, X, k, l, h1, hk, hm, hX, hok => by
    have hp := hok (lowS x.2) (by simp [lowsOf])
    obtain ⟨n, hn⟩ := run_subs r { st with T := { st.T with exts := X ++ [(k, l ++ [lowS x.2])] }, last := x.1 + x.2.size } X k (l ++ [lowS x.2]) h1 hk hm rfl (fun p hm => hok p (List.mem_cons_of_mem _ hm))
    refine ⟨n, ?_⟩
    have ht : takeP st x.1 (lowS x.2) = .ok { st with T := { st.T with exts := X ++ [(k, l ++ [lowS x.2])] } } := by
      unfold takeP furtherP
      rw [if_neg (by omega), if_neg (by omega), if_neg (by omega), if_neg (by omega), if_neg (by omega), if_neg (by omega), if_pos ⟨hk, hp.1, hp.2⟩]
      unfold extendP
      rw [if_neg (by rw [hm]; decide), hX, addSub_snoc]
      simp [hm]
    rw [runP_ok ht hm, hn]
    simp [lowsOf]
/-! Kinds by their sizes. -/
theorem extl_size {p : ByteArray} (h : extlangS p = true) : p.size = 3 := by
  unfold extlangS lettersS at h
  simp at h
  omega
theorem scr_size {p : ByteArray} (h : scriptS p = true) : p.size = 4 := by
  unfold scriptS lettersS at h
  simp at h
  omega
theorem reg_size {p : ByteArray} (h : regionS p = true) : p.size = 2 ∨ p.size = 3 := by
  unfold regionS lettersS at h
  simp at h
  omega
theorem var_size {p : ByteArray} (h : variantS p = true) : 4 ≤ p.size := by
  unfold variantS at h
  simp at h
  omega
theorem sing_size {p : ByteArray} (h : singletonS p = true) : p.size = 1 := by
  unfold singletonS at h
  simp at h
  exact h.1
/-- A text of one byte behind a language: a singleton, or x. -/
theorem further_one {st : PSt} {a : Nat} {p : ByteArray} (hp : p.size = 1) (hm : st.must = false) : furtherP st a p = if singletonS p = true then (if hasT st.seen p = true then .error (11, a, sSing) else .ok { st with key := p, must := true, stage := 5, seen := st.seen ++ [p] }) else if p = sX then .ok { st with must := true, stage := 6 } else .error (10, a, sSub) := by
  unfold furtherP
  rw [if_neg (fun h => by have := extl_size h.2.1; omega), if_neg (fun h => by have := scr_size h.2; omega), if_neg (fun h => by have := reg_size h.2; omega), if_neg (fun h => by have := var_size h.2; omega), if_neg (fun h => by omega)]
  simp [hm]
theorem take_further {st : PSt} {a : Nat} {p : ByteArray} (h1 : 1 ≤ st.stage) (h5 : st.stage ≤ 5) : takeP st a p = furtherP st a p := by
  unfold takeP
  rw [if_neg (by omega), if_neg (by omega)]
/-- One extension. -/
theorem run_ext (x : Nat × ByteArray) (xs : List (Nat × ByteArray)) (st : PSt) (h1 : 1 ≤ st.stage) (h5 : st.stage ≤ 5) (hm : st.must = false) (hs : singletonS (lowS x.2) = true) (hno : hasT st.seen (lowS x.2) = false) (hne : xs ≠ []) (hok : ∀ p ∈ lowsOf xs, 2 ≤ p.size ∧ okS p = true) :
    ∃ n, runP (x :: xs) st = ({ st with T := { st.T with exts := st.T.exts ++ [(lowS x.2, lowsOf xs)] }, key := lowS x.2, stage := 5, seen := st.seen ++ [lowS x.2], last := n }, none) := by
  have ht : takeP st x.1 (lowS x.2) = .ok { st with key := lowS x.2, must := true, stage := 5, seen := st.seen ++ [lowS x.2] } := by
    rw [take_further h1 h5, further_one (sing_size hs) hm, if_pos hs, if_neg (by rw [hno]; decide)]
  have hk := sing_size hs
  cases xs with
  | nil => exact absurd rfl hne
  | cons y r =>
    have hy := hok (lowS y.2) (by simp [lowsOf])
    have e1 : runP (x :: y :: r) st = runP (y :: r) { st with key := lowS x.2, must := true, stage := 5, seen := st.seen ++ [lowS x.2] } := by
      simp only [runP, ht, endP, if_true]
    have ht2 : takeP { st with key := lowS x.2, must := true, stage := 5, seen := st.seen ++ [lowS x.2] } y.1 (lowS y.2) = .ok { st with T := { st.T with exts := st.T.exts ++ [(lowS x.2, [lowS y.2])] }, key := lowS x.2, must := false, stage := 5, seen := st.seen ++ [lowS x.2] } := by
      rw [take_further (by dsimp only; omega) (by dsimp only; omega)]
      unfold furtherP
      dsimp only
      rw [if_neg (by omega), if_neg (by omega), if_neg (by omega), if_neg (by omega), if_pos ⟨by omega, hy.1, hy.2⟩]
      rfl
    rw [e1, runP_ok ht2 rfl]
    obtain ⟨n, hn⟩ := run_subs r { st with T := { st.T with exts := st.T.exts ++ [(lowS x.2, [lowS y.2])] }, key := lowS x.2, must := false, stage := 5, seen := st.seen ++ [lowS x.2], last := y.1 + y.2.size } st.T.exts (lowS x.2) [lowS y.2] rfl (by dsimp only; omega) rfl rfl (fun p hp => hok p (List.mem_cons_of_mem _ hp))
    refine ⟨n, ?_⟩
    rw [hn]
    simp [lowsOf, hm]
/-- All extensions. -/
theorem run_exts : ∀ (X : List (ByteArray × List ByteArray)) (xs : List (Nat × ByteArray)) (st : PSt), lowsOf xs = X.flatMap extT → 1 ≤ st.stage → st.stage ≤ 5 → st.must = false →
    (∀ e ∈ X, singletonS e.1 = true ∧ e.2 ≠ [] ∧ ∀ p ∈ e.2, 2 ≤ p.size ∧ okS p = true) → (∀ (i : Nat) e, X[i]? = some e → hasT (st.seen ++ (X.take i).map (·.1)) e.1 = false) →
    ∃ n k g, runP xs st = ({ st with T := { st.T with exts := st.T.exts ++ X }, key := k, stage := g, seen := st.seen ++ X.map (·.1), last := n }, none) ∧ 1 ≤ g ∧ g ≤ 5
  | [], xs, st, hx, h1, h5, _, _, _ => by
    have : xs = [] := List.map_eq_nil_iff.1 hx
    subst this
    exact ⟨st.last, st.key, st.stage, by simp [runP], h1, h5⟩
  | e :: X, xs, st, hx, h1, h5, hm, hok, hno => by
    obtain ⟨x, r, rfl, hk, hr⟩ := List.map_eq_cons_iff.1 (show xs.map (fun x => lowS x.2) = e.1 :: (e.2 ++ X.flatMap extT) by
      have := hx
      unfold lowsOf at this
      rw [this]
      simp [extT])
    obtain ⟨ys, zs, rfl, hy, hz⟩ := List.map_eq_append_iff.1 hr
    obtain ⟨q1, q2, q3⟩ := hok e (by simp)
    have h0 := hno 0 e rfl
    rw [List.take_zero, List.map_nil, List.append_nil] at h0
    have hyl : lowsOf ys = e.2 := hy
    obtain ⟨n, hn⟩ := run_ext x ys st h1 h5 hm (by rw [hk]; exact q1) (by rw [hk]; exact h0) (fun h => q2 (by rw [← hyl, h]; rfl)) (by rw [hyl]; exact q3)
    rw [hk, hyl] at hn
    obtain ⟨n2, k, g, h2, g1, g5⟩ := run_exts X zs { st with T := { st.T with exts := st.T.exts ++ [(e.1, e.2)] }, key := e.1, stage := 5, seen := st.seen ++ [e.1], last := n } hz (by dsimp only; omega) (by dsimp only; omega) hm (fun e' he => hok e' (List.mem_cons_of_mem _ he)) (fun i e' hi => by
      have := hno (i + 1) e' (by simpa using hi)
      simpa using this)
    refine ⟨n2, k, g, ?_, g1, g5⟩
    rw [← List.cons_append, runP_append, hn]
    dsimp only
    rw [h2]
    simp
/-- x, and what stands behind it. -/
theorem run_x (x : Nat × ByteArray) (xs : List (Nat × ByteArray)) (st : PSt) (h1 : 1 ≤ st.stage) (h5 : st.stage ≤ 5) (hm : st.must = false) (hx : lowS x.2 = sX) (hne : xs ≠ []) (hok : ∀ p ∈ lowsOf xs, okS p = true) :
    ∃ n, runP (x :: xs) st = ({ st with T := { st.T with priv := st.T.priv ++ lowsOf xs }, stage := 6, must := false, last := n }, none) := by
  have ht : takeP st x.1 (lowS x.2) = .ok { st with must := true, stage := 6 } := by
    rw [hx, take_further h1 h5, further_one (by decide) hm, if_neg (by decide), if_pos rfl]
  have e1 : runP (x :: xs) st = runP xs { st with must := true, stage := 6 } := by
    simp only [runP, ht, endP, if_true]
  obtain ⟨n, hn⟩ := run_priv xs { st with must := true, stage := 6 } rfl hne hok
  exact ⟨n, by rw [e1, hn]⟩
theorem scr_letters {p : ByteArray} (h : scriptS p = true) : alphaS p = true := by
  unfold scriptS lettersS at h
  simp at h
  exact h.1
theorem var_not_scr {p : ByteArray} (h : variantS p = true) : scriptS p = false := by
  cases hs : scriptS p with
  | false => rfl
  | true =>
    exfalso
    have h4 := scr_size hs
    have ha := scr_letters hs
    unfold variantS at h
    rw [Bool.and_eq_true, Bool.or_eq_true] at h
    rcases h.2 with h2 | h2
    · simp at h2; omega
    · rw [Bool.and_eq_true] at h2
      obtain ⟨_, h2⟩ := h2
      unfold alphaS has at ha
      cases hb : bs p with
      | nil => rw [hb] at ha; simp at ha
      | cons c r =>
        rw [hb] at ha h2
        simp at ha h2
        have hc := ha.1
        revert hc h2
        exact byte_all (fun c => isD c = true → isA c = true → False) (by decide +kernel) c
/-- Variants, from wherever they may stand. -/
theorem run_vars' (xs : List (Nat × ByteArray)) (st : PSt) (h1 : 1 ≤ st.stage) (h4 : st.stage ≤ 4) (hm : st.must = false) (hok : ∀ p ∈ lowsOf xs, variantS p = true) (hno : ∀ (i : Nat) p, (lowsOf xs)[i]? = some p → hasT (st.seen ++ (lowsOf xs).take i) p = false) :
    ∃ n g, runP xs st = ({ st with T := { st.T with vars := st.T.vars ++ lowsOf xs }, seen := st.seen ++ lowsOf xs, stage := g, last := n }, none) ∧ 1 ≤ g ∧ g ≤ 4 := by
  cases xs with
  | nil => exact ⟨st.last, st.stage, by simp [runP, lowsOf], h1, h4⟩
  | cons x r =>
    have hp := hok (lowS x.2) (by simp [lowsOf])
    have h0 := hno 0 (lowS x.2) (by simp [lowsOf])
    rw [List.take_zero, List.append_nil] at h0
    have ht : takeP st x.1 (lowS x.2) = .ok { st with T := { st.T with vars := st.T.vars ++ [lowS x.2] }, stage := 4, seen := st.seen ++ [lowS x.2] } := by
      rw [take_further h1 (by omega)]
      unfold furtherP
      have hz := var_size hp
      rw [if_neg (fun h => by have := extl_size h.2.1; omega), if_neg (fun h => by rw [var_not_scr hp] at h; exact absurd h.2 (by decide)), if_neg (fun h => by have := reg_size h.2; omega), if_pos ⟨h4, hp⟩, if_neg (by rw [h0]; decide)]
    rw [runP_ok ht hm]
    obtain ⟨n, hn⟩ := run_vars r { st with T := { st.T with vars := st.T.vars ++ [lowS x.2] }, stage := 4, seen := st.seen ++ [lowS x.2], last := x.1 + x.2.size } rfl hm (fun p hm => hok p (List.mem_cons_of_mem _ hm)) (fun i p hi => by
      have := hno (i + 1) p (by simpa [lowsOf] using hi)
      simpa [lowsOf] using this)
    exact ⟨n, 4, by rw [hn]; simp [lowsOf], by decide, by decide⟩
/-- A script, if there is one. -/
theorem run_script (xs : List (Nat × ByteArray)) (st : PSt) (s : ByteArray) (hx : lowsOf xs = oneT s) (h1 : 1 ≤ st.stage) (h2 : st.stage ≤ 2) (hm : st.must = false) (h0 : st.T.script = ByteArray.empty) (hs : s.size = 0 ∨ scriptS s = true) :
    ∃ n g, runP xs st = ({ st with T := { st.T with script := s }, stage := g, last := n }, none) ∧ 1 ≤ g ∧ g ≤ 3 := by
  unfold oneT at hx
  split at hx
  · rename_i hz
    have : xs = [] := List.map_eq_nil_iff.1 hx
    subst this
    have hse : s = ByteArray.empty := by
      cases s with | mk d => simp [ByteArray.size] at hz; subst hz; rfl
    exact ⟨st.last, st.stage, by simp [runP, hse, ← h0], h1, by omega⟩
  · rename_i hz
    obtain ⟨x, r, rfl, hk, hr⟩ := List.map_eq_cons_iff.1 (show xs.map (fun x => lowS x.2) = s :: [] from hx)
    have : r = [] := List.map_eq_nil_iff.1 hr
    subst this
    have hp : scriptS s = true := hs.resolve_left hz
    have ht : takeP st x.1 (lowS x.2) = .ok { st with T := { st.T with script := s }, stage := 3 } := by
      rw [hk, take_further h1 (by omega)]
      unfold furtherP
      rw [if_neg (fun h => by have := extl_size h.2.1; have := scr_size hp; omega), if_pos ⟨h2, hp⟩]
    exact ⟨x.1 + x.2.size, 3, by rw [runP_ok ht hm]; rfl, by decide, by decide⟩
/-- A region, if there is one. -/
theorem run_region (xs : List (Nat × ByteArray)) (st : PSt) (s : ByteArray) (hx : lowsOf xs = oneT s) (h1 : 1 ≤ st.stage) (h3 : st.stage ≤ 3) (hm : st.must = false) (h0 : st.T.region = ByteArray.empty) (hs : s.size = 0 ∨ regionS s = true) (hne : extlangS s = false) :
    ∃ n g, runP xs st = ({ st with T := { st.T with region := s }, stage := g, last := n }, none) ∧ 1 ≤ g ∧ g ≤ 4 := by
  unfold oneT at hx
  split at hx
  · rename_i hz
    have : xs = [] := List.map_eq_nil_iff.1 hx
    subst this
    have hse : s = ByteArray.empty := by
      cases s with | mk d => simp [ByteArray.size] at hz; subst hz; rfl
    exact ⟨st.last, st.stage, by simp [runP, hse, ← h0], h1, by omega⟩
  · rename_i hz
    obtain ⟨x, r, rfl, hk, hr⟩ := List.map_eq_cons_iff.1 (show xs.map (fun x => lowS x.2) = s :: [] from hx)
    have : r = [] := List.map_eq_nil_iff.1 hr
    subst this
    have hp : regionS s = true := hs.resolve_left hz
    have ht : takeP st x.1 (lowS x.2) = .ok { st with T := { st.T with region := s }, stage := 4 } := by
      rw [hk, take_further h1 (by omega)]
      unfold furtherP
      rw [if_neg (fun h => by rw [hne] at h; exact absurd h.2.1 (by decide)), if_neg (fun h => by have := reg_size hp; have := scr_size h.2; omega), if_pos ⟨h3, hp⟩]
    exact ⟨x.1 + x.2.size, 4, by rw [runP_ok ht hm]; rfl, by decide, by decide⟩
theorem run_then {a b : List (Nat × ByteArray)} {st s2 : PSt} {o : PSt × Option PErr} (ha : runP a st = (s2, none)) (hb : runP b s2 = o) : runP (a ++ b) st = o := by
  rw [runP_append, ha]
  exact hb
theorem hasT_app (a b : List ByteArray) (x : ByteArray) : hasT (a ++ b) x = (hasT a x || hasT b x) := by simp [hasT]
theorem hasT_far {l : List ByteArray} {x : ByteArray} (h : ∀ y ∈ l, y.size ≠ x.size) : hasT l x = false := by
  unfold hasT
  rw [List.any_eq_false]
  intro y hy e
  exact h y hy (by rw [of_decide_eq_true e])
/-- What a right language tag holds to. -/
structure WholeP (T : TagM) : Prop where
  g : T.grand.size = 0
  l : languageS T.lang = true
  e : ∀ p ∈ T.extl, extlangS p = true
  en : T.extl.length ≤ 3
  el : T.extl ≠ [] → T.lang.size ≤ 3
  s : T.script.size = 0 ∨ scriptS T.script = true
  r : T.region.size = 0 ∨ regionS T.region = true
  v : ∀ p ∈ T.vars, variantS p = true
  vn : ∀ (i : Nat) p, T.vars[i]? = some p → hasT (T.vars.take i) p = false
  x : ∀ e ∈ T.exts, singletonS e.1 = true ∧ e.2 ≠ [] ∧ ∀ p ∈ e.2, 2 ≤ p.size ∧ okS p = true
  xn : ∀ (i : Nat) e, T.exts[i]? = some e → hasT ((T.exts.take i).map (·.1)) e.1 = false
  p : ∀ p ∈ T.priv, okS p = true
theorem lang_size {p : ByteArray} (h : languageS p = true) : 2 ≤ p.size ∧ p.size ≤ 8 := by
  unfold languageS lettersS at h
  simp at h
  omega
theorem reg_not_ext {p : ByteArray} (h : p.size = 0 ∨ regionS p = true) : extlangS p = false := by
  cases he : extlangS p with
  | false => rfl
  | true =>
    exfalso
    have h3 := extl_size he
    rcases h with h | h
    · omega
    · unfold regionS at h
      rw [Bool.or_eq_true] at h
      rcases h with h | h
      · unfold lettersS at h; simp at h; omega
      · rw [Bool.and_eq_true] at h
        have hd := h.2
        unfold extlangS lettersS at he
        simp at he
        have ha := he.1
        unfold alphaS has at ha
        unfold digitS has at hd
        cases hb : bs p with
        | nil => rw [hb] at ha; simp at ha
        | cons c r =>
          rw [hb] at ha hd
          simp at ha hd
          have h1 := ha.1
          have h2 := hd.1
          revert h1 h2
          exact byte_all (fun c => isA c = true → isD c = true → False) (by decide +kernel) c
theorem empty_of_size {s : ByteArray} (h : s.size = 0) : s = ByteArray.empty := by
  cases s with | mk d => simp [ByteArray.size] at h; subst h; rfl
/-- P7.3, of language tags: read of its own subtags it comes back. -/
theorem read_whole (T : TagM) (hT : WholeP T) (xs : List (Nat × ByteArray)) (hx : lowsOf xs = subtagsT T) : ∃ st, runP xs pSt0 = (st, none) ∧ st.T = T ∧ st.must = false := by
  have hls := lang_size hT.l
  unfold subtagsT at hx
  rw [if_pos hT.g] at hx
  obtain ⟨x6, xp, rfl, h6, hp⟩ := List.map_eq_append_iff.1 hx
  obtain ⟨x5, xe, rfl, h5, he⟩ := List.map_eq_append_iff.1 h6
  obtain ⟨x4, xv, rfl, h4, hv⟩ := List.map_eq_append_iff.1 h5
  obtain ⟨x3, xr, rfl, h3, hr⟩ := List.map_eq_append_iff.1 h4
  obtain ⟨x2, xc, rfl, h2, hc⟩ := List.map_eq_append_iff.1 h3
  obtain ⟨xl, xx, rfl, hl, hxx⟩ := List.map_eq_append_iff.1 h2
  unfold oneT at hl
  rw [if_neg (by omega)] at hl
  obtain ⟨x, r, rfl, hk, hr0⟩ := List.map_eq_cons_iff.1 hl
  obtain rfl : r = [] := List.map_eq_nil_iff.1 hr0
  -- the language
  obtain ⟨s1, e1, t1, m1, g1, k1, se1⟩ : ∃ s1, runP [x] pSt0 = (s1, none) ∧ s1.T = { pNo with lang := T.lang } ∧ s1.must = false ∧ s1.stage = (if T.lang.size ≤ 3 then 1 else 2) ∧ s1.key = ByteArray.empty ∧ s1.seen = [] := by
    have ht : takeP pSt0 x.1 (lowS x.2) = .ok { pSt0 with T := { pNo with lang := T.lang }, stage := if T.lang.size ≤ 3 then 1 else 2 } := by
      rw [hk]
      unfold takeP
      rw [if_pos (show pSt0.stage = 0 from rfl), if_neg (fun e => by rw [e] at hls; exact absurd hls.1 (by decide)), if_pos hT.l]
      rfl
    exact ⟨_, runP_ok ht rfl, rfl, rfl, rfl, rfl, rfl⟩
  obtain ⟨gg, TT, ll, kk, mm, ss⟩ := s1
  dsimp only at t1 m1 g1 k1 se1
  subst t1 m1 k1 se1
  have g1' : 1 ≤ gg ∧ gg ≤ 2 := by rw [g1]; split <;> omega
  -- its extended languages
  obtain ⟨n2, e2⟩ : ∃ n, runP xx ⟨gg, { pNo with lang := T.lang }, ll, ByteArray.empty, false, []⟩ = (⟨gg, { pNo with lang := T.lang, extl := T.extl }, n, ByteArray.empty, false, []⟩, none) := by
    by_cases hz : xx = []
    · subst hz
      have hze : T.extl = [] := by rw [← hxx]; rfl
      exact ⟨ll, by rw [hze]; rfl⟩
    · have hne : T.extl ≠ [] := fun h => hz (List.map_eq_nil_iff.1 (hxx.trans h))
      have hsz := hT.el hne
      have hlen : xx.length = T.extl.length := by rw [← hxx, List.length_map]
      obtain ⟨n, hn⟩ := run_extl xx ⟨gg, { pNo with lang := T.lang }, ll, ByteArray.empty, false, []⟩ (by dsimp only; rw [g1, if_pos hsz]) rfl (by rw [show lowsOf xx = T.extl from hxx]; exact hT.e) (by rw [hlen]; simpa [pNo] using hT.en)
      rw [show lowsOf xx = T.extl from hxx] at hn
      exact ⟨n, hn⟩
  -- the script, the region
  obtain ⟨n3, g3, e3, q3⟩ := run_script xc ⟨gg, { pNo with lang := T.lang, extl := T.extl }, n2, ByteArray.empty, false, []⟩ T.script hc g1'.1 g1'.2 rfl rfl hT.s
  obtain ⟨n4, g4, e4, q4⟩ := run_region xr ⟨g3, { pNo with lang := T.lang, extl := T.extl, script := T.script }, n3, ByteArray.empty, false, []⟩ T.region hr q3.1 q3.2 rfl rfl hT.r (reg_not_ext hT.r)
  -- the variants
  obtain ⟨n5, g5, e5, q5⟩ := run_vars' xv ⟨g4, { pNo with lang := T.lang, extl := T.extl, script := T.script, region := T.region }, n4, ByteArray.empty, false, []⟩ q4.1 q4.2 rfl (by rw [show lowsOf xv = T.vars from hv]; exact hT.v) (by rw [show lowsOf xv = T.vars from hv]; simpa using hT.vn)
  rw [show lowsOf xv = T.vars from hv] at e5
  -- the extensions
  obtain ⟨n6, k6, g6, e6, q6⟩ := run_exts T.exts xe ⟨g5, { pNo with lang := T.lang, extl := T.extl, script := T.script, region := T.region, vars := T.vars }, n5, ByteArray.empty, false, T.vars⟩ he q5.1 (by have := q5.2; dsimp only; omega) rfl hT.x (fun i e hi => by
    dsimp only
    rw [hasT_app, hT.xn i e hi, Bool.or_false]
    refine hasT_far fun y hy h => ?_
    have h1 := var_size (hT.v y hy)
    have h2 := sing_size (hT.x e (List.mem_of_getElem? hi)).1
    omega)
  have hgr := empty_of_size hT.g
  have hTe : (⟨T.lang, T.extl, T.script, T.region, T.vars, T.exts, T.priv, T.grand⟩ : TagM) = T := rfl
  rw [hgr] at hTe
  -- what is private
  have e05 : runP ((((([x] ++ xx) ++ xc) ++ xr) ++ xv) ++ xe) pSt0 = (⟨g6, { pNo with lang := T.lang, extl := T.extl, script := T.script, region := T.region, vars := T.vars, exts := T.exts }, n6, k6, false, T.vars ++ T.exts.map (·.1)⟩, none) :=
    run_then (run_then (run_then (run_then (run_then e1 e2) e3) e4) e5) e6
  unfold privT at hp
  split at hp
  · rename_i hz
    obtain rfl : xp = [] := List.map_eq_nil_iff.1 hp
    refine ⟨_, by rw [List.append_nil]; exact e05, ?_, rfl⟩
    rw [List.eq_nil_of_length_eq_zero hz] at hTe
    exact hTe
  · rename_i hz
    obtain ⟨y, r, rfl, hy, hr7⟩ := List.map_eq_cons_iff.1 hp
    obtain ⟨n7, e7⟩ := run_x y r ⟨g6, { pNo with lang := T.lang, extl := T.extl, script := T.script, region := T.region, vars := T.vars, exts := T.exts }, n6, k6, false, T.vars ++ T.exts.map (·.1)⟩ q6.1 q6.2 rfl hy (fun h => hz (by rw [← hr7, h]; rfl)) (by rw [show lowsOf r = T.priv from hr7]; exact hT.p)
    refine ⟨_, run_then e05 e7, ?_, rfl⟩
    rw [show lowsOf r = T.priv from hr7]
    exact hTe
theorem has_nodash {f : UInt8 → Bool} (hf : f 45 = false) {p : ByteArray} (h : has f p = true) : (45 : UInt8) ∉ bs p := fun hm => by
  unfold has at h
  rw [Bool.and_eq_true, List.all_eq_true] at h
  have := h.2 45 hm
  rw [hf] at this
  cases this
theorem letters_nodash {p : ByteArray} {a b : Nat} (h : lettersS p a b = true) : (45 : UInt8) ∉ bs p := by
  unfold lettersS at h
  rw [Bool.and_eq_true] at h
  exact has_nodash (by decide) h.1
theorem alnum_nodash {p : ByteArray} (h : alnumS p = true) : (45 : UInt8) ∉ bs p := has_nodash (by decide) h
theorem ok_nodash {p : ByteArray} (h : okS p = true) : (45 : UInt8) ∉ bs p := by
  unfold okS at h
  rw [Bool.and_eq_true] at h
  exact alnum_nodash h.2
theorem whole_nodash {T : TagM} (hT : WholeP T) : ∀ p ∈ subtagsT T, (45 : UInt8) ∉ bs p := by
  intro p hp
  unfold subtagsT at hp
  rw [if_pos hT.g] at hp
  simp only [List.mem_append] at hp
  have one : ∀ s, p ∈ oneT s → p = s ∧ s.size ≠ 0 := fun s h => by
    unfold oneT at h
    split at h
    · cases h
    · rename_i hz; exact ⟨List.mem_singleton.1 h, hz⟩
  rcases hp with (((((h | h) | h) | h) | h) | h) | h
  · obtain ⟨rfl, _⟩ := one _ h
    exact letters_nodash hT.l
  · exact letters_nodash (hT.e p h)
  · obtain ⟨rfl, hz⟩ := one _ h
    exact letters_nodash (hT.s.resolve_left hz)
  · obtain ⟨rfl, hz⟩ := one _ h
    have hr := hT.r.resolve_left hz
    unfold regionS at hr
    rw [Bool.or_eq_true] at hr
    rcases hr with hr | hr
    · exact letters_nodash hr
    · rw [Bool.and_eq_true] at hr
      exact has_nodash (by decide) hr.2
  · have hv := hT.v p h
    unfold variantS at hv
    rw [Bool.and_eq_true] at hv
    exact alnum_nodash hv.1
  · obtain ⟨e, he, hpe⟩ := List.mem_flatMap.1 h
    have hx := hT.x e he
    unfold extT at hpe
    rcases List.mem_cons.1 hpe with rfl | hpe
    · have hs := hx.1
      unfold singletonS at hs
      rw [Bool.and_eq_true, Bool.and_eq_true] at hs
      exact alnum_nodash hs.2.1
    · exact ok_nodash (hx.2.2 p hpe).2
  · unfold privT at h
    split at h
    · cases h
    · rcases List.mem_cons.1 h with rfl | h
      · decide
      · exact ok_nodash (hT.p p h)
/-- The pieces of joined texts. -/
theorem pieces_join {l : List ByteArray} (hne : l ≠ []) (hd : ∀ p ∈ l, (45 : UInt8) ∉ bs p) : (pieces (joinS l)).map (·.2) = l := by
  rw [pieces_map]
  unfold splS joinS
  rw [bs_ofL, spl_joinP (by simpa using hne) (fun q hq => by obtain ⟨p, hp, rfl⟩ := List.mem_map.1 hq; exact hd p hp), List.map_map]
  rw [show (ofL ∘ bs) = id from funext fun x => ofL_bs x]
  simp
/-- P7.3, of language tags: parsed of its own subtags, joined, it comes back. -/
theorem parse_whole (T : TagM) (hT : WholeP T) (hs : ∀ p ∈ subtagsT T, lowS p = p) (hf : findV (joinS (subtagsT T)) = none) : parseS (joinS (subtagsT T)) = (T, none) := by
  have hne : subtagsT T ≠ [] := by
    intro h
    unfold subtagsT at h
    rw [if_pos hT.g] at h
    have := lang_size hT.l
    simp only [List.append_eq_nil_iff] at h
    have h0 := h.1.1.1.1.1.1
    unfold oneT at h0
    rw [if_neg (by omega)] at h0
    cases h0
  have hx : lowsOf (pieces (joinS (subtagsT T))) = subtagsT T := by
    have h1 := pieces_join hne (whole_nodash hT)
    unfold lowsOf
    rw [show (fun x : Nat × ByteArray => lowS x.2) = lowS ∘ (·.2) from rfl, ← List.map_map, h1]
    conv => rhs; rw [← List.map_id (subtagsT T)]
    exact List.map_congr_left hs
  obtain ⟨st, h1, h2, h3⟩ := read_whole T hT _ hx
  unfold parseS
  rw [hf, if_neg (by decide)]
  unfold readS
  rw [h1]
  unfold finP
  dsimp only
  rw [if_neg (by rw [h3]; decide)]
  unfold outP
  dsimp only
  rw [h2]
/-- P7.3, of private tags. -/
theorem parse_private (P : List ByteArray) (hne : P ≠ []) (hok : ∀ p ∈ P, okS p = true) (hs : ∀ p ∈ P, lowS p = p) (hf : findV (joinS (sX :: P)) = none) : parseS (joinS (sX :: P)) = ({ pNo with priv := P }, none) := by
  have hd : ∀ p ∈ sX :: P, (45 : UInt8) ∉ bs p := fun p hp => by
    rcases List.mem_cons.1 hp with rfl | hp
    · decide
    · exact ok_nodash (hok p hp)
  have hx : lowsOf (pieces (joinS (sX :: P))) = sX :: P := by
    have h1 := pieces_join (by simp) hd
    unfold lowsOf
    rw [show (fun x : Nat × ByteArray => lowS x.2) = lowS ∘ (·.2) from rfl, ← List.map_map, h1]
    conv => rhs; rw [← List.map_id (sX :: P)]
    refine List.map_congr_left fun p hp => ?_
    rcases List.mem_cons.1 hp with rfl | hp
    · decide +kernel
    · exact hs p hp
  obtain ⟨x, r, hxr, hk, hr⟩ := List.map_eq_cons_iff.1 hx
  have ht : takeP pSt0 x.1 (lowS x.2) = .ok { pSt0 with must := true, stage := 6 } := by
    rw [hk]
    unfold takeP
    rw [if_pos (show pSt0.stage = 0 from rfl), if_pos rfl]
  have e1 : runP (x :: r) pSt0 = runP r { pSt0 with must := true, stage := 6 } := by
    simp only [runP, ht, endP, if_true]
  obtain ⟨n, hn⟩ := run_priv r { pSt0 with must := true, stage := 6 } rfl (fun h => hne (by rw [← hr, h]; rfl)) (by rw [show lowsOf r = P from hr]; exact hok)
  unfold parseS
  rw [hf, if_neg (by decide)]
  unfold readS
  rw [hxr, e1, hn, show lowsOf r = P from hr]
  rfl
/-- P7.3, of grandfathered tags. -/
theorem parse_grand (g : ByteArray) (hl : lowS g = g) (hf : (findV g).isSome = true) : parseS g = ({ pNo with grand := g }, none) := by
  unfold parseS
  rw [if_pos hf, hl]
end Go.Proofs.Ytpnhjpplfjamkaa
