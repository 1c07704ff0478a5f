/-
  The document's Parse, stage by stage, against the machine (mathematics).
-/
import Derived.Test.YtpnhjpplfjamkaaGreatDoorQSubs
namespace Go.Proofs.YtpnhjpplfjamkaaGreatDoor
open Go Go.RowKit

theorem has_false {l : List ByteArray} {p : ByteArray} (h : ∀ (j : Nat) (x : ByteArray), l[j]? = some x → x ≠ p) : hasT l p = false := by
  unfold hasT
  rw [List.any_eq_false]
  intro x hx
  obtain ⟨j, hj⟩ := List.getElem?_of_mem hx
  simpa using h j x hj
theorem has_true {l : List ByteArray} {p : ByteArray} {j : Nat} (h : l[j]? = some p) : hasT l p = true := by
  unfold hasT
  rw [List.any_eq_true]
  exact ⟨p, List.mem_of_getElem? h, by simp⟩
theorem has_app (l r : List ByteArray) (p : ByteArray) : hasT (l ++ r) p = (hasT l p || hasT r p) := by unfold hasT; rw [List.any_append]
theorem var_size {s : ByteArray} (h : variantS s = true) : 4 ≤ s.size := by
  unfold variantS at h
  simp only [Bool.and_eq_true, Bool.or_eq_true, decide_eq_true_iff] at h
  rcases h.2 with h2 | h2 <;> omega
theorem here_zero {L : List (Nat × ByteArray)} {k : Nat} (h : (hereP L k).size = 0) : okS (hereP L k) = false := by
  cases ho : okS (hereP L k) with
  | false => rfl
  | true => exact absurd h (okk_pos ho)

theorem FromK.subsM {s : ByteArray} {st : PSt} {k : Nat} (h : FromK s k st) (h5 : st.stage = 5) (hk : st.key.size ≠ 0) (hm : st.must = true) : ∀ m, (∀ i, i < m + 1 → 2 ≤ (hereP (pieces s) (k + i)).size) →
    ∃ n, FromK s (k + (m + 1)) { st with T := { st.T with exts := st.T.exts ++ [(st.key, fromL (pieces s) k (m + 1))] }, must := false, last := n }
  | 0, ha => by
    obtain ⟨n, hn⟩ := h.sub h5 hk (ha 0 (by omega))
    refine ⟨n, ?_⟩
    unfold extendP at hn
    rw [if_pos hm] at hn
    exact hn
  | m + 1, ha => by
    obtain ⟨n, hn⟩ := h.subsM h5 hk hm m (fun i hi => ha i (by omega))
    obtain ⟨n', hn'⟩ := hn.sub h5 hk (ha (m + 1) (by omega))
    refine ⟨n', ?_⟩
    unfold extendP at hn'
    dsimp only at hn'
    rw [if_neg Bool.false_ne_true, addSub_snoc] at hn'
    rw [fromL_next]
    exact hn'
theorem FromK.privM {s : ByteArray} {st : PSt} {k : Nat} (h : FromK s k st) (h6 : st.stage = 6) : ∀ m, (∀ i, i < m + 1 → 1 ≤ (hereP (pieces s) (k + i)).size) →
    ∃ n, FromK s (k + (m + 1)) { st with T := { st.T with priv := st.T.priv ++ fromL (pieces s) k (m + 1) }, must := false, last := n }
  | 0, ha => h.priv h6 (ha 0 (by omega))
  | m + 1, ha => by
    obtain ⟨n, hn⟩ := h.privM h6 m (fun i hi => ha i (by omega))
    obtain ⟨n', hn'⟩ := hn.priv h6 (ha (m + 1) (by omega))
    refine ⟨n', ?_⟩
    dsimp only at hn'
    rw [List.append_assoc] at hn'
    rw [fromL_next]
    exact hn'

/-- Behind the language, among extlangs. -/
structure ExtlK (s : ByteArray) (k : Nat) (t : TagM) : Prop where
  st : ∃ st : PSt, FromK s k st ∧ st.T = t ∧ st.stage = (if t.lang.size ≤ 3 then 1 else 2) ∧ st.must = false ∧ st.key.size = 0 ∧ st.seen = []
  v : t.vars = []
  x : t.exts = []
  p : t.priv = []
  g : t.grand = ByteArray.empty
  e : t.extl.length ≤ 3
theorem ExtlK.start {s : ByteArray} (h : languageS (hereP (pieces s) 0) = true) (hne : hereP (pieces s) 0 ≠ sX) : ExtlK s 1 { pNo with lang := hereP (pieces s) 0 } := by
  obtain ⟨n, hn⟩ := FromK.lang h hne
  exact ⟨⟨_, hn, rfl, rfl, rfl, rfl, rfl⟩, rfl, rfl, rfl, rfl, Nat.zero_le _⟩
theorem ExtlK.next {s : ByteArray} {k : Nat} {t : TagM} (h : ExtlK s k t) (h3 : t.lang.size ≤ 3) (hl : t.extl.length < 3) (he : extlangS (hereP (pieces s) k) = true) : ExtlK s (k + 1) { t with extl := t.extl ++ [hereP (pieces s) k] } := by
  obtain ⟨st, hf, rfl, hs, hm, hk, hse⟩ := h.st
  rw [if_pos h3] at hs
  obtain ⟨n, hn⟩ := hf.extl hs hm (by omega) he
  refine ⟨⟨_, hn, rfl, ?_, hm, hk, hse⟩, h.v, h.x, h.p, h.g, by simp only [List.length_append, List.length_singleton]; omega⟩
  show st.stage = if st.T.lang.size ≤ 3 then 1 else 2
  rw [if_pos h3]; exact hs

/-- What no longer fits, behind so many kinds. -/
structure Behind (lv : Nat) (st : PSt) (q : ByteArray) : Prop where
  n3 : ¬ (st.stage ≤ 1 ∧ extlangS q = true ∧ st.T.extl.length ≠ 3)
  n4 : 3 ≤ lv → ¬ (st.stage ≤ 2 ∧ scriptS q = true)
  n5 : 4 ≤ lv → ¬ (st.stage ≤ 3 ∧ regionS q = true)
  n6 : 5 ≤ lv → ¬ (st.stage ≤ 4 ∧ variantS q = true)
theorem Behind.of {lv : Nat} {st : PSt} {q : ByteArray} (h : lv ≤ st.stage) (h2 : 2 ≤ lv) (h5 : lv ≤ 5) : Behind lv st q := ⟨fun h => by omega, fun _ h => by omega, fun _ h => by omega, fun _ h => by omega⟩
structure MidK (s : ByteArray) (k : Nat) (t : TagM) (lv : Nat) : Prop where
  st : ∃ st : PSt, FromK s k st ∧ st.T = t ∧ st.stage ≠ 0 ∧ st.stage ≤ lv ∧ st.must = false ∧ st.key.size = 0 ∧ st.seen = t.vars ∧ Behind lv st (hereP (pieces s) k)
  va : ∀ v ∈ t.vars, variantS v = true
  x : t.exts = []
  p : t.priv = []
  g : t.grand = ByteArray.empty
  le : t.vars.length ≤ k
theorem ExtlK.mid {s : ByteArray} {k : Nat} {t : TagM} (h : ExtlK s k t) (hn : ¬ (t.lang.size ≤ 3 ∧ t.extl.length < 3 ∧ extlangS (hereP (pieces s) k) = true)) : MidK s k t 2 := by
  obtain ⟨st, hf, rfl, hs, hm, hk, hse⟩ := h.st
  have he := h.e
  refine ⟨⟨st, hf, rfl, by rw [hs]; split <;> decide, by rw [hs]; split <;> decide, hm, hk, by rw [hse, h.v], ⟨fun h1 => hn ?_, fun h => by omega, fun h => by omega, fun h => by omega⟩⟩, fun v hv => (by rw [h.v] at hv; cases hv), h.x, h.p, h.g, by rw [h.v]; exact Nat.zero_le _⟩
  obtain ⟨h2, h3, h4⟩ := h1
  refine ⟨?_, by omega, h3⟩
  by_cases h5 : st.T.lang.size ≤ 3
  · exact h5
  · rw [if_neg h5] at hs; omega
theorem MidK.script {s : ByteArray} {k : Nat} {t : TagM} (h : MidK s k t 2) (he : scriptS (hereP (pieces s) k) = true) : MidK s (k + 1) { t with script := hereP (pieces s) k } 3 := by
  obtain ⟨st, hf, rfl, h0, h2, hm, hk, hse, hb⟩ := h.st
  obtain ⟨n, hn⟩ := hf.script h0 h2 hm hb.n3 he
  exact ⟨⟨_, hn, rfl, (show (3 : Nat) ≠ 0 by decide), Nat.le_refl _, hm, hk, hse, Behind.of (Nat.le_refl _) (by decide) (by decide)⟩, h.va, h.x, h.p, h.g, Nat.le_succ_of_le h.le⟩
theorem MidK.noScript {s : ByteArray} {k : Nat} {t : TagM} (h : MidK s k t 2) (he : scriptS (hereP (pieces s) k) = false) : MidK s k t 3 := by
  obtain ⟨st, hf, rfl, h0, h2, hm, hk, hse, hb⟩ := h.st
  exact ⟨⟨st, hf, rfl, h0, by omega, hm, hk, hse, ⟨hb.n3, fun _ h => (by rw [he] at h; cases h.2), fun h => by omega, fun h => by omega⟩⟩, h.va, h.x, h.p, h.g, h.le⟩
theorem MidK.region {s : ByteArray} {k : Nat} {t : TagM} (h : MidK s k t 3) (he : regionS (hereP (pieces s) k) = true) : MidK s (k + 1) { t with region := hereP (pieces s) k } 4 := by
  obtain ⟨st, hf, rfl, h0, h2, hm, hk, hse, hb⟩ := h.st
  obtain ⟨n, hn⟩ := hf.region h0 h2 hm hb.n3 (hb.n4 (by decide)) he
  exact ⟨⟨_, hn, rfl, (show (4 : Nat) ≠ 0 by decide), Nat.le_refl _, hm, hk, hse, Behind.of (Nat.le_refl _) (by decide) (by decide)⟩, h.va, h.x, h.p, h.g, Nat.le_succ_of_le h.le⟩
theorem MidK.noRegion {s : ByteArray} {k : Nat} {t : TagM} (h : MidK s k t 3) (he : regionS (hereP (pieces s) k) = false) : MidK s k t 4 := by
  obtain ⟨st, hf, rfl, h0, h2, hm, hk, hse, hb⟩ := h.st
  exact ⟨⟨st, hf, rfl, h0, by omega, hm, hk, hse, ⟨hb.n3, fun _ => hb.n4 (by decide), fun _ h => (by rw [he] at h; cases h.2), fun h => by omega⟩⟩, h.va, h.x, h.p, h.g, h.le⟩
theorem MidK.twice {s : ByteArray} {k : Nat} {t : TagM} (h : MidK s k t 4) (he : variantS (hereP (pieces s) k) = true) (hs : hasT t.vars (hereP (pieces s) k) = true) : outP (readS s) = (pNo, some (twiceP s k sVar)) := by
  obtain ⟨st, hf, rfl, h0, h2, hm, hk, hse, hb⟩ := h.st
  exact (hf.vars h0 h2 hm hb.n3 (hb.n4 (by decide)) (hb.n5 (by decide)) he).1 (by rw [hse]; exact hs)
theorem MidK.var {s : ByteArray} {k : Nat} {t : TagM} (h : MidK s k t 4) (he : variantS (hereP (pieces s) k) = true) (hs : hasT t.vars (hereP (pieces s) k) = false) : MidK s (k + 1) { t with vars := t.vars ++ [hereP (pieces s) k] } 4 := by
  obtain ⟨st, hf, rfl, h0, h2, hm, hk, hse, hb⟩ := h.st
  obtain ⟨n, hn⟩ := (hf.vars h0 h2 hm hb.n3 (hb.n4 (by decide)) (hb.n5 (by decide)) he).2 (by rw [hse]; exact hs)
  exact ⟨⟨_, hn, rfl, (show (4 : Nat) ≠ 0 by decide), Nat.le_refl _, hm, hk, (show st.seen ++ _ = st.T.vars ++ _ by rw [hse]), Behind.of (Nat.le_refl _) (by decide) (by decide)⟩, fun v hv => by
    rcases List.mem_append.1 hv with h1 | h1
    · exact h.va v h1
    · obtain rfl : v = _ := by simpa using h1
      exact he, h.x, h.p, h.g, by simp only [List.length_append, List.length_singleton]; have := h.le; omega⟩
structure ExtK (s : ByteArray) (k : Nat) (t : TagM) : Prop where
  st : ∃ st : PSt, FromK s k st ∧ st.T = t ∧ st.stage ≠ 0 ∧ st.stage ≤ 5 ∧ st.must = false ∧ st.seen = t.vars ++ t.exts.map (·.1) ∧ Behind 5 st (hereP (pieces s) k) ∧ ¬ (st.key.size ≠ 0 ∧ 2 ≤ (hereP (pieces s) k).size ∧ okS (hereP (pieces s) k) = true)
  va : ∀ v ∈ t.vars, variantS v = true
  p : t.priv = []
  g : t.grand = ByteArray.empty
  le : t.exts.length ≤ k
theorem MidK.noVar {s : ByteArray} {k : Nat} {t : TagM} (h : MidK s k t 4) (he : variantS (hereP (pieces s) k) = false) : ExtK s k t := by
  obtain ⟨st, hf, rfl, h0, h2, hm, hk, hse, hb⟩ := h.st
  exact ⟨⟨st, hf, rfl, h0, by omega, hm, by rw [hse, h.x]; simp, ⟨hb.n3, fun _ => hb.n4 (by decide), fun _ => hb.n5 (by decide), fun _ h => by rw [he] at h; cases h.2⟩, fun h => h.1 hk⟩, h.va, h.p, h.g, by rw [h.x]; exact Nat.zero_le _⟩
theorem ExtK.seen {s : ByteArray} {k : Nat} {t : TagM} (h : ExtK s k t) {q : ByteArray} (hq : q.size = 1) : hasT (t.vars ++ t.exts.map (·.1)) q = hasT (t.exts.map (·.1)) q := by
  rw [has_app, has_false (l := t.vars) fun j x hx e => by have := var_size (h.va x (List.mem_of_getElem? hx)); rw [e] at this; omega]
  rfl
theorem ExtK.twice {s : ByteArray} {k : Nat} {t : TagM} (h : ExtK s k t) (he : singletonS (hereP (pieces s) k) = true) (hs : hasT (t.exts.map (·.1)) (hereP (pieces s) k) = true) : outP (readS s) = (pNo, some (twiceP s k sSing)) := by
  have hq := h.seen (single_size he)
  obtain ⟨st, hf, rfl, h0, h2, hm, hse, hb, h7⟩ := h.st
  exact (hf.sing h0 (by omega) hm hb.n3 (hb.n4 (by decide)) (hb.n5 (by decide)) (hb.n6 (by decide)) he).1 (by rw [hse, hq]; exact hs)
structure KeyK (s : ByteArray) (k : Nat) (t : TagM) (key : ByteArray) : Prop where
  st : ∃ st : PSt, FromK s k st ∧ st.T = t ∧ st.stage = 5 ∧ st.must = true ∧ st.key = key ∧ key.size ≠ 0 ∧ st.seen = t.vars ++ (t.exts.map (·.1) ++ [key])
  va : ∀ v ∈ t.vars, variantS v = true
  p : t.priv = []
  g : t.grand = ByteArray.empty
  le : t.exts.length ≤ k
theorem ExtK.open {s : ByteArray} {k : Nat} {t : TagM} (h : ExtK s k t) (he : singletonS (hereP (pieces s) k) = true) (hs : hasT (t.exts.map (·.1)) (hereP (pieces s) k) = false) : KeyK s (k + 1) t (hereP (pieces s) k) := by
  have hq := h.seen (single_size he)
  obtain ⟨st, hf, rfl, h0, h2, hm, hse, hb, h7⟩ := h.st
  have hn := (hf.sing h0 (by omega) hm hb.n3 (hb.n4 (by decide)) (hb.n5 (by decide)) (hb.n6 (by decide)) he).2 (by rw [hse, hq]; exact hs)
  exact ⟨⟨_, hn, rfl, rfl, rfl, rfl, by rw [single_size he]; decide, (show st.seen ++ _ = _ by rw [hse, List.append_assoc])⟩, h.va, h.p, h.g, Nat.le_succ_of_le h.le⟩
theorem KeyK.nil {s : ByteArray} {k : Nat} {t : TagM} {key : ByteArray} (h : KeyK s k t key) (hend : ¬ ((hereP (pieces s) k).size ≠ 0 ∧ 2 ≤ (hereP (pieces s) k).size)) : outP (readS s) = (pNo, some (wrongP s k)) := by
  obtain ⟨st, hf, rfl, h5, hm, rfl, hk, hse⟩ := h.st
  refine hf.wrong (by omega) (fun h => by omega) (fun _ => ⟨fun h => by omega, fun h => by omega, fun h => by omega, fun h => by omega, fun h => hend ⟨by omega, h.2.1⟩, fun h => ?_, fun h => ?_⟩) (.inr hm)
  · rw [hm] at h; cases h.1
  · rw [hm] at h; cases h.1
theorem KeyK.subs {s : ByteArray} {k : Nat} {t : TagM} {key : ByteArray} (h : KeyK s k t key) {m : Nat} (hm0 : 0 < m) (ha : ∀ i, i < m → 2 ≤ (hereP (pieces s) (k + i)).size) (hend : ¬ ((hereP (pieces s) (k + m)).size ≠ 0 ∧ 2 ≤ (hereP (pieces s) (k + m)).size)) :
    ExtK s (k + m) { t with exts := t.exts ++ [(key, fromL (pieces s) k m)] } := by
  obtain ⟨st, hf, rfl, h5, hm, rfl, hk, hse⟩ := h.st
  obtain ⟨m, rfl⟩ : ∃ j, m = j + 1 := ⟨m - 1, by omega⟩
  obtain ⟨n, hn⟩ := hf.subsM h5 hk hm m ha
  refine ⟨⟨_, hn, rfl, (show st.stage ≠ 0 by omega), (show st.stage ≤ 5 by omega), rfl, ?_, Behind.of (show 5 ≤ st.stage by omega) (by decide) (by decide), fun h => hend ⟨by omega, h.2.1⟩⟩, h.va, h.p, h.g, by simp only [List.length_append, List.length_singleton]; have := h.le; omega⟩
  show st.seen = st.T.vars ++ (st.T.exts ++ [(st.key, fromL (pieces s) k (m + 1))]).map (fun x => x.1)
  rw [hse, List.map_append]
  rfl
/-- Ahead of the private subtags. -/
structure PrvK (s : ByteArray) (k : Nat) (t : TagM) : Prop where
  st : ∃ st : PSt, FromK s k st ∧ st.T = t ∧ st.stage = 6 ∧ st.must = true
  p : t.priv = []
  g : t.grand = ByteArray.empty
structure EndK (s : ByteArray) (k : Nat) (t : TagM) : Prop where
  x : hereP (pieces s) k = sX → PrvK s (k + 1) t
  n : hereP (pieces s) k ≠ sX → k < (pieces s).length → outP (readS s) = (pNo, some (wrongP s k))
  f : hereP (pieces s) k ≠ sX → (pieces s).length ≤ k → outP (readS s) = (t, none)
  p : t.priv = []
  g : t.grand = ByteArray.empty
theorem EndK.start {s : ByteArray} (hx : hereP (pieces s) 0 = sX) : EndK s 0 pNo :=
  ⟨fun _ => ⟨⟨_, FromK.mark0 hx, rfl, rfl, rfl⟩, rfl, rfl⟩, fun h => absurd hx h, fun h => absurd hx h, rfl, rfl⟩
theorem ExtK.fin {s : ByteArray} {k : Nat} {t : TagM} (h : ExtK s k t) (he : singletonS (hereP (pieces s) k) = false) : EndK s k t := by
  have hp := h.p
  have hg := h.g
  obtain ⟨st, hf, rfl, h0, h2, hm, hse, hb, h7⟩ := h.st
  refine ⟨fun hx => ⟨⟨_, hf.mark h0 (by omega) hm hx, rfl, rfl, rfl⟩, hp, hg⟩, fun hx hk => ?_, fun _ hk => ?_, hp, hg⟩
  · exact hf.wrong h0 (fun h => by omega) (fun _ => ⟨hb.n3, hb.n4 (by decide), hb.n5 (by decide), hb.n6 (by decide), h7, fun h => (by rw [he] at h; cases h.2), fun h => hx h.2⟩) (.inl hk)
  · rw [hf.fin hk, if_neg (by rw [hm]; decide)]
theorem PrvK.nil {s : ByteArray} {k : Nat} {t : TagM} (h : PrvK s k t) (hend : ¬ ((hereP (pieces s) k).size ≠ 0 ∧ 1 ≤ (hereP (pieces s) k).size)) : outP (readS s) = (pNo, some (wrongP s k)) := by
  obtain ⟨st, hf, rfl, h6, hm⟩ := h.st
  exact hf.wrong (by omega) (fun _ => here_zero (by omega)) (fun h => absurd h6 h) (.inr hm)
theorem PrvK.wrong {s : ByteArray} {k : Nat} {t : TagM} (h : PrvK s k t) {m : Nat} (hm0 : 0 < m) (ha : ∀ i, i < m → 1 ≤ (hereP (pieces s) (k + i)).size) (hend : ¬ ((hereP (pieces s) (k + m)).size ≠ 0 ∧ 1 ≤ (hereP (pieces s) (k + m)).size)) (hl : k + m < (pieces s).length) :
    outP (readS s) = (pNo, some (wrongP s (k + m))) := by
  obtain ⟨st, hf, rfl, h6, hm⟩ := h.st
  obtain ⟨m, rfl⟩ : ∃ j, m = j + 1 := ⟨m - 1, by omega⟩
  obtain ⟨n, hn⟩ := hf.privM h6 m ha
  exact hn.wrong (show st.stage ≠ 0 by omega) (fun _ => here_zero (by omega)) (fun h => absurd h6 h) (.inl hl)
theorem PrvK.fin {s : ByteArray} {k : Nat} {t : TagM} (h : PrvK s k t) {m : Nat} (hm0 : 0 < m) (ha : ∀ i, i < m → 1 ≤ (hereP (pieces s) (k + i)).size) (hl : (pieces s).length ≤ k + m) : outP (readS s) = ({ t with priv := fromL (pieces s) k m }, none) := by
  have hp := h.p
  obtain ⟨st, hf, rfl, h6, hm⟩ := h.st
  obtain ⟨m, rfl⟩ : ∃ j, m = j + 1 := ⟨m - 1, by omega⟩
  obtain ⟨n, hn⟩ := hf.privM h6 m ha
  rw [hn.fin hl]
  dsimp only
  rw [if_neg Bool.false_ne_true, hp]
  rfl
end Go.Proofs.YtpnhjpplfjamkaaGreatDoor
