/-
  Package parse: the grammar, read from left to right, and the machine (mathematics).
-/
import Derived.Test.YtpnhjpplfjamkaaGreatDoorPParsed
namespace Go.Proofs.YtpnhjpplfjamkaaGreatDoor
open Go Go.RowKit

theorem okk_letters {s : ByteArray} {lo hi : Nat} (h : lettersS s lo hi = true) (hh : hi ≤ 8) : okS s = true := by
  unfold lettersS at h
  simp only [Bool.and_eq_true, decide_eq_true_iff] at h
  unfold okS
  rw [Bool.and_eq_true, decide_eq_true_iff]
  exact ⟨by omega, has_mono (fun c hc => by unfold isN; rw [hc]; rfl) h.1⟩
theorem okk_language {s : ByteArray} (h : languageS s = true) : okS s = true := okk_letters h (by decide)
theorem okk_extlang {s : ByteArray} (h : extlangS s = true) : okS s = true := okk_letters h (by decide)
theorem okk_script {s : ByteArray} (h : scriptS s = true) : okS s = true := okk_letters h (by decide)
theorem okk_region {s : ByteArray} (h : regionS s = true) : okS s = true := by
  unfold regionS at h
  rw [Bool.or_eq_true] at h
  rcases h with h | h
  · exact okk_letters h (by decide)
  · rw [Bool.and_eq_true, decide_eq_true_iff] at h
    unfold okS
    rw [Bool.and_eq_true, decide_eq_true_iff]
    exact ⟨by omega, has_mono (fun c hc => by unfold isN; rw [hc]; simp) h.2⟩
theorem okk_variant {s : ByteArray} (h : variantS s = true) : okS s = true := by
  unfold variantS at h
  simp only [Bool.and_eq_true, Bool.or_eq_true, decide_eq_true_iff] at h
  unfold okS
  rw [Bool.and_eq_true, decide_eq_true_iff]
  exact ⟨by rcases h.2 with h2 | h2 <;> omega, h.1⟩
theorem okk_singleton {s : ByteArray} (h : singletonS s = true) : okS s = true := by
  unfold singletonS at h
  simp only [Bool.and_eq_true, decide_eq_true_iff] at h
  unfold okS
  rw [Bool.and_eq_true, decide_eq_true_iff]
  exact ⟨by omega, h.2.1⟩
theorem okk_x : okS sX = true := by decide +kernel
theorem okk_pos {s : ByteArray} (h : okS s = true) : s.size ≠ 0 := by
  unfold okS alnumS has at h
  simp only [Bool.and_eq_true] at h
  intro h0
  have : bs s = [] := List.eq_nil_of_length_eq_zero (by rw [size_bs]; exact h0)
  rw [this] at h
  simp at h
theorem okk_low (p : ByteArray) : okS (lowS p) = okS p := by
  unfold okS
  rw [size_lowS]
  congr 1
  exact has_map isN lowB isN_low p

/-- What stands there, if it is a subtag. -/
def hereP (L : List (Nat × ByteArray)) (k : Nat) : ByteArray := match L[k]? with
  | some x => if okS x.2 = true then lowS x.2 else ByteArray.empty
  | none => ByteArray.empty
theorem here_none {L : List (Nat × ByteArray)} {k : Nat} (h : L.length ≤ k) : hereP L k = ByteArray.empty := by
  unfold hereP; rw [List.getElem?_eq_none h]
theorem here_some {L : List (Nat × ByteArray)} {k : Nat} {x : Nat × ByteArray} (h : L[k]? = some x) : hereP L k = if okS x.2 = true then lowS x.2 else ByteArray.empty := by
  unfold hereP; rw [h]
/-- A piece of some kind stands there. -/
theorem here_is {L : List (Nat × ByteArray)} {k : Nat} (h : (hereP L k).size ≠ 0) : ∃ x, L[k]? = some x ∧ k < L.length ∧ hereP L k = lowS x.2 ∧ okS (lowS x.2) = true := by
  cases hx : L[k]? with
  | none => rw [show hereP L k = ByteArray.empty by unfold hereP; rw [hx]] at h; exact absurd rfl h
  | some x =>
    rw [here_some hx] at h ⊢
    by_cases ho : okS x.2 = true
    · rw [if_pos ho] at h ⊢
      exact ⟨x, rfl, (List.getElem?_eq_some_iff.1 hx).1, rfl, by rw [okk_low]; exact ho⟩
    · rw [if_neg ho] at h; exact absurd rfl h
theorem here_ok {L : List (Nat × ByteArray)} {k : Nat} (h : okS (hereP L k) = true) : ∃ x, L[k]? = some x ∧ k < L.length ∧ hereP L k = lowS x.2 ∧ okS (lowS x.2) = true := here_is (okk_pos h)

/-- What is told of a text, from the k-th piece on. -/
def FromK (s : ByteArray) (k : Nat) (st : PSt) : Prop := outP (readS s) = outP (finP s.size (runP ((pieces s).drop k) st))
theorem FromK.start (s : ByteArray) : FromK s 0 pSt0 := by unfold FromK readS; rw [List.drop_zero]
theorem drop_consQ {α : Type} {L : List α} {k : Nat} {x : α} (h : L[k]? = some x) : L.drop k = x :: L.drop (k + 1) := by
  obtain ⟨hk, rfl⟩ := List.getElem?_eq_some_iff.1 h
  exact List.drop_eq_getElem_cons hk
theorem FromK.step {s : ByteArray} {k : Nat} {st st' : PSt} {x : Nat × ByteArray} (h : FromK s k st) (hx : (pieces s)[k]? = some x) (ht : takeP st x.1 (lowS x.2) = .ok st') : FromK s (k + 1) (endP st' x.1 x.2.size) := by
  unfold FromK at *
  rw [h, drop_consQ hx]
  simp only [runP, ht]
theorem FromK.err {s : ByteArray} {k : Nat} {st : PSt} {x : Nat × ByteArray} {e : PErr} (h : FromK s k st) (hx : (pieces s)[k]? = some x) (ht : takeP st x.1 (lowS x.2) = .error e) : outP (readS s) = (pNo, some e) := by
  unfold FromK at h
  rw [h, drop_consQ hx]
  simp only [runP, ht, finP, outP]
theorem FromK.fin {s : ByteArray} {k : Nat} {st : PSt} (h : FromK s k st) (hk : (pieces s).length ≤ k) : outP (readS s) = if st.must = true then (pNo, some (10, s.size, sEnd)) else (st.T, none) := by
  unfold FromK at h
  rw [h, List.drop_eq_nil_of_le hk]
  simp only [runP, finP]
  split <;> rfl

/-- What is wrong where it stands. -/
def wrongP (s : ByteArray) (k : Nat) : PErr := match (pieces s)[k]? with
  | some x => (10, x.1, sSub)
  | none => (10, s.size, sEnd)
def twiceP (s : ByteArray) (k : Nat) (what : ByteArray) : PErr := match (pieces s)[k]? with
  | some x => (11, x.1, what)
  | none => (11, 0, what)

theorem take_bad {st : PSt} {a : Nat} {p : ByteArray} (h : okS p = false) : takeP st a p = .error (10, a, sSub) := by
  have n1 : p ≠ sX := fun e => by rw [e, okk_x] at h; cases h
  have n2 : ¬ languageS p = true := fun e => by rw [okk_language e] at h; cases h
  have n3 : ¬ extlangS p = true := fun e => by rw [okk_extlang e] at h; cases h
  have n4 : ¬ scriptS p = true := fun e => by rw [okk_script e] at h; cases h
  have n5 : ¬ regionS p = true := fun e => by rw [okk_region e] at h; cases h
  have n6 : ¬ variantS p = true := fun e => by rw [okk_variant e] at h; cases h
  have n7 : ¬ singletonS p = true := fun e => by rw [okk_singleton e] at h; cases h
  have n8 : ¬ okS p = true := by rw [h]; decide
  unfold takeP furtherP
  split
  · first | rfl | rw [if_neg n1, if_neg n2]
  · split
    · first | rfl | rw [if_neg n8]
    · first | rfl | rw [if_neg (fun h => n3 h.2.1), if_neg (fun h => n4 h.2), if_neg (fun h => n5 h.2), if_neg (fun h => n6 h.2), if_neg (fun h => n8 h.2.2), if_neg (fun h => n7 h.2), if_neg (fun h => n1 h.2)]

/-- Nothing more fits here, in a reader behind its language. -/
structure NoFit (st : PSt) (q : ByteArray) : Prop where
  n3 : ¬ (st.stage ≤ 1 ∧ extlangS q = true ∧ st.T.extl.length ≠ 3)
  n4 : ¬ (st.stage ≤ 2 ∧ scriptS q = true)
  n5 : ¬ (st.stage ≤ 3 ∧ regionS q = true)
  n6 : ¬ (st.stage ≤ 4 ∧ variantS q = true)
  n7 : ¬ (st.key.size ≠ 0 ∧ 2 ≤ q.size ∧ okS q = true)
  n8 : ¬ (st.must = false ∧ singletonS q = true)
  n9 : ¬ (st.must = false ∧ q = sX)
theorem furtherP_none {st : PSt} {a : Nat} {q : ByteArray} (h : NoFit st q) : furtherP st a q = .error (10, a, sSub) := by
  unfold furtherP
  rw [if_neg h.n3, if_neg h.n4, if_neg h.n5, if_neg h.n6, if_neg h.n7, if_neg h.n8, if_neg h.n9]
/-- The end of a reading, where it stands: wrong, if there is one more. -/
theorem FromK.wrong {s : ByteArray} {k : Nat} {st : PSt} (h : FromK s k st) (h0 : st.stage ≠ 0) (h6 : st.stage = 6 → okS (hereP (pieces s) k) = false) (hn : st.stage ≠ 6 → NoFit st (hereP (pieces s) k)) (hm : k < (pieces s).length ∨ st.must = true) :
    outP (readS s) = (pNo, some (wrongP s k)) := by
  unfold wrongP
  cases hx : (pieces s)[k]? with
  | some x =>
    refine h.err hx ?_
    have hh := here_some hx
    cases ho : okS x.2 with
    | false => exact take_bad (by rw [okk_low]; exact ho)
    | true =>
      rw [if_pos ho] at hh
      rw [hh] at h6 hn
      unfold takeP
      rw [if_neg h0]
      by_cases h6' : st.stage = 6
      · rw [if_pos h6', if_neg (by rw [h6 h6']; decide)]
      · rw [if_neg h6']
        exact furtherP_none (hn h6')
  | none =>
    have hk : (pieces s).length ≤ k := List.getElem?_eq_none_iff.1 hx
    rw [h.fin hk, if_pos (hm.resolve_left (by omega))]

/-! The kinds, one by one. -/
/-- At the beginning. -/
theorem FromK.none0 {s : ByteArray} (h : languageS (hereP (pieces s) 0) = false) (hx : hereP (pieces s) 0 ≠ sX) : outP (readS s) = (pNo, some (wrongP s 0)) := by
  have hl : 0 < (pieces s).length := by rw [pieces_length]; exact splS_pos s
  obtain ⟨x, hx0⟩ : ∃ x, (pieces s)[0]? = some x := ⟨_, List.getElem?_eq_getElem hl⟩
  unfold wrongP
  rw [hx0]
  refine (FromK.start s).err hx0 ?_
  have hh := here_some hx0
  cases ho : okS x.2 with
  | false => exact take_bad (by rw [okk_low]; exact ho)
  | true =>
    rw [if_pos ho] at hh
    rw [hh] at h hx
    unfold takeP
    rw [if_pos (show pSt0.stage = 0 from rfl), if_neg hx, if_neg (by rw [h]; decide)]
theorem FromK.lang {s : ByteArray} (h : languageS (hereP (pieces s) 0) = true) (hne : hereP (pieces s) 0 ≠ sX) :
    ∃ n, FromK s 1 { pSt0 with T := { pNo with lang := hereP (pieces s) 0 }, stage := if (hereP (pieces s) 0).size ≤ 3 then 1 else 2, last := n } := by
  obtain ⟨x, hx, _, hh, _⟩ := here_ok (okk_language h)
  rw [hh] at h hne ⊢
  have ht : takeP pSt0 x.1 (lowS x.2) = .ok { pSt0 with T := { pSt0.T with lang := lowS x.2 }, stage := if (lowS x.2).size ≤ 3 then 1 else 2 } := by
    unfold takeP
    rw [if_pos (show pSt0.stage = 0 from rfl), if_neg hne, if_pos h]
  have := (FromK.start s).step hx ht
  unfold endP at this
  rw [if_neg (show ¬ pSt0.must = true by decide)] at this
  exact ⟨_, this⟩
theorem FromK.mark0 {s : ByteArray} (h : hereP (pieces s) 0 = sX) : FromK s 1 { pSt0 with must := true, stage := 6 } := by
  obtain ⟨x, hx, _, hh, _⟩ := here_ok (by rw [h]; exact okk_x)
  rw [hh] at h
  have ht : takeP pSt0 x.1 (lowS x.2) = .ok { pSt0 with must := true, stage := 6 } := by
    unfold takeP
    rw [if_pos (show pSt0.stage = 0 from rfl), if_pos h]
  exact (FromK.start s).step hx ht
theorem FromK.extl {s : ByteArray} {k : Nat} {st : PSt} (h : FromK s k st) (h1 : st.stage = 1) (hm : st.must = false) (hl : st.T.extl.length ≠ 3) (he : extlangS (hereP (pieces s) k) = true) :
    ∃ n, FromK s (k + 1) { st with T := { st.T with extl := st.T.extl ++ [hereP (pieces s) k] }, last := n } := by
  obtain ⟨x, hx, _, hh, _⟩ := here_ok (okk_extlang he)
  rw [hh] at he ⊢
  have ht : takeP st x.1 (lowS x.2) = .ok { st with T := { st.T with extl := st.T.extl ++ [lowS x.2] } } := by
    unfold takeP furtherP
    rw [if_neg (by omega), if_neg (by omega), if_pos ⟨by omega, he, hl⟩]
  have := h.step hx ht
  unfold endP at this
  rw [if_neg (by show ¬ st.must = true; rw [hm]; decide)] at this
  exact ⟨_, this⟩
theorem FromK.script {s : ByteArray} {k : Nat} {st : PSt} (h : FromK s k st) (h0 : st.stage ≠ 0) (h2 : st.stage ≤ 2) (hm : st.must = false) (n3 : ¬ (st.stage ≤ 1 ∧ extlangS (hereP (pieces s) k) = true ∧ st.T.extl.length ≠ 3)) (he : scriptS (hereP (pieces s) k) = true) :
    ∃ n, FromK s (k + 1) { st with T := { st.T with script := hereP (pieces s) k }, stage := 3, last := n } := by
  obtain ⟨x, hx, _, hh, _⟩ := here_ok (okk_script he)
  rw [hh] at he n3 ⊢
  have ht : takeP st x.1 (lowS x.2) = .ok { st with T := { st.T with script := lowS x.2 }, stage := 3 } := by
    unfold takeP furtherP
    rw [if_neg h0, if_neg (by omega), if_neg n3, if_pos ⟨h2, he⟩]
  have := h.step hx ht
  unfold endP at this
  rw [if_neg (by show ¬ st.must = true; rw [hm]; decide)] at this
  exact ⟨_, this⟩
theorem FromK.region {s : ByteArray} {k : Nat} {st : PSt} (h : FromK s k st) (h0 : st.stage ≠ 0) (h3 : st.stage ≤ 3) (hm : st.must = false) (n3 : ¬ (st.stage ≤ 1 ∧ extlangS (hereP (pieces s) k) = true ∧ st.T.extl.length ≠ 3))
    (n4 : ¬ (st.stage ≤ 2 ∧ scriptS (hereP (pieces s) k) = true)) (he : regionS (hereP (pieces s) k) = true) :
    ∃ n, FromK s (k + 1) { st with T := { st.T with region := hereP (pieces s) k }, stage := 4, last := n } := by
  obtain ⟨x, hx, _, hh, _⟩ := here_ok (okk_region he)
  rw [hh] at he n3 n4 ⊢
  have ht : takeP st x.1 (lowS x.2) = .ok { st with T := { st.T with region := lowS x.2 }, stage := 4 } := by
    unfold takeP furtherP
    rw [if_neg h0, if_neg (by omega), if_neg n3, if_neg n4, if_pos ⟨h3, he⟩]
  have := h.step hx ht
  unfold endP at this
  rw [if_neg (by show ¬ st.must = true; rw [hm]; decide)] at this
  exact ⟨_, this⟩
theorem FromK.vars {s : ByteArray} {k : Nat} {st : PSt} (h : FromK s k st) (h0 : st.stage ≠ 0) (h4 : st.stage ≤ 4) (hm : st.must = false) (n3 : ¬ (st.stage ≤ 1 ∧ extlangS (hereP (pieces s) k) = true ∧ st.T.extl.length ≠ 3))
    (n4 : ¬ (st.stage ≤ 2 ∧ scriptS (hereP (pieces s) k) = true)) (n5 : ¬ (st.stage ≤ 3 ∧ regionS (hereP (pieces s) k) = true)) (he : variantS (hereP (pieces s) k) = true) :
    (hasT st.seen (hereP (pieces s) k) = true → outP (readS s) = (pNo, some (twiceP s k sVar))) ∧
    (hasT st.seen (hereP (pieces s) k) = false → ∃ n, FromK s (k + 1) { st with T := { st.T with vars := st.T.vars ++ [hereP (pieces s) k] }, stage := 4, seen := st.seen ++ [hereP (pieces s) k], last := n }) := by
  obtain ⟨x, hx, _, hh, _⟩ := here_ok (okk_variant he)
  rw [hh] at he n3 n4 n5 ⊢
  refine ⟨fun hs => ?_, fun hs => ?_⟩
  · unfold twiceP
    rw [hx]
    refine h.err hx ?_
    unfold takeP furtherP
    rw [if_neg h0, if_neg (by omega), if_neg n3, if_neg n4, if_neg n5, if_pos ⟨h4, he⟩, if_pos hs]
  · have ht : takeP st x.1 (lowS x.2) = .ok { st with T := { st.T with vars := st.T.vars ++ [lowS x.2] }, stage := 4, seen := st.seen ++ [lowS x.2] } := by
      unfold takeP furtherP
      rw [if_neg h0, if_neg (by omega), if_neg n3, if_neg n4, if_neg n5, if_pos ⟨h4, he⟩, if_neg (by rw [hs]; decide)]
    have := h.step hx ht
    unfold endP at this
    rw [if_neg (by show ¬ st.must = true; rw [hm]; decide)] at this
    exact ⟨_, this⟩
theorem single_size {q : ByteArray} (h : singletonS q = true) : q.size = 1 := by
  unfold singletonS at h
  simp only [Bool.and_eq_true, decide_eq_true_iff] at h
  exact h.1
theorem FromK.sing {s : ByteArray} {k : Nat} {st : PSt} (h : FromK s k st) (h0 : st.stage ≠ 0) (h6 : st.stage ≠ 6) (hm : st.must = false) (n3 : ¬ (st.stage ≤ 1 ∧ extlangS (hereP (pieces s) k) = true ∧ st.T.extl.length ≠ 3))
    (n4 : ¬ (st.stage ≤ 2 ∧ scriptS (hereP (pieces s) k) = true)) (n5 : ¬ (st.stage ≤ 3 ∧ regionS (hereP (pieces s) k) = true)) (n6 : ¬ (st.stage ≤ 4 ∧ variantS (hereP (pieces s) k) = true)) (he : singletonS (hereP (pieces s) k) = true) :
    (hasT st.seen (hereP (pieces s) k) = true → outP (readS s) = (pNo, some (twiceP s k sSing))) ∧
    (hasT st.seen (hereP (pieces s) k) = false → FromK s (k + 1) { st with key := hereP (pieces s) k, must := true, stage := 5, seen := st.seen ++ [hereP (pieces s) k] }) := by
  obtain ⟨x, hx, _, hh, _⟩ := here_ok (okk_singleton he)
  rw [hh] at he n3 n4 n5 n6 ⊢
  have n7 : ¬ (st.key.size ≠ 0 ∧ 2 ≤ (lowS x.2).size ∧ okS (lowS x.2) = true) := fun h => by have := single_size he; omega
  refine ⟨fun hs => ?_, fun hs => ?_⟩
  · unfold twiceP
    rw [hx]
    refine h.err hx ?_
    unfold takeP furtherP
    rw [if_neg h0, if_neg h6, if_neg n3, if_neg n4, if_neg n5, if_neg n6, if_neg n7, if_pos ⟨hm, he⟩, if_pos hs]
  · have ht : takeP st x.1 (lowS x.2) = .ok { st with key := lowS x.2, must := true, stage := 5, seen := st.seen ++ [lowS x.2] } := by
      unfold takeP furtherP
      rw [if_neg h0, if_neg h6, if_neg n3, if_neg n4, if_neg n5, if_neg n6, if_neg n7, if_pos ⟨hm, he⟩, if_neg (by rw [hs]; decide)]
    have := h.step hx ht
    unfold endP at this
    rw [if_pos rfl] at this
    exact this
/-- One of an extension's own. -/
theorem FromK.sub {s : ByteArray} {k : Nat} {st : PSt} (h : FromK s k st) (h5 : st.stage = 5) (hk : st.key.size ≠ 0) (h2 : 2 ≤ (hereP (pieces s) k).size) :
    ∃ n, FromK s (k + 1) { extendP st (hereP (pieces s) k) with last := n } := by
  obtain ⟨x, hx, _, hh, ho⟩ := here_is (L := pieces s) (k := k) (by omega)
  rw [hh] at h2 ⊢
  have ht : takeP st x.1 (lowS x.2) = .ok (extendP st (lowS x.2)) := by
    unfold takeP furtherP
    rw [if_neg (by omega), if_neg (by omega), if_neg (by omega), if_neg (by omega), if_neg (by omega), if_neg (by omega), if_pos ⟨hk, h2, ho⟩]
  have := h.step hx ht
  unfold endP at this
  rw [if_neg (by show ¬ (extendP st _).must = true; unfold extendP; simp)] at this
  exact ⟨_, this⟩
theorem FromK.mark {s : ByteArray} {k : Nat} {st : PSt} (h : FromK s k st) (h0 : st.stage ≠ 0) (h6 : st.stage ≠ 6) (hm : st.must = false) (he : hereP (pieces s) k = sX) : FromK s (k + 1) { st with must := true, stage := 6 } := by
  obtain ⟨x, hx, _, hh, _⟩ := here_ok (L := pieces s) (k := k) (by rw [he]; exact okk_x)
  rw [hh] at he
  have ht : takeP st x.1 (lowS x.2) = .ok { st with must := true, stage := 6 } := by
    unfold takeP furtherP
    rw [if_neg h0, if_neg h6, he, if_neg (fun h => absurd h.2.1 (by decide +kernel)), if_neg (fun h => absurd h.2 (by decide +kernel)), if_neg (fun h => absurd h.2 (by decide +kernel)), if_neg (fun h => absurd h.2 (by decide +kernel)),
      if_neg (fun h => absurd h.2.1 (by decide +kernel)), if_neg (fun h => absurd h.2 (by decide +kernel)), if_pos ⟨hm, rfl⟩]
  have := h.step hx ht
  unfold endP at this
  rw [if_pos rfl] at this
  exact this
theorem FromK.priv {s : ByteArray} {k : Nat} {st : PSt} (h : FromK s k st) (h6 : st.stage = 6) (h1 : 1 ≤ (hereP (pieces s) k).size) :
    ∃ n, FromK s (k + 1) { st with T := { st.T with priv := st.T.priv ++ [hereP (pieces s) k] }, must := false, last := n } := by
  obtain ⟨x, hx, _, hh, ho⟩ := here_is (L := pieces s) (k := k) (by omega)
  rw [hh] at h1 ⊢
  have ht : takeP st x.1 (lowS x.2) = .ok { st with T := { st.T with priv := st.T.priv ++ [lowS x.2] }, must := false } := by
    unfold takeP
    rw [if_neg (by omega), if_pos h6, if_pos ho]
  have := h.step hx ht
  unfold endP at this
  rw [if_neg (by simp)] at this
  exact ⟨_, this⟩
end Go.Proofs.YtpnhjpplfjamkaaGreatDoor
