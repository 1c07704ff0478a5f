/-
  ParseRight: mathematics, helpers, the law.
-/
import Derived.Test.YtggfdmhfcpabdaaGreatDoorPRightA
import Derived.Test.YtggfdmhfcpabdaaGreatDoorKTags
import Derived.Test.YtggfdmhfcpabdaaGreatDoorPParsed
import Derived.Test.YtggfdmhfcpabdaaGreatDoorPPlace
import Derived.Test.YtggfdmhfcpabdaaGreatDoorPHelp
import Derived.Test.YtggfdmhfcpabdaaGreatDoorPSame

namespace Go.Proofs.YtggfdmhfcpabdaaGreatDoor
open Go Go.RowKit

def Nd (p : ByteArray) : Prop := (45 : UInt8) ∉ bs p
instance (p : ByteArray) : Decidable (Nd p) := by unfold Nd; infer_instance
theorem nd_empty : Nd ByteArray.empty := by decide
theorem nd_pick {l : List ByteArray} (h : ∀ x ∈ l, Nd x) (n : Int) : Nd (pickT l n) := by
  unfold pickT
  rcases Nat.lt_or_ge (pickI l.length n) l.length with h1 | h1
  · rw [List.getD_eq_getElem?_getD, List.getElem?_eq_getElem h1]
    exact h _ (List.getElem_mem h1)
  · rw [List.getD_eq_getElem?_getD, List.getElem?_eq_none h1]
    exact nd_empty
theorem nd_title {p : ByteArray} (h : Nd p) : Nd (titleS p) := by
  have hu : ∀ c : UInt8, (decide (upB c = 45) = decide (c = 45)) := byte_all _ (by decide +kernel)
  have hl : ∀ c : UInt8, (decide (lowB c = 45) = decide (c = 45)) := byte_all _ (by decide +kernel)
  unfold Nd at *
  unfold titleS; rw [bs_ofL]
  cases hb : bs p with
  | nil => simp [titleL]
  | cons c r =>
    rw [hb, List.mem_cons, not_or] at h
    simp only [titleL, List.mem_cons, not_or]
    refine ⟨fun e => h.1 ?_, fun hm => ?_⟩
    · have := hu c
      rw [decide_eq_true e.symm] at this
      exact (of_decide_eq_true this.symm).symm
    · obtain ⟨d, hd, e⟩ := List.mem_map.1 hm
      have := hl d
      rw [decide_eq_true e] at this
      exact h.2 ((of_decide_eq_true this.symm) ▸ hd)
theorem nd_addVs : ∀ (l : List Int) (acc : List ByteArray), (∀ x ∈ acc, Nd x) → (∀ x ∈ variantsL, Nd x) → ∀ x ∈ l.foldl (fun acc n => addP acc (pickT variantsL n)) acc, Nd x
  | [], _, h, _ => h
  | n :: r, acc, h, hv => by
    rw [List.foldl_cons]
    refine nd_addVs r _ (fun x hx => ?_) hv
    unfold addP at hx
    split at hx
    · exact h x hx
    · rcases List.mem_append.1 hx with h1 | h1
      · exact h x h1
      · simp at h1; subst h1; exact nd_pick hv n
structure TagNd (T : TagM) : Prop where
  sl : Nd T.lang
  ss : Nd T.script
  sr : Nd T.region
  se : ∀ x ∈ T.extl, Nd x
  sv : ∀ x ∈ T.vars, Nd x
  sp : ∀ x ∈ T.priv, Nd x
  sx : ∀ x ∈ T.exts, Nd x.1 ∧ ∀ y ∈ x.2, Nd y
theorem madeT_nd (S : SeedM) : TagNd (madeT S) := by
  have sE : ∀ y e, ∀ x ∈ madeE y e, Nd x := fun y e x hx => by
    unfold madeE at hx
    split at hx
    · simp at hx; subst hx; exact nd_pick (by decide) _
    · simp at hx
  have sV : ∀ x ∈ madeV S.vars, Nd x := nd_addVs _ [] (fun x h => by simp at h) (by decide)
  have sP : ∀ x ∈ madeP S.priv, Nd x := fun x hx => by
    unfold madeP at hx
    obtain ⟨y, _, rfl⟩ := List.mem_map.1 hx
    exact nd_pick (by decide) _
  have sX : ∀ x ∈ madeX S.keys, Nd x.1 ∧ ∀ y ∈ x.2, Nd y := fun x hx => by
    unfold madeX extKs at hx
    obtain ⟨y, _, rfl⟩ := List.mem_map.1 hx
    refine ⟨?_, ?_⟩
    · show Nd (keyI y.2)
      unfold keyI
      rcases Nat.lt_or_ge y.2 4 with h | h
      · have : ∀ k : Fin 4, Nd (([⟨#[117]⟩, ⟨#[116]⟩, ⟨#[97]⟩, ⟨#[57]⟩] : List ByteArray).getD k.val ByteArray.empty) := by decide +kernel
        exact this ⟨y.2, h⟩
      · rw [List.getD_eq_getElem?_getD, List.getElem?_eq_none (by simpa using h)]
        exact nd_empty
    · intro z hz
      have hz : z ∈ subsN (pickI 1000 y.1) := hz
      unfold subsN at hz
      obtain ⟨k, _, rfl⟩ := List.mem_map.1 hz
      exact nd_pick (by decide) _
  have sE' := sE (pickT langsL S.lang) S.extl
  have sl : Nd (pickT langsL S.lang) := nd_pick (by decide) _
  have ss : Nd (pickT scriptsL S.script) := nd_pick (by decide) _
  have sr : Nd (pickT regionsL S.region) := nd_pick (by decide) _
  have add2 : ∀ {l m : List ByteArray}, (∀ x ∈ l, Nd x) → (∀ x ∈ m, Nd x) → ∀ x ∈ l ++ m, Nd x := fun h1 h2 x hx => (List.mem_append.1 hx).elim (h1 x) (h2 x)
  have addX : ∀ {m : List (ByteArray × List ByteArray)}, (∀ x ∈ m, Nd x.1 ∧ ∀ y ∈ x.2, Nd y) → ∀ x ∈ madeX S.keys ++ m, Nd x.1 ∧ ∀ y ∈ x.2, Nd y := fun h2 x hx => (List.mem_append.1 hx).elim (sX x) (h2 x)
  unfold madeT spoiltT
  generalize pickT langsL S.lang = y1 at *
  generalize pickT scriptsL S.script = y2 at *
  generalize pickT regionsL S.region = y3 at *
  generalize madeE y1 S.extl = mE at *
  generalize madeV S.vars = mV at *
  generalize madeX S.keys = mX at *
  generalize madeP S.priv = mP at *
  split
  · exact ⟨sl, ss, sr, sE', add2 sV (by decide), sP, sX⟩
  split
  · exact ⟨nd_title sl, ss, sr, sE', sV, sP, sX⟩
  split
  · exact ⟨sl, ss, sr, sE', sV, sP, addX (by decide)⟩
  split
  · exact ⟨sl, by show Nd (⟨#[108, 97, 116]⟩ : ByteArray); decide, sr, sE', sV, sP, sX⟩
  split
  · exact ⟨sl, ss, sr, sE', sV, sP, sX⟩
  split
  · exact ⟨sl, ss, sr, sE', sV, add2 sP (by decide), sX⟩
  split
  · exact ⟨sl, ss, sr, sE', sV, sP, addX (by decide)⟩
  split
  · exact ⟨nd_empty, ss, sr, sE', sV, sP, sX⟩
  · exact ⟨sl, ss, sr, sE', sV, sP, sX⟩
theorem tag_nd {T : TagM} (h : TagNd T) : ∀ x ∈ subtagsT T, (45 : UInt8) ∉ bs x := by
  intro x hx
  unfold subtagsT at hx
  split at hx
  · simp only [List.mem_append] at hx
    rcases hx with (((((hx | hx) | hx) | hx) | hx) | hx) | hx
    · rw [oneT_mem hx]; exact h.sl
    · exact h.se x hx
    · rw [oneT_mem hx]; exact h.ss
    · rw [oneT_mem hx]; exact h.sr
    · exact h.sv x hx
    · obtain ⟨y, hy, hm⟩ := List.mem_flatMap.1 hx
      rcases List.mem_cons.1 hm with rfl | hm
      · exact (h.sx y hy).1
      · exact (h.sx y hy).2 x hm
    · unfold privT at hx
      split at hx
      · simp at hx
      · rcases List.mem_cons.1 hx with rfl | hx
        · decide
        · exact h.sp x hx
  · unfold splS at hx
    obtain ⟨q, hq, rfl⟩ := List.mem_map.1 hx
    rw [bs_ofL]; exact spl_mem _ q hq
end Go.Proofs.YtggfdmhfcpabdaaGreatDoor

namespace Go.Proofs.YtggfdmhfcpabdaaGreatDoor
open Go Go.RowKit

theorem okk_letters {s : ByteArray} {lo hi : Nat} (h : lettersS s lo hi = true) (hh : hi ≤ 8) : okS s = true := by
  unfold lettersS at h
  simp only [Bool.and_eq_true, decide_eq_true_iff] at h
  unfold okS
  rw [Bool.and_eq_true, decide_eq_true_iff]
  exact ⟨by omega, has_mono (fun c hc => by unfold isN; rw [hc]; rfl) h.1⟩
theorem okk_language {s : ByteArray} (h : languageS s = true) : okS s = true := okk_letters h (by decide)
theorem okk_extlang {s : ByteArray} (h : extlangS s = true) : okS s = true := okk_letters h (by decide)
theorem okk_script {s : ByteArray} (h : scriptS s = true) : okS s = true := okk_letters h (by decide)
theorem okk_region {s : ByteArray} (h : regionS s = true) : okS s = true := by
  unfold regionS at h
  rw [Bool.or_eq_true] at h
  rcases h with h | h
  · exact okk_letters h (by decide)
  · rw [Bool.and_eq_true, decide_eq_true_iff] at h
    unfold okS
    rw [Bool.and_eq_true, decide_eq_true_iff]
    exact ⟨by omega, has_mono (fun c hc => by unfold isN; rw [hc]; simp) h.2⟩
theorem okk_variant {s : ByteArray} (h : variantS s = true) : okS s = true := by
  unfold variantS at h
  simp only [Bool.and_eq_true, Bool.or_eq_true, decide_eq_true_iff] at h
  unfold okS
  rw [Bool.and_eq_true, decide_eq_true_iff]
  exact ⟨by rcases h.2 with h2 | h2 <;> omega, h.1⟩
theorem okk_singleton {s : ByteArray} (h : singletonS s = true) : okS s = true := by
  unfold singletonS at h
  simp only [Bool.and_eq_true, decide_eq_true_iff] at h
  unfold okS
  rw [Bool.and_eq_true, decide_eq_true_iff]
  exact ⟨by omega, h.2.1⟩
theorem okk_x : okS sX = true := by decide +kernel
theorem okk_pos {s : ByteArray} (h : okS s = true) : s.size ≠ 0 := by
  unfold okS alnumS has at h
  simp only [Bool.and_eq_true] at h
  intro h0
  have : bs s = [] := List.eq_nil_of_length_eq_zero (by rw [size_bs]; exact h0)
  rw [this] at h
  simp at h
theorem okk_low (p : ByteArray) : okS (lowS p) = okS p := by
  unfold okS
  rw [size_lowS]
  congr 1
  exact has_map isN lowB isN_low p

/-- What stands there, if it is a subtag. -/
def hereP (L : List (Nat × ByteArray)) (k : Nat) : ByteArray := match L[k]? with
  | some x => if okS x.2 = true then lowS x.2 else ByteArray.empty
  | none => ByteArray.empty
theorem here_none {L : List (Nat × ByteArray)} {k : Nat} (h : L.length ≤ k) : hereP L k = ByteArray.empty := by
  unfold hereP; rw [List.getElem?_eq_none h]
theorem here_some {L : List (Nat × ByteArray)} {k : Nat} {x : Nat × ByteArray} (h : L[k]? = some x) : hereP L k = if okS x.2 = true then lowS x.2 else ByteArray.empty := by
  unfold hereP; rw [h]
/-- A piece of some kind stands there. -/
theorem here_is {L : List (Nat × ByteArray)} {k : Nat} (h : (hereP L k).size ≠ 0) : ∃ x, L[k]? = some x ∧ k < L.length ∧ hereP L k = lowS x.2 ∧ okS (lowS x.2) = true := by
  cases hx : L[k]? with
  | none => rw [show hereP L k = ByteArray.empty by unfold hereP; rw [hx]] at h; exact absurd rfl h
  | some x =>
    rw [here_some hx] at h ⊢
    by_cases ho : okS x.2 = true
    · rw [if_pos ho] at h ⊢
      exact ⟨x, rfl, (List.getElem?_eq_some_iff.1 hx).1, rfl, by rw [okk_low]; exact ho⟩
    · rw [if_neg ho] at h; exact absurd rfl h
theorem here_ok {L : List (Nat × ByteArray)} {k : Nat} (h : okS (hereP L k) = true) : ∃ x, L[k]? = some x ∧ k < L.length ∧ hereP L k = lowS x.2 ∧ okS (lowS x.2) = true := here_is (okk_pos h)

/-- What is told of a text, from the k-th piece on. -/
def FromK (s : ByteArray) (k : Nat) (st : PSt) : Prop := outP (readS s) = outP (finP s.size (runP ((pieces s).drop k) st))
theorem FromK.start (s : ByteArray) : FromK s 0 pSt0 := by unfold FromK readS; rw [List.drop_zero]
theorem drop_cons {α : Type} {L : List α} {k : Nat} {x : α} (h : L[k]? = some x) : L.drop k = x :: L.drop (k + 1) := by
  obtain ⟨hk, rfl⟩ := List.getElem?_eq_some_iff.1 h
  exact List.drop_eq_getElem_cons hk
theorem FromK.step {s : ByteArray} {k : Nat} {st st' : PSt} {x : Nat × ByteArray} (h : FromK s k st) (hx : (pieces s)[k]? = some x) (ht : takeP st x.1 (lowS x.2) = .ok st') : FromK s (k + 1) (endP st' x.1 x.2.size) := by
  unfold FromK at *
  rw [h, drop_cons hx]
  simp only [runP, ht]
theorem FromK.err {s : ByteArray} {k : Nat} {st : PSt} {x : Nat × ByteArray} {e : PErr} (h : FromK s k st) (hx : (pieces s)[k]? = some x) (ht : takeP st x.1 (lowS x.2) = .error e) : outP (readS s) = (pNo, some e) := by
  unfold FromK at h
  rw [h, drop_cons hx]
  simp only [runP, ht, finP, outP]
theorem FromK.fin {s : ByteArray} {k : Nat} {st : PSt} (h : FromK s k st) (hk : (pieces s).length ≤ k) : outP (readS s) = if st.must = true then (pNo, some (10, s.size, sEnd)) else (st.T, none) := by
  unfold FromK at h
  rw [h, List.drop_eq_nil_of_le hk]
  simp only [runP, finP]
  split <;> rfl

/-- What is wrong where it stands. -/
def wrongP (s : ByteArray) (k : Nat) : PErr := match (pieces s)[k]? with
  | some x => (10, x.1, sSub)
  | none => (10, s.size, sEnd)
def twiceP (s : ByteArray) (k : Nat) (what : ByteArray) : PErr := match (pieces s)[k]? with
  | some x => (11, x.1, what)
  | none => (11, 0, what)

theorem take_bad {st : PSt} {a : Nat} {p : ByteArray} (h : okS p = false) : takeP st a p = .error (10, a, sSub) := by
  have n1 : p ≠ sX := fun e => by rw [e, okk_x] at h; cases h
  have n2 : ¬ languageS p = true := fun e => by rw [okk_language e] at h; cases h
  have n3 : ¬ extlangS p = true := fun e => by rw [okk_extlang e] at h; cases h
  have n4 : ¬ scriptS p = true := fun e => by rw [okk_script e] at h; cases h
  have n5 : ¬ regionS p = true := fun e => by rw [okk_region e] at h; cases h
  have n6 : ¬ variantS p = true := fun e => by rw [okk_variant e] at h; cases h
  have n7 : ¬ singletonS p = true := fun e => by rw [okk_singleton e] at h; cases h
  have n8 : ¬ okS p = true := by rw [h]; decide
  unfold takeP furtherP
  split
  · first | rfl | rw [if_neg n1, if_neg n2]
  · split
    · first | rfl | rw [if_neg n8]
    · first | rfl | rw [if_neg (fun h => n3 h.2.1), if_neg (fun h => n4 h.2), if_neg (fun h => n5 h.2), if_neg (fun h => n6 h.2), if_neg (fun h => n8 h.2.2), if_neg (fun h => n7 h.2), if_neg (fun h => n1 h.2)]
end Go.Proofs.YtggfdmhfcpabdaaGreatDoor

namespace Go.Proofs.YtggfdmhfcpabdaaGreatDoor
open Go Go.RowKit

def dn (s : ByteArray) : Nat := (bs s).count 45
theorem dn_append (a b : ByteArray) : dn (a ++ b) = dn a + dn b := by
  unfold dn
  rw [show bs (a ++ b) = bs a ++ bs b by simp [bs], List.count_append]
theorem dn_le (s : ByteArray) : dn s ≤ s.size := by
  unfold dn
  have := List.count_le_length (a := (45 : UInt8)) (l := bs s)
  rw [size_bs] at this
  exact this
theorem dn_cut (s : ByteArray) (i j n : Nat) (h : i ≤ j) : dn (s.extract 0 i) + dn (s.extract j n) ≤ dn s := by
  unfold dn
  rw [bs_extract, bs_extract, List.drop_zero, Nat.sub_zero]
  have h1 : (bs s).count 45 = ((bs s).take i).count 45 + ((bs s).drop i).count 45 := by rw [← List.count_append, List.take_append_drop]
  have h2 : (bs s).drop j = ((bs s).drop i).drop (j - i) := by rw [List.drop_drop]; congr 1; omega
  have h3 : (((bs s).drop j).take (n - j)).count 45 ≤ ((bs s).drop i).count 45 := by
    rw [h2]
    exact ((List.take_sublist _ _).trans (List.drop_sublist _ _)).count_le 45
  omega
theorem dn3 (s c : ByteArray) (hc : c.size = 1) (i j n : Nat) (h : i ≤ j) : dn (s.extract 0 i ++ c ++ s.extract j n) ≤ dn s + 1 := by
  rw [dn_append, dn_append]
  have h1 := dn_cut s i j n h
  have h2 := dn_le c
  omega
theorem dn2 (s : ByteArray) (i j n : Nat) (h : i ≤ j) : dn (s.extract 0 i ++ s.extract j n) ≤ dn s + 1 := by
  rw [dn_append]
  have h1 := dn_cut s i j n h
  omega
theorem spl_count (l : List UInt8) : (spl l).length = l.count 45 + 1 := by
  induction l with
  | nil => rfl
  | cons c r ih =>
    unfold spl
    split
    · rename_i h
      subst h
      rw [List.length_cons, ih, List.count_cons_self]
    · rename_i h
      rw [List.length_cons, List.length_tail, List.count_cons_of_ne h, ih]
      omega
theorem splS_dn (s : ByteArray) : (splS s).length = dn s + 1 := by rw [splS_length, spl_count]; rfl
theorem dn_join (l : List ByteArray) (h : ∀ x ∈ l, (45 : UInt8) ∉ bs x) : dn (joinS l) ≤ l.length := by
  cases l with
  | nil => exact Nat.le_of_eq (show dn (joinS []) = 0 by decide)
  | cons a r =>
    have h1 := splS_dn (joinS (a :: r))
    rw [splS_length] at h1
    have h2 : spl (bs (joinS (a :: r))) = (a :: r).map bs := by
      unfold joinS
      rw [bs_ofL]
      exact spl_joinP (by simp) (fun p hp => by obtain ⟨x, hx, rfl⟩ := List.mem_map.1 hp; exact h x hx)
    rw [h2, List.length_map] at h1
    omega
theorem made_rows (S : SeedM) : (madeT S).extl.length ≤ 5 ∧ (madeT S).grand.size ≤ 50 := by
  have hE : ∀ y e, (madeE y e).length ≤ 1 := fun y e => by unfold madeE; split <;> simp
  have hE' := hE (pickT langsL S.lang) S.extl
  unfold madeT spoiltT
  generalize madeE (pickT langsL S.lang) S.extl = mE at *
  repeat' (first | split | exact ⟨by dsimp only; (try simp only [List.length_append, List.length_cons, List.length_nil]); omega, by dsimp only; decide⟩)
theorem made_dn (S : SeedM) : dn (joinS (subtagsT (madeT S))) ≤ 97 := by
  have h := madeT_tiny S
  refine Nat.le_trans (dn_join _ (tag_nd (madeT_nd S))) ?_
  obtain ⟨r1, r2⟩ := made_rows S
  unfold subtagsT
  split
  · have h1 := oneT_len (madeT S).lang
    have h2 := oneT_len (madeT S).script
    have h3 := oneT_len (madeT S).region
    have h4 := flat_lenT (madeT S).exts (fun x hx => (h.sx x hx).2.1)
    have h5 : (privT (madeT S).priv).length ≤ (madeT S).priv.length + 1 := by unfold privT; split <;> simp
    have := h.e; have := h.v; have := h.x; have := h.p
    simp only [List.length_append]
    omega
  · have := splS_le (madeT S).grand
    omega
theorem run_oks : ∀ (xs : List (Nat × ByteArray)) (st st' : PSt), runP xs st = (st', none) → ∀ x ∈ xs, okS x.2 = true
  | [], _, _, _ => fun x hx => by cases hx
  | x :: r, st, st', h => by
    simp only [runP] at h
    cases ht : takeP st x.1 (lowS x.2) with
    | error e => rw [ht] at h; simp at h
    | ok s2 =>
      rw [ht] at h
      intro y hy
      rcases List.mem_cons.1 hy with rfl | hy
      · cases ho : okS y.2 with
        | true => rfl
        | false =>
          rw [take_bad (show okS (lowS y.2) = false by rw [okk_low]; exact ho)] at ht
          cases ht
      · exact run_oks r _ st' h y hy
theorem grand_small : ∀ k : Fin 26, (nameG k.val).size ≤ 100 := by decide +kernel
theorem flat_ge : ∀ (l : List (ByteArray × List ByteArray)), l.length ≤ (l.flatMap extT).length ∧ ∀ x ∈ l, x.2.length ≤ (l.flatMap extT).length
  | [] => ⟨Nat.le_refl _, fun x h => by cases h⟩
  | a :: r => by
    obtain ⟨h1, h2⟩ := flat_ge r
    have h3 : (extT a).length = a.2.length + 1 := rfl
    rw [List.flatMap_cons, List.length_append, List.length_cons]
    refine ⟨by omega, fun x hx => ?_⟩
    rcases List.mem_cons.1 hx with rfl | hx
    · omega
    · have := h2 x hx; omega
theorem parse_mid {s : ByteArray} {T : TagM} (h : parseS s = (T, none)) (hn : (splS s).length ≤ 100) : TagMid T := by
  have hr := (parsed_right s T h).2
  have hnn : (subtagsT T).length = (splS s).length := by rw [hr, ← lows_pieces, ← pieces_length]; exact List.length_map ..
  unfold parseS at h
  split at h
  · rename_i hf
    cases h
    obtain ⟨k, hk⟩ := Option.isSome_iff_exists.1 hf
    have hk26 : k < 26 := by
      unfold findV at hk
      split at hk
      · rename_i hc; cases hk; exact hc.1
      · cases hk
    have hg := (findV_iff s k hk26).1 hk
    have hz : (lowS s).size ≤ 100 := by rw [hg]; exact grand_small ⟨k, hk26⟩
    exact ⟨Nat.zero_le _, Nat.zero_le _, Nat.zero_le _, Nat.zero_le _, Nat.zero_le _, Nat.zero_le _, Nat.zero_le _, hz, fun x hx => (by cases hx), fun x hx => (by cases hx), fun x hx => (by cases hx), fun x hx => (by cases hx), by omega⟩
  · obtain ⟨⟨st, o⟩, hq⟩ : ∃ z, runP (pieces s) pSt0 = z := ⟨_, rfl⟩
    unfold readS at h
    rw [hq] at h
    cases o with
    | some e => cases h
    | none =>
      have hok := run_oks _ _ _ hq
      have hgr := (runP_good (pieces s) pSt0 0 st PInv.start (fun _ => rfl) (by decide) hq).1.grand
      unfold finP at h
      dsimp only at h
      split at h
      · cases h
      · cases h
        have hg : st.T.grand.size = 0 := by rw [hgr]; rfl
        have hsz : ∀ x ∈ subtagsT st.T, x.size ≤ 8 := by
          intro x hx
          rw [hr, ← lows_pieces] at hx
          obtain ⟨y, hy, rfl⟩ := List.mem_map.1 hx
          rw [size_lowS]
          have := hok y hy
          unfold okS at this
          rw [Bool.and_eq_true] at this
          exact of_decide_eq_true this.1
        have hlen := hnn
        unfold subtagsT at hlen hsz
        rw [if_pos hg] at hlen hsz
        simp only [List.length_append] at hlen
        simp only [List.mem_append] at hsz
        have hf := flat_ge st.T.exts
        have hp : st.T.priv.length ≤ (privT st.T.priv).length := by unfold privT; split <;> simp only [List.length_cons, List.length_nil] <;> omega
        have one : ∀ q : ByteArray, (∀ x ∈ oneT q, x.size ≤ 8) → q.size ≤ 1000 := fun q hq => by
          by_cases h0 : q.size = 0
          · omega
          · have := hq q (by unfold oneT; rw [if_neg h0]; simp)
            omega
        refine ⟨by omega, by omega, by omega, by omega, one _ fun x hx => hsz x (by simp [hx]), one _ fun x hx => hsz x (by simp [hx]), one _ fun x hx => hsz x (by simp [hx]), by omega, fun x hx => ?_, fun x hx => ?_, fun x hx => ?_, fun x hx => ⟨?_, ?_, fun y hy => ?_⟩, by omega⟩
        · have := hsz x (by simp [hx]); omega
        · have := hsz x (by simp [hx]); omega
        · have := hsz x (.inr (by unfold privT; rw [if_neg (by intro h0; rw [List.eq_nil_of_length_eq_zero h0] at hx; cases hx)]; exact List.mem_cons_of_mem _ hx)); omega
        · have := hsz x.1 (.inl (.inr (List.mem_flatMap.2 ⟨x, hx, List.mem_cons_self ..⟩))); omega
        · have := hf.2 x hx; omega
        · have := hsz y (.inl (.inr (List.mem_flatMap.2 ⟨x, hx, List.mem_cons_of_mem _ hy⟩))); omega
end Go.Proofs.YtggfdmhfcpabdaaGreatDoor

namespace Go.Proofs.YtggfdmhfcpabdaaGreatDoor
open Go Go.RowKit

set_option maxRecDepth 100000 in
theorem text_mid (v : Value) (T : TagM) (w : World) (hT : TagIs w v T) (ht : TagMid T) :
    Calls Tryz.prog 10 #[v] w fun e w' => e = .returned (.string (joinS (subtagsT T))) ∧ Below w.heap.size w w' := by
  have SR := Lib.hid (fun w5 (hb : Below w.heap.size w w5) => subtags_ref v T w5 (hT.below hb) ht.fits)
  have HLN := Lib.hid (mid_len ht)
  have HSZ := Lib.hid (mid_sizes ht)
  obtain ⟨ve, vv, vx, vp, rfl, ⟨a1, c1, rfl, _⟩, ⟨a2, c2, rfl, _⟩, ⟨a3, c3, rfl, _⟩, ⟨a4, c4, rfl, _⟩⟩ := hT
  clear ht
  go_enter Tryz.func10, Tryz.ntmps10
  go_wp2_with (first
    | (go_at_call 31; (with_reducible refine (SR.out _ ((Below.refl _ w).alloc (Nat.le_refl _) _)).mono ?_); rintro e w6 ⟨u, rfl, ho, hb6⟩; have JR := Lib.hid (joinRow7 ho (by have := HLN.out; omega) (fun p hp => by have := HSZ.out p hp; omega)); clear ho)
    | (go_at_call 30; (with_reducible refine JR.out.mono ?_); rintro e w7 ⟨rfl, rfl⟩))
  go_ret
  exact ⟨rfl, ((Below.refl _ w).alloc (Nat.le_refl _) _).trans (hb6.mono (by simp))⟩


def SpoilsN (s : ByteArray) (e : Ending) : Prop := ∃ t, e = .returned (.string t) ∧ t.size ≤ s.size + 1 ∧ dn t ≤ dn s + 1
set_option maxRecDepth 100000 in
set_option maxHeartbeats 2000000 in
theorem spoilt7_dn (s : ByteArray) (q0 q1 q2 : Int) (w : World) (hs : s.size ≤ 1000000) :
    Calls Tryz.prog 17 #[.string s, .agg #[.int .i64 q0, .int .i64 q1, .int .i64 q2]] w fun e w' => SpoilsN s e ∧ Below w.heap.size w w' := by
  have hcv := conv_byte (W := (w.alloc (.cells #[.int .i64 q0, .int .i64 q1, .int .i64 q2] 25)).alloc (.cells #[.int .u8 (q2 % 256)] 5)) (g := w.heap.size + 1) q2 (by have := World.alloc_heap_new (w.alloc (.cells #[.int .i64 q0, .int .i64 q1, .int .i64 q2] 25)) (.cells #[.int .u8 (q2 % 256)] 5); rwa [World.size_alloc] at this)
  have hB := Lib.hid (((Below.refl w.heap.size w).alloc (Nat.le_refl _) (.cells #[.int .i64 q0, .int .i64 q1, .int .i64 q2] 25)).alloc (by simp) (.cells #[.int .u8 (q2 % 256)] 5))
  have hsb := size_byteT q2
  generalize byteT q2 = c at *
  have HSB := Lib.hid hsb
  clear hsb
  by_cases hz : s.size = 0
  · have he := empty_true hz
    clear hs
    go_enter Tryz.func17, Tryz.ntmps17
    go_wp2_with fail
    go_ret
    exact ⟨⟨_, rfl, by rw [HSB.out]; omega, by have := dn_le c; have := HSB.out; omega⟩, hB.out⟩
  · have he := empty_false (s := s) (by omega)
    have R3 := Lib.hid (fun w5 => show Calls Tryz.prog 14 #[.int .i64 q0, .int .i64 3] w5 _ from rest7_any q0 3 w5 (by decide) (by decide))
    have RS := Lib.hid (fun w5 => rest7_any q1 s.size w5 (by omega) (by omega))
    have hr := (pick_facts 3 q0 (by decide)).2.2.2
    have hi := (pick_facts s.size q1 (by omega)).2.2.2
    generalize pickI s.size q1 = i at *
    have hi0 : (0 : Int) ≤ (i : Int) := by omega
    have hi1 : (i : Int) < (s.size : Int) := by omega
    have hi2 : (i : Int) + 1 ≤ (s.size : Int) := by omega
    have hi3 : (i : Int) ≤ (s.size : Int) := by omega
    have hs1 : (s.size : Int) ≤ 1000000 := by omega
    have hm : min i s.size = i := by omega
    have n1 : ¬ 9223372036854775807 < i + 1 := by omega
    have n2 : ¬ 9223372036854775807 < i + 1 + (s.size - (i + 1)) := by omega
    have n3 : ¬ 9223372036854775807 < i + (s.size - (i + 1)) := by omega
    have n4 : ¬ 9223372036854775807 < i + 1 + (s.size - i) := by omega
    have csz : c.size = 1 := HSB.out
    have hp : pickI 3 q0 = 0 ∨ pickI 3 q0 = 1 ∨ pickI 3 q0 = 2 := by omega
    clear hr
    rcases hp with hp | hp | hp
    · rw [hp] at R3
      clear hp
      go_enter Tryz.func17, Tryz.ntmps17
      go_upto_region 7 with (first
        | (go_at_call 14; (with_reducible refine (RS.out _).mono ?_); rintro e w5 ⟨rfl, rfl⟩)
        | (go_at_call 14; (with_reducible refine (R3.out _).mono ?_); rintro e w5 ⟨rfl, rfl⟩))
      go_region
      all_goals
        go_wp2_with fail
        go_ret
        exact ⟨⟨_, rfl, by simp only [ByteArray.size_append, ByteArray.size_extract]; omega, by simp only [dn_append]; have h5 := dn_cut s i (i + 1) s.size (by omega); have h6 := dn_cut s i i s.size (by omega); have h7 := dn_le c; omega⟩, hB.out.drew⟩
    · rw [hp] at R3
      clear hp
      go_enter Tryz.func17, Tryz.ntmps17
      go_upto_region 9 with (first
        | (go_at_call 14; (with_reducible refine (RS.out _).mono ?_); rintro e w5 ⟨rfl, rfl⟩)
        | (go_at_call 14; (with_reducible refine (R3.out _).mono ?_); rintro e w5 ⟨rfl, rfl⟩))
      go_region
      all_goals
        go_wp2_with fail
        go_ret
        exact ⟨⟨_, rfl, by simp only [ByteArray.size_append, ByteArray.size_extract]; omega, by simp only [dn_append]; have h5 := dn_cut s i (i + 1) s.size (by omega); have h6 := dn_cut s i i s.size (by omega); have h7 := dn_le c; omega⟩, hB.out.drew⟩
    · rw [hp] at R3
      clear hp
      go_enter Tryz.func17, Tryz.ntmps17
      go_upto_region 10 with (first
        | (go_at_call 14; (with_reducible refine (RS.out _).mono ?_); rintro e w5 ⟨rfl, rfl⟩)
        | (go_at_call 14; (with_reducible refine (R3.out _).mono ?_); rintro e w5 ⟨rfl, rfl⟩))
      go_region
      all_goals
        go_wp2_with fail
        go_ret
        exact ⟨⟨_, rfl, by simp only [ByteArray.size_append, ByteArray.size_extract]; omega, by simp only [dn_append]; have h5 := dn_cut s i (i + 1) s.size (by omega); have h6 := dn_cut s i i s.size (by omega); have h7 := dn_le c; omega⟩, hB.out.drew⟩

theorem errM_none {W : World} {ev : Value} (h : ErrP W none ev) : ev = .nilIface := by
  rcases h with ⟨_, h⟩ | ⟨x, b, h, _⟩
  · exact h
  · cases h
theorem errM_some {W : World} {ev : Value} {x : PErr} (h : ErrP W (some x) ev) : ∃ b, ev = .iface 96 (.pointer (some ⟨b, 0, none⟩)) := by
  rcases h with ⟨h, _⟩ | ⟨x, b, _, h, _⟩
  · cases h
  · exact ⟨b, h⟩
theorem zero_is (W : World) : TagIs W (.agg #[.string ⟨#[]⟩, .slice none 0 0, .string ⟨#[]⟩, .string ⟨#[]⟩, .slice none 0 0, .slice none 0 0, .slice none 0 0, .string ⟨#[]⟩]) pNo :=
  ⟨_, _, _, _, rfl, row_nil W, row_nil W, xrow_nil W, row_nil W⟩
theorem place_ways {s : ByteArray} {p : Nat} (h : p = 0 ∨ p = s.size ∨ (1 ≤ p ∧ (bs s)[p - 1]? = some 45)) : (p = 0) ∨ (p ≠ 0 ∧ p = s.size) ∨ ∃ k, p = k + 1 ∧ k + 1 < s.size ∧ ∃ hk : k < s.size, s[k] = 45 := by
  rcases h with h | h | ⟨h1, h2⟩
  · exact .inl h
  · by_cases h0 : p = 0
    · exact .inl h0
    · exact .inr (.inl ⟨h0, h⟩)
  · have hlt : p - 1 < (bs s).length := (List.getElem?_eq_some_iff.1 h2).1
    rw [size_bs] at hlt
    by_cases he : p = s.size
    · exact .inr (.inl ⟨by omega, he⟩)
    · refine .inr (.inr ⟨p - 1, by omega, by omega, hlt, ?_⟩)
      have := (List.getElem?_eq_some_iff.1 h2).2
      have h3 : s.data[p - 1] = 45 := by simpa [bs] using this
      exact h3

set_option maxRecDepth 100000 in
set_option maxHeartbeats 4000000 in
theorem right7_any (s : ByteArray) (w : World) (hs : s.size ≤ 40000) (hn : (splS s).length ≤ 100) (hl : ParseLaid w) :
    Calls Tryz.prog 22 #[.string s] w fun e w' => e = .returned (.bool true) ∧ Below w.heap.size w w' := by
  obtain ⟨⟨T, r⟩, hq⟩ : ∃ z, parseS s = z := ⟨_, rfl⟩
  have PA := Lib.hid ((parse_own s w (by omega) hl.g).mono (R' := fun e w7 => ∃ h1 h2 h3 h4 h5 h6 h7 h8 ev, e = .returned (.tuple #[.agg #[.string T.lang, .slice h1 T.extl.length h2, .string T.script, .string T.region, .slice h3 T.vars.length h4, .slice h5 T.exts.length h6, .slice h7 T.priv.length h8, .string T.grand], ev]) ∧ TagIs w7 (.agg #[.string T.lang, .slice h1 T.extl.length h2, .string T.script, .string T.region, .slice h3 T.vars.length h4, .slice h5 T.exts.length h6, .slice h7 T.priv.length h8, .string T.grand]) T ∧ ErrP w7 r ev ∧ Below w.heap.size w w7) fun e w7 ⟨tv, ev, p, q, o, z⟩ => by
    rw [hq] at q o
    obtain ⟨ae, ac, av, vc, ax, xc, ap, pc, rfl⟩ := tag_shape q
    exact ⟨ae, ac, av, vc, ax, xc, ap, pc, ev, p, q, o, z⟩)
  go_enter Tryz.func22, Tryz.ntmps22
  go_upto_region 2 with (go_at_call 19; (with_reducible refine PA.out.mono ?_); rintro e w8 ⟨h1, h2, h3, h4, h5, h6, h7, h8, ev, rfl, hI8, hE8, hB8⟩)
  obtain ⟨WT, hWT⟩ : ∃ W, w8.alloc (.cells #[.string T.lang, .slice h1 T.extl.length h2, .string T.script, .string T.region, .slice h3 T.vars.length h4, .slice h5 T.exts.length h6, .slice h7 T.priv.length h8, .string T.grand] 31) = W := ⟨_, rfl⟩
  have hbT : Below w8.heap.size w8 WT := by rw [← hWT]; exact (Below.refl _ _).alloc (Nat.le_refl _) _
  have hT : WT.heap[w8.heap.size]? = some (.cells #[.string T.lang, .slice h1 T.extl.length h2, .string T.script, .string T.region, .slice h3 T.vars.length h4, .slice h5 T.exts.length h6, .slice h7 T.priv.length h8, .string T.grand] 31 (0, 0)) := by rw [← hWT]; exact World.alloc_heap_new w8 _
  have hlT := lt_of_heap hT
  have hBT := hB8.trans (hbT.mono hB8.size)
  have hIT := hI8.below hbT
  have hET := hE8.below hbT
  have hlr := hl.below hBT
  have HCT := Lib.hid (fun (w' : World) (hb : Below WT.heap.size WT w') => tag_cells ((hb.block _ hlT).trans hT))
  have HBT := Lib.hid hBT
  have hs2 := hBT.size
  rw [hWT]
  have hBr := Below.refl WT.heap.size WT
  obtain ⟨q0, q1, q2, q3, q4, q5, q6, q7⟩ := HCT.out _ hBr
  clear hWT hbT hT hlT hI8 hE8 hB8 hBT PA
  cases r with
  | none =>
    obtain rfl := errM_none hET
    have hm := parse_mid hq hn
    have hR := (parsed_right s T hq).1
    have hJ := (parsed_back s T hq).2
    have RT := Lib.hid (fun w5 (hb : Below WT.heap.size WT w5) => (right_ownM (.agg #[.string T.lang, .slice h1 T.extl.length h2, .string T.script, .string T.region, .slice h3 T.vars.length h4, .slice h5 T.exts.length h6, .slice h7 T.priv.length h8, .string T.grand]) T w5 (hIT.below hb) hm (hlr.below hb).g).mono (R' := fun e w7 => e = .returned (.bool true) ∧ Below WT.heap.size WT w7) fun e w7 ⟨p, q⟩ => ⟨by rw [p, hR], hb.trans (q.mono hb.size)⟩)
    have TZ := Lib.hid (fun w5 (hb : Below WT.heap.size WT w5) => (text_mid (.agg #[.string T.lang, .slice h1 T.extl.length h2, .string T.script, .string T.region, .slice h3 T.vars.length h4, .slice h5 T.exts.length h6, .slice h7 T.priv.length h8, .string T.grand]) T w5 (hIT.below hb) hm).mono (R' := fun e w7 => e = .returned (.string (lowS s)) ∧ Below WT.heap.size WT w7) fun e w7 ⟨p, q⟩ => ⟨by rw [p, hJ], hb.trans (q.mono hb.size)⟩)
    have LO := Lib.hid (fun w5 (hb : Below WT.heap.size WT w5) => (lower_ref s w5 (by omega)).mono (R' := fun e w7 => e = .returned (.string (lowS s)) ∧ Below WT.heap.size WT w7) fun e w7 ⟨p, q⟩ => ⟨p, hb.trans (q.mono hb.size)⟩)
    clear hm hR hJ hq hn hIT hET hlr hl hs
    generalize lowS s = ls at *
    go_wp2_with (first
      | (go_at_call 54; (with_reducible refine (RT.out _ (by assumption)).mono ?_); rintro e w9 ⟨rfl, hB9⟩; obtain ⟨z0, z1, z2, z3, z4, z5, z6, z7⟩ := HCT.out _ hB9)
      | (go_at_call 10; (with_reducible refine (TZ.out _ (by assumption)).mono ?_); rintro e w10 ⟨rfl, hB10⟩)
      | (go_at_call 27; (with_reducible refine (LO.out _ (by assumption)).mono ?_); rintro e w11 ⟨rfl, hB11⟩))
    go_ret
    exact ⟨rfl, HBT.out.trans (hB11.mono hs2)⟩
  | some x =>
    obtain ⟨rfl, hpl⟩ := wrong_place s T x hq
    have SM := Lib.hid (fun w5 (v : Value) (hv : TagIs w5 v pNo) (hb : Below WT.heap.size WT w5) => (same_wide v (.agg #[.string ⟨#[]⟩, .slice none 0 0, .string ⟨#[]⟩, .string ⟨#[]⟩, .slice none 0 0, .slice none 0 0, .slice none 0 0, .string ⟨#[]⟩]) pNo pNo w5 hv (zero_is w5) (by unfold TagWide pNo; simp)).mono (R' := fun e w7 => e = .returned (.bool true) ∧ Below WT.heap.size WT w7) fun e w7 ⟨p, q⟩ => ⟨by rw [p, sameT_self], hb.trans (q.mono hb.size)⟩)
    obtain ⟨p, hp⟩ : ∃ p, x.2.1 = p := ⟨_, rfl⟩
    have PL := Lib.hid (fun w5 (hb : Below WT.heap.size WT w5) => (placeP_any w5 (hET.below hb)).mono (R' := fun e w7 => e = .returned (.int .i64 (p : Int)) ∧ Below WT.heap.size WT w7) fun e w7 ⟨h, q⟩ => ⟨by rw [h, ← hp]; rfl, hb.trans (q.mono hb.size)⟩)
    rw [hp] at hpl
    obtain ⟨b1, rfl⟩ := errM_some hET
    have HI := Lib.hid hIT
    have hways := place_ways hpl
    clear hq hn hET hlr hl hpl hp hIT
    obtain ⟨P, hP⟩ : ∃ P : Int, (p : Int) = P := ⟨_, rfl⟩
    rw [hP] at PL
    rcases hways with rfl | ⟨hp0, rfl⟩ | ⟨k, rfl, hk1, hk, hkb⟩
    · obtain rfl : P = 0 := hP.symm
      have n1 : (0 : Int) ≤ (s.size : Int) := by omega
      clear hP
      go_wp2_with (first
        | (go_at_call 21; (with_reducible refine (SM.out _ _ HI.out (by assumption)).mono ?_); rintro e w9 ⟨rfl, hB9⟩)
        | (go_at_call 29; (with_reducible refine (PL.out _ (by assumption)).mono ?_); rintro e w10 ⟨rfl, hB10⟩))
      go_ret
      exact ⟨rfl, HBT.out.trans (hB10.mono hs2)⟩
    · have n0 : 0 ≤ P := by omega
      have n1 : P ≤ (s.size : Int) := by omega
      have n2 : (P == 0) = false := by rw [beq_eq_false_iff_ne]; omega
      have n3 : (P == (s.size : Int)) = true := by rw [beq_iff_eq]; omega
      clear hP hp0
      go_wp2_with (first
        | (go_at_call 21; (with_reducible refine (SM.out _ _ HI.out (by assumption)).mono ?_); rintro e w9 ⟨rfl, hB9⟩)
        | (go_at_call 29; (with_reducible refine (PL.out _ (by assumption)).mono ?_); rintro e w10 ⟨rfl, hB10⟩))
      go_ret
      exact ⟨rfl, HBT.out.trans (hB10.mono hs2)⟩
    · have n0 : 0 ≤ P := by omega
      have n1 : P ≤ (s.size : Int) := by omega
      have n2 : (P == 0) = false := by rw [beq_eq_false_iff_ne]; omega
      have n3 : (P == (s.size : Int)) = false := by rw [beq_eq_false_iff_ne]; omega
      have n4 : P - 1 = (k : Int) := by omega
      have n5 : (k : Int) < (s.size : Int) := by omega
      have n6 : (0 : Int) ≤ (k : Int) := by omega
      have n7 : (s.size : Int) ≤ 40000 := by omega
      have hkn : ((s[k].toNat : Int) == 45) = true := by rw [hkb]; rfl
      clear hP
      go_wp2_with (first
        | (go_at_call 21; (with_reducible refine (SM.out _ _ HI.out (by assumption)).mono ?_); rintro e w9 ⟨rfl, hB9⟩)
        | (go_at_call 29; (with_reducible refine (PL.out _ (by assumption)).mono ?_); rintro e w10 ⟨rfl, hB10⟩))
      go_ret
      exact ⟨rfl, HBT.out.trans (hB10.mono hs2)⟩
end Go.Proofs.YtggfdmhfcpabdaaGreatDoor

namespace Go.Proofs.YtggfdmhfcpabdaaGreatDoor
open Go Go.RowKit

theorem text_sizeR {T : TagM} (h : TagTiny T) : (joinS (subtagsT T)).size ≤ 30000 := by
  have h1 := joinS_size 100 (subtagsT T) (tiny_sizes h)
  have h2 := tiny_len h
  omega

set_option maxRecDepth 100000 in
set_option maxHeartbeats 8000000 in
theorem parseRight_law (SA : SeedM) (s : ByteArray) (va ka pa : Value) (q0 q1 q2 : Int) (w : World) (hs : s.size ≤ maxLen)
    (a1 : IntsA w va SA.vars) (a2 : IntsA w ka SA.keys) (a3 : IntsA w pa SA.priv) (a4 : -9223372036854775808 ≤ SA.extl) (a5 : SA.extl ≤ 9223372036854775807)
    (_x0 : (Lit.int .i64 q0).wf = true) (_x1 : (Lit.int .i64 q1).wf = true) (_x2 : (Lit.int .i64 q2).wf = true) (hl : ParseLaid w) :
    Calls Tryz.prog 5 #[.string s, .agg #[.int .i64 SA.lang, .int .i64 SA.extl, .int .i64 SA.script, .int .i64 SA.region, va, ka, pa, .int .i64 SA.odd], .agg #[.int .i64 q0, .int .i64 q1, .int .i64 q2]] w fun e w' => e = .returned (.bool true) ∧ Below w.heap.size w w' := by
  obtain ⟨W2, hW2⟩ : ∃ W2, (w.alloc (.cells #[.int .i64 SA.lang, .int .i64 SA.extl, .int .i64 SA.script, .int .i64 SA.region, va, ka, pa, .int .i64 SA.odd] 24)).alloc (.cells #[.int .i64 q0, .int .i64 q1, .int .i64 q2] 25) = W2 := ⟨_, rfl⟩
  have hb2 : Below w.heap.size w W2 := by rw [← hW2]; exact ((Below.refl _ w).alloc (Nat.le_refl _) _).alloc (by simp) _
  have hA : W2.heap[w.heap.size]? = some (.cells #[.int .i64 SA.lang, .int .i64 SA.extl, .int .i64 SA.script, .int .i64 SA.region, va, ka, pa, .int .i64 SA.odd] 24 (0, 0)) := by rw [← hW2]; exact (Below.heap_alloc _ _ _ (by simp)).trans (World.alloc_heap_new w _)
  have hBx : W2.heap[w.heap.size + 1]? = some (.cells #[.int .i64 q0, .int .i64 q1, .int .i64 q2] 25 (0, 0)) := by rw [← hW2]; exact heap_alloc2_new w _ _
  have hlB := lt_of_heap hBx
  have HC := Lib.hid (fun (w' : World) (hb : Below W2.heap.size W2 w') => And.intro (tag_cells ((hb.block _ (by omega)).trans hA)) (And.intro (rd_cell 0 ((hb.block _ hlB).trans hBx) (v := .int .i64 q0) rfl) (And.intro (rd_cell 1 ((hb.block _ hlB).trans hBx) (v := .int .i64 q1) rfl) (rd_cell 2 ((hb.block _ hlB).trans hBx) (v := .int .i64 q2) rfl))))
  have HB2 := Lib.hid hb2
  have hl2 := hl.below hb2
  have AW := Lib.hid (awakeP_law W2 hl2)
  have hc80 := size_cut80 s
  have SH := Lib.hid (fun w5 => short7_any s w5 hs)
  have C1 := Lib.hid (fun w5 (hb : Below W2.heap.size W2 w5) => (right7_any (cut80 s) w5 (by omega) (by have := splS_le (cut80 s); omega) (hl2.below hb)).mono (R' := fun e w7 => e = .returned (.bool true) ∧ Below W2.heap.size W2 w7) fun e w7 ⟨p, q⟩ => ⟨p, hb.trans (q.mono hb.size)⟩)
  have C2 := Lib.hid (fun (t : ByteArray) (ht : t.size ≤ 30001 ∧ (splS t).length ≤ 100) w5 (hb : Below W2.heap.size W2 w5) => (right7_any t w5 (by omega) ht.2 (hl2.below hb)).mono (R' := fun e w7 => e = .returned (.bool true) ∧ Below W2.heap.size W2 w7) fun e w7 ⟨p, q⟩ => ⟨p, hb.trans (q.mono hb.size)⟩)
  have fA := madeT_tiny SA
  have MZ := Lib.hid (fun w5 (hb : Below W2.heap.size W2 w5) => (made_any SA va ka pa w5 ((a1.below hb2).below hb) ((a2.below hb2).below hb) ((a3.below hb2).below hb) a4 a5).mono (R' := fun e w7 => ∃ f1 f2 f3 f4 f5 f6 f7 f8, e = .returned (.agg #[.string (madeT SA).lang, .slice f1 (madeT SA).extl.length f2, .string (madeT SA).script, .string (madeT SA).region, .slice f3 (madeT SA).vars.length f4, .slice f5 (madeT SA).exts.length f6, .slice f7 (madeT SA).priv.length f8, .string (madeT SA).grand]) ∧ TagIs w7 (.agg #[.string (madeT SA).lang, .slice f1 (madeT SA).extl.length f2, .string (madeT SA).script, .string (madeT SA).region, .slice f3 (madeT SA).vars.length f4, .slice f5 (madeT SA).exts.length f6, .slice f7 (madeT SA).priv.length f8, .string (madeT SA).grand]) (madeT SA) ∧ Below W2.heap.size W2 w7) fun e w7 ⟨u, p, q, r⟩ => by
    obtain ⟨ae, ac, av, vc, ax, xc, ap, pc, rfl⟩ := tag_shape q
    exact ⟨ae, ac, av, vc, ax, xc, ap, pc, p, q, hb.trans (r.mono hb.size)⟩)
  have htx := text_sizeR fA
  have hdn := made_dn SA
  have SP := Lib.hid (fun w5 (hb : Below W2.heap.size W2 w5) => (spoilt7_dn (joinS (subtagsT (madeT SA))) q0 q1 q2 w5 (by omega)).mono (R' := fun e w7 => (∃ t, e = .returned (.string t) ∧ t.size ≤ 30001 ∧ (splS t).length ≤ 100) ∧ Below W2.heap.size W2 w7) fun e w7 ⟨⟨t, p, p2, p3⟩, q⟩ => ⟨⟨t, p, by omega, by rw [splS_dn]; omega⟩, hb.trans (q.mono hb.size)⟩)
  have TZ := Lib.hid (fun w5 (v : Value) (hT : TagIs w5 v (madeT SA)) (hb : Below W2.heap.size W2 w5) => (text_ref v (madeT SA) w5 hT fA).mono (R' := fun e w7 => e = .returned (.string (joinS (subtagsT (madeT SA)))) ∧ Below W2.heap.size W2 w7) fun e w7 ⟨p, q⟩ => ⟨p, hb.trans (q.mono hb.size)⟩)
  have hs2 := hb2.size
  clear a1 a2 a3 a4 a5 hs hA hBx hb2 hl hl2 fA htx hc80 hdn
  generalize joinS (subtagsT (madeT SA)) = tx at *
  generalize madeT SA = TA at *
  generalize cut80 s = c80 at *
  go_enter Tryz.func5, Tryz.ntmps5
  go_upto_region 1 with fail
  clear hW2
  go_wp2_with fail
  refine AW.out.mono ?_
  rintro e w5 ⟨rfl, hb5⟩
  have hBd : Below W2.heap.size W2 w5.drew := hb5.drew
  go_upto_region 2 with fail
  go_region_held3 (fun w' => Below W2.heap.size W2 w' ∧ (w'.cell? ⟨w.heap.size, 0, none⟩ = some (.int .i64 SA.lang) ∧ w'.cell? ⟨w.heap.size, 1, none⟩ = some (.int .i64 SA.extl) ∧ w'.cell? ⟨w.heap.size, 2, none⟩ = some (.int .i64 SA.script) ∧ w'.cell? ⟨w.heap.size, 3, none⟩ = some (.int .i64 SA.region) ∧ w'.cell? ⟨w.heap.size, 4, none⟩ = some va ∧ w'.cell? ⟨w.heap.size, 5, none⟩ = some ka ∧ w'.cell? ⟨w.heap.size, 6, none⟩ = some pa ∧ w'.cell? ⟨w.heap.size, 7, none⟩ = some (.int .i64 SA.odd)) ∧ w'.cell? ⟨w.heap.size + 1, 0, none⟩ = some (.int .i64 q0) ∧ w'.cell? ⟨w.heap.size + 1, 1, none⟩ = some (.int .i64 q1) ∧ w'.cell? ⟨w.heap.size + 1, 2, none⟩ = some (.int .i64 q2))
    (first | exact ⟨by assumption, HC.out _ (by assumption)⟩)
    (first
      | (go_at_call 16; (with_reducible refine (SH.out _).mono ?_); rintro e w6 ⟨rfl, rfl⟩)
      | (go_at_call 22; (with_reducible refine (C1.out _ (by assumption)).mono ?_); rintro e w7 ⟨rfl, hb7⟩)
      | (go_at_call 11; (with_reducible refine (MZ.out _ (by assumption)).mono ?_); rintro e w8 ⟨f1, f2, f3, f4, f5, f6, f7, f8, rfl, hI8, hb8⟩; have TX := Lib.hid (TZ.out w8 _ hI8 hb8))
      | (go_at_call 10; (with_reducible refine TX.out.mono ?_); rintro e w9 ⟨rfl, hb9⟩)
      | (go_at_call 17; (with_reducible refine (SP.out _ (by assumption)).mono ?_); rintro e w10 ⟨⟨t, rfl, ht⟩, hb10⟩)
      | (go_at_call 22; (with_reducible refine (C2.out t ht _ (by assumption)).mono ?_); rintro e w11 ⟨rfl, hb11⟩))
  all_goals
    go_wp2_with fail
    go_ret
    exact ⟨rfl, HB2.out.trans (hb11.mono hs2)⟩
end Go.Proofs.YtggfdmhfcpabdaaGreatDoor
