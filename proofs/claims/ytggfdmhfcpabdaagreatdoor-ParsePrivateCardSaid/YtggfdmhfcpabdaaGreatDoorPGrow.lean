/-
  Package parse: tags by numbers are whole, and stay so with one thing more (mathematics).
-/
import Derived.Test.YtggfdmhfcpabdaaGreatDoorPParsedRight
import Derived.Test.YtggfdmhfcpabdaaGreatDoorKTags
namespace Go.Proofs.YtggfdmhfcpabdaaGreatDoor
open Go Go.RowKit

theorem pick_all {P : ByteArray → Prop} {l : List ByteArray} (h : ∀ x ∈ l, P x) (h0 : 0 < l.length) (n : Int) : P (pickT l n) := by
  unfold pickT
  have h1 := (pick_facts l.length n (by omega)).2.2.2
  rw [List.getD_eq_getElem?_getD, List.getElem?_eq_getElem (by omega)]
  exact h _ (List.getElem_mem _)
theorem addVs_all {P : ByteArray → Prop} (hv : ∀ x ∈ variantsL, P x) : ∀ (l : List Int) (acc : List ByteArray), (∀ x ∈ acc, P x) → ∀ x ∈ l.foldl (fun acc n => addP acc (pickT variantsL n)) acc, P x
  | [], _, h => h
  | n :: r, acc, h => by
    rw [List.foldl_cons]
    refine addVs_all hv r _ (fun x hx => ?_)
    unfold addP at hx
    split at hx
    · exact h x hx
    · rcases List.mem_append.1 hx with h1 | h1
      · exact h x h1
      · simp at h1; subst h1; exact pick_all hv (by decide) n
/-- No text of a row is there twice. -/
def Once (L : List ByteArray) : Prop := ∀ (i : Nat) p, L[i]? = some p → hasT (L.take i) p = false
theorem once_snoc {L : List ByteArray} {p : ByteArray} (h : Once L) (hp : hasT L p = false) : Once (L ++ [p]) := by
  intro i q hq
  rcases Nat.lt_or_ge i L.length with hi | hi
  · rw [List.getElem?_append_left hi] at hq
    rw [List.take_append_of_le_length (by omega)]
    exact h i q hq
  · rw [List.getElem?_append_right hi] at hq
    rcases Nat.eq_zero_or_pos (i - L.length) with h0 | h0
    · rw [h0] at hq
      simp at hq
      subst hq
      rw [show i = L.length by omega, List.take_left' rfl]
      exact hp
    · rw [List.getElem?_eq_none (by simp; omega)] at hq
      cases hq
theorem hasT_mem {L : List ByteArray} {p : ByteArray} (h : p ∉ L) : hasT L p = false := by
  unfold hasT
  rw [List.any_eq_false]
  intro y hy e
  exact h (of_decide_eq_true e ▸ hy)
theorem addVs_once : ∀ (l : List Int) (acc : List ByteArray), Once acc → Once (l.foldl (fun acc n => addP acc (pickT variantsL n)) acc)
  | [], _, h => h
  | n :: r, acc, h => by
    rw [List.foldl_cons]
    refine addVs_once r _ ?_
    unfold addP
    split
    · exact h
    · rename_i hn
      exact once_snoc h (hasT_mem (by simpa using hn))
/-- All in small letters. -/
def LowAll (L : List ByteArray) : Prop := ∀ p ∈ L, lowS p = p
instance (L : List ByteArray) : Decidable (LowAll L) := by unfold LowAll; infer_instance

structure MadeOk (T : TagM) : Prop where
  w : WholeP T
  low : ∀ p ∈ subtagsT T, lowS p = p
  v : ∀ p ∈ T.vars, p ∈ variantsL
  k : ∀ e ∈ T.exts, e.1.size = 1 ∧ e.1 ≠ ⟨#[122]⟩
  t : TagTiny T
  vl : T.vars.length ≤ 4
  xl : T.exts.length ≤ 3
  pl : T.priv.length ≤ 3
theorem keys_case {P : ByteArray → Prop} (h : ∀ x ∈ ([⟨#[117]⟩, ⟨#[116]⟩, ⟨#[97]⟩, ⟨#[57]⟩] : List ByteArray), P x) (i : Nat) (hi : i < 4) : P (keyI i) := by
  unfold keyI
  rw [List.getD_eq_getElem?_getD, List.getElem?_eq_getElem (by simpa using hi)]
  exact h _ (List.getElem_mem _)
theorem extKs_mem {P : ByteArray × List ByteArray → Prop} (l : List Int) (hl : l.length ≤ 4) (h : ∀ i < 4, ∀ N : Nat, P (keyI i, subsN N)) : ∀ x ∈ extKs l, P x := by
  intro x hx
  unfold extKs at hx
  obtain ⟨y, hy, rfl⟩ := List.mem_map.1 hx
  have := List.snd_lt_of_mem_zipIdx hy
  exact h y.2 (by omega) _
theorem keys_once : ∀ l : List Int, l.length ≤ 3 → Once ((extKs l).map (·.1))
  | [], _ => by intro i p h; simp [extKs] at h
  | [a], _ => by
    show Once [keyI 0]
    intro i p h
    rcases i with _ | i
    · simp [hasT]
    · simp at h
  | [a, b], _ => by
    show Once [keyI 0, keyI 1]
    exact once_snoc (L := [keyI 0]) (fun i p h => by rcases i with _ | i <;> simp [hasT] at h ⊢) (by decide +kernel)
  | [a, b, c], _ => by
    show Once [keyI 0, keyI 1, keyI 2]
    exact once_snoc (L := [keyI 0, keyI 1]) (once_snoc (L := [keyI 0]) (fun i p h => by rcases i with _ | i <;> simp [hasT] at h ⊢) (by decide +kernel)) (by decide +kernel)
  | a :: b :: c :: d :: r, h => by simp at h
theorem subs_word {P : ByteArray → Prop} (h : ∀ x ∈ wordsL, P x) (N : Nat) : ∀ p ∈ subsN N, P p := by
  intro z hz
  unfold subsN at hz
  obtain ⟨k, _, rfl⟩ := List.mem_map.1 hz
  exact pick_all h (by decide) _
theorem subs_ne (N : Nat) : subsN N ≠ [] := by
  unfold subsN
  simp [List.range_eq_nil]
theorem made_ok (S : SeedM) (h : pickI 12 S.odd = 0) : MadeOk (madeT S) := by
  have e : madeT S = ⟨pickT langsL S.lang, madeE (pickT langsL S.lang) S.extl, pickT scriptsL S.script, pickT regionsL S.region, madeV S.vars, madeX S.keys, madeP S.priv, ByteArray.empty⟩ := by
    unfold madeT spoiltT
    rw [h]
    simp
  have ht := madeT_tiny S
  rw [e] at ht ⊢
  have hvl : (madeV S.vars).length ≤ 4 := by unfold madeV; have := addVs_len (S.vars.take 4); rw [List.length_take] at this; omega
  have hxl : (madeX S.keys).length ≤ 3 := by unfold madeX; rw [extKs_len, List.length_take]; omega
  have hpl : (madeP S.priv).length ≤ 3 := by unfold madeP; rw [List.length_map, List.length_take]; omega
  have hE : ∀ p ∈ madeE (pickT langsL S.lang) S.extl, p ∈ extlL := fun p hp => by
    unfold madeE at hp
    split at hp
    · simp at hp; subst hp; exact pick_all (P := fun x => x ∈ extlL) (fun x h => h) (by decide) _
    · simp at hp
  have hEl : madeE (pickT langsL S.lang) S.extl ≠ [] → (pickT langsL S.lang).size ≤ 3 := fun hne => by
    unfold madeE at hne
    split at hne
    · rename_i hc; exact hc.1
    · exact absurd rfl hne
  have hEn : (madeE (pickT langsL S.lang) S.extl).length ≤ 3 := by unfold madeE; split <;> simp
  have hV : ∀ p ∈ madeV S.vars, p ∈ variantsL := addVs_all (P := fun x => x ∈ variantsL) (fun x h => h) _ [] (fun x h => by simp at h)
  have hVo : Once (madeV S.vars) := addVs_once _ [] (fun i p h => by simp at h)
  have hXl : (S.keys.take 3).length ≤ 3 := by rw [List.length_take]; omega
  have hXo : Once ((madeX S.keys).map (·.1)) := keys_once _ hXl
  have hX : ∀ x ∈ madeX S.keys, (singletonS x.1 = true ∧ lowS x.1 = x.1 ∧ x.1.size = 1 ∧ x.1 ≠ ⟨#[122]⟩) ∧ x.2 ≠ [] ∧ ∀ p ∈ x.2, 2 ≤ p.size ∧ okS p = true ∧ lowS p = p :=
    extKs_mem _ (by omega) (fun i hi N => ⟨keys_case (P := fun x => singletonS x = true ∧ lowS x = x ∧ x.size = 1 ∧ x ≠ ⟨#[122]⟩) (by decide +kernel) i hi, subs_ne N, subs_word (by decide +kernel) N⟩)
  have hP : ∀ p ∈ madeP S.priv, okS p = true ∧ lowS p = p := fun p hp => by
    unfold madeP at hp
    obtain ⟨y, _, rfl⟩ := List.mem_map.1 hp
    exact pick_all (P := fun x => okS x = true ∧ lowS x = x) (by decide +kernel) (by decide) _
  have hL : languageS (pickT langsL S.lang) = true ∧ lowS (pickT langsL S.lang) = pickT langsL S.lang := pick_all (P := fun x => languageS x = true ∧ lowS x = x) (by decide +kernel) (by decide) _
  have hS : ((pickT scriptsL S.script).size = 0 ∨ scriptS (pickT scriptsL S.script) = true) ∧ lowS (pickT scriptsL S.script) = pickT scriptsL S.script := pick_all (P := fun x => (x.size = 0 ∨ scriptS x = true) ∧ lowS x = x) (by decide +kernel) (by decide) _
  have hR : ((pickT regionsL S.region).size = 0 ∨ regionS (pickT regionsL S.region) = true) ∧ lowS (pickT regionsL S.region) = pickT regionsL S.region := pick_all (P := fun x => (x.size = 0 ∨ regionS x = true) ∧ lowS x = x) (by decide +kernel) (by decide) _
  have xE : ∀ p ∈ extlL, extlangS p = true ∧ lowS p = p := by decide +kernel
  have xV : ∀ p ∈ variantsL, variantS p = true ∧ lowS p = p := by decide +kernel
  generalize pickT langsL S.lang = y1 at *
  generalize pickT scriptsL S.script = y2 at *
  generalize pickT regionsL S.region = y3 at *
  generalize madeE y1 S.extl = mE at *
  generalize madeV S.vars = mV at *
  generalize madeX S.keys = mX at *
  generalize madeP S.priv = mP at *
  refine ⟨⟨rfl, hL.1, fun p hp => (xE p (hE p hp)).1, hEn, hEl, hS.1, hR.1, fun p hp => (xV p (hV p hp)).1, hVo, fun x hx => ⟨(hX x hx).1.1, (hX x hx).2.1, fun p hp => ⟨((hX x hx).2.2 p hp).1, ((hX x hx).2.2 p hp).2.1⟩⟩, fun i x hx => ?_, fun p hp => (hP p hp).1⟩, ?_, hV, fun x hx => (hX x hx).1.2.2, ht, hvl, hxl, hpl⟩
  · have := hXo i x.1 (by rw [List.getElem?_map, hx]; rfl)
    rwa [← List.map_take] at this
  · intro x hx
    unfold subtagsT at hx
    rw [if_pos (show (ByteArray.empty).size = 0 from rfl)] at hx
    simp only [List.mem_append] at hx
    rcases hx with (((((hx | hx) | hx) | hx) | hx) | hx) | hx
    · rw [oneT_mem hx]; exact hL.2
    · exact (xE x (hE x hx)).2
    · rw [oneT_mem hx]; exact hS.2
    · rw [oneT_mem hx]; exact hR.2
    · exact (xV x (hV x hx)).2
    · obtain ⟨y, hy, hm⟩ := List.mem_flatMap.1 hx
      rcases List.mem_cons.1 hm with rfl | hm
      · exact (hX y hy).1.2.1
      · exact ((hX y hy).2.2 x hm).2.2
    · unfold privT at hx
      split at hx
      · simp at hx
      · rcases List.mem_cons.1 hx with rfl | hx
        · decide +kernel
        · exact (hP x hx).2

/-- What is in no grandfathered tag keeps a text from being one. -/
theorem findV_mem {l : List ByteArray} {p : ByteArray} (hd : ∀ q ∈ l, (45 : UInt8) ∉ bs q) (hp : p ∈ l) (hl : lowS p = p) (hn : ∀ k : Fin 26, (splS (nameG k.val)).all (fun q => decide (q ≠ p)) = true) : findV (joinS l) = none := by
  have hne : l ≠ [] := List.ne_nil_of_mem hp
  cases h : findV (joinS l) with
  | none => rfl
  | some k =>
    exfalso
    have hk : k < 26 := findV_lt h
    have e := (findV_iff _ k hk).1 h
    have hno : p ∉ splS (nameG k) := fun hm => of_decide_eq_true ((List.all_eq_true.1 (hn ⟨k, hk⟩)) p hm) rfl
    refine hno ?_
    rw [← e]
    have hs : splS (lowS (joinS l)) = l.map lowS := by
      have h1 : splS (joinS l) = l := by
        unfold splS joinS
        rw [bs_ofL, spl_joinP (by simpa using hne) (fun q hq => by obtain ⟨x, hx, rfl⟩ := List.mem_map.1 hq; exact hd x hx), List.map_map]
        rw [show (ofL ∘ bs) = id from funext fun x => ofL_bs x]
        simp
      have h2 : splS (lowS (joinS l)) = (splS (joinS l)).map lowS := by
        unfold splS
        rw [show bs (lowS (joinS l)) = (bs (joinS l)).map lowB by unfold lowS; rw [bs_ofL], spl_low, List.map_map, List.map_map]
        exact List.map_congr_left (fun x _ => by simp [lowS, bs_ofL])
      rw [h2, h1]
    rw [hs]
    exact List.mem_map.2 ⟨p, hp, hl⟩
theorem whole_grown {T : TagM} (hw : WholeP T) (hl : ∀ q ∈ subtagsT T, lowS q = q) {p : ByteArray} (hp : p ∈ subtagsT T) (hn : ∀ k : Fin 26, (splS (nameG k.val)).all (fun q => decide (q ≠ p)) = true) : parseS (joinS (subtagsT T)) = (T, none) ∧ rightT T = true := by
  have h := parse_whole T hw hl (findV_mem (whole_nodash hw) hp (hl p hp) hn)
  exact ⟨h, (parsed_right _ _ h).1⟩
/-- The three that grow. -/
def grownT (T : TagM) (i : Nat) : TagM := if i = 0 then { T with vars := T.vars ++ [⟨#[122, 121, 120, 119, 118]⟩] } else if i = 1 then { T with exts := T.exts ++ [(⟨#[122]⟩, [⟨#[97, 98]⟩, ⟨#[99, 100]⟩])] } else { T with priv := T.priv ++ [⟨#[113]⟩] }
theorem mem_fields {T : TagM} (hg : T.grand.size = 0) {x : ByteArray} : x ∈ subtagsT T ↔ (((((x ∈ oneT T.lang ∨ x ∈ T.extl) ∨ x ∈ oneT T.script) ∨ x ∈ oneT T.region) ∨ x ∈ T.vars) ∨ x ∈ T.exts.flatMap extT) ∨ x ∈ privT T.priv := by
  unfold subtagsT
  rw [if_pos hg]
  simp only [List.mem_append]
theorem privT_app (l : List ByteArray) (p : ByteArray) : privT (l ++ [p]) = ⟨#[120]⟩ :: (l ++ [p]) := by
  unfold privT; rw [if_neg (by simp)]
theorem grown_ok {T : TagM} (h : MadeOk T) (i : Nat) : parseS (joinS (subtagsT (grownT T i))) = (grownT T i, none) ∧ rightT (grownT T i) = true := by
  obtain ⟨hw, hl, hv, hk, _, _, _, _⟩ := h
  have hg := hw.g
  have hl' := fun x => fun hx => hl x ((mem_fields hg).2 hx)
  unfold grownT
  split
  · refine whole_grown (T := { T with vars := T.vars ++ [⟨#[122, 121, 120, 119, 118]⟩] }) (p := ⟨#[122, 121, 120, 119, 118]⟩) ⟨hg, hw.l, hw.e, hw.en, hw.el, hw.s, hw.r, fun p hp => ?_, ?_, hw.x, hw.xn, hw.p⟩ ?_ ((mem_fields (T := { T with vars := T.vars ++ [⟨#[122, 121, 120, 119, 118]⟩] }) hg).2 (.inl (.inl (.inr (List.mem_append_right _ (List.mem_singleton.2 rfl)))))) (by decide +kernel)
    · rcases List.mem_append.1 hp with h | h
      · exact hw.v p h
      · simp at h; subst h; decide +kernel
    · exact once_snoc hw.vn (hasT_mem (fun hm => of_decide_eq_true (List.all_eq_true.1 (show variantsL.all (fun q => decide (q ≠ ⟨#[122, 121, 120, 119, 118]⟩)) = true by decide +kernel) _ (hv _ hm)) rfl))
    · intro x hx
      replace hx := (mem_fields (T := { T with vars := T.vars ++ [⟨#[122, 121, 120, 119, 118]⟩] }) hg).1 hx
      rcases hx with (((((h | h) | h) | h) | h) | h) | h
      · exact hl' x (.inl (.inl (.inl (.inl (.inl (.inl h))))))
      · exact hl' x (.inl (.inl (.inl (.inl (.inl (.inr h))))))
      · exact hl' x (.inl (.inl (.inl (.inl (.inr h)))))
      · exact hl' x (.inl (.inl (.inl (.inr h))))
      · rcases List.mem_append.1 h with h | h
        · exact hl' x (.inl (.inl (.inr h)))
        · simp at h; subst h; decide +kernel
      · exact hl' x (.inl (.inr h))
      · exact hl' x (.inr h)
  · split
    · refine whole_grown (T := { T with exts := T.exts ++ [(⟨#[122]⟩, [⟨#[97, 98]⟩, ⟨#[99, 100]⟩])] }) (p := ⟨#[122]⟩) ⟨hg, hw.l, hw.e, hw.en, hw.el, hw.s, hw.r, hw.v, hw.vn, fun e he => ?_, fun i e he => ?_, hw.p⟩ ?_ ((mem_fields (T := { T with exts := T.exts ++ [(⟨#[122]⟩, [⟨#[97, 98]⟩, ⟨#[99, 100]⟩])] }) hg).2 (.inl (.inr (List.mem_flatMap.2 ⟨_, List.mem_append_right _ (List.mem_singleton.2 rfl), by simp [extT]⟩)))) (by decide +kernel)
      · rcases List.mem_append.1 he with h | h
        · exact hw.x e h
        · simp at h; subst h
          exact ⟨by decide +kernel, by simp, by decide +kernel⟩
      · have h1 : Once (T.exts.map (·.1)) := fun j p hp => by
          rw [List.getElem?_map] at hp
          cases hx : T.exts[j]? with
          | none => rw [hx] at hp; cases hp
          | some y =>
            rw [hx] at hp
            simp at hp
            subst hp
            have := hw.xn j y hx
            rwa [List.map_take] at this
        have h2 : Once ((T.exts ++ [((⟨#[122]⟩ : ByteArray), [(⟨#[97, 98]⟩ : ByteArray), ⟨#[99, 100]⟩])]).map (·.1)) := by
          rw [List.map_append]
          exact once_snoc h1 (hasT_mem (fun hm => by
            obtain ⟨y, hy, e⟩ := List.mem_map.1 hm
            exact (hk y hy).2 e))
        have := h2 i e.1 (by rw [List.getElem?_map, he]; rfl)
        rwa [← List.map_take] at this
      · intro x hx
        replace hx := (mem_fields (T := { T with exts := T.exts ++ [(⟨#[122]⟩, [⟨#[97, 98]⟩, ⟨#[99, 100]⟩])] }) hg).1 hx
        rcases hx with (((((h | h) | h) | h) | h) | h) | h
        · exact hl' x (.inl (.inl (.inl (.inl (.inl (.inl h))))))
        · exact hl' x (.inl (.inl (.inl (.inl (.inl (.inr h))))))
        · exact hl' x (.inl (.inl (.inl (.inl (.inr h)))))
        · exact hl' x (.inl (.inl (.inl (.inr h))))
        · exact hl' x (.inl (.inl (.inr h)))
        · rw [List.flatMap_append] at h
          rcases List.mem_append.1 h with h | h
          · exact hl' x (.inl (.inr h))
          · simp [extT] at h
            rcases h with rfl | rfl | rfl <;> decide +kernel
        · exact hl' x (.inr h)
    · refine whole_grown (T := { T with priv := T.priv ++ [⟨#[113]⟩] }) (p := ⟨#[120]⟩) ⟨hg, hw.l, hw.e, hw.en, hw.el, hw.s, hw.r, hw.v, hw.vn, hw.x, hw.xn, fun p hp => ?_⟩ ?_ ((mem_fields (T := { T with priv := T.priv ++ [⟨#[113]⟩] }) hg).2 (.inr (by rw [show (⟨#[120]⟩ : ByteArray) ∈ privT (T.priv ++ [⟨#[113]⟩]) ↔ _ from Iff.rfl, privT_app]; simp))) (by decide +kernel)
      · rcases List.mem_append.1 hp with h | h
        · exact hw.p p h
        · simp at h; subst h; decide +kernel
      · intro x hx
        replace hx := (mem_fields (T := { T with priv := T.priv ++ [⟨#[113]⟩] }) hg).1 hx
        rcases hx with (((((h | h) | h) | h) | h) | h) | h
        · exact hl' x (.inl (.inl (.inl (.inl (.inl (.inl h))))))
        · exact hl' x (.inl (.inl (.inl (.inl (.inl (.inr h))))))
        · exact hl' x (.inl (.inl (.inl (.inl (.inr h)))))
        · exact hl' x (.inl (.inl (.inl (.inr h))))
        · exact hl' x (.inl (.inl (.inr h)))
        · exact hl' x (.inl (.inr h))
        · have h : x ∈ privT (T.priv ++ [⟨#[113]⟩]) := h
          rw [privT_app] at h
          rcases List.mem_cons.1 h with rfl | h
          · decide +kernel
          · rcases List.mem_append.1 h with h | h
            · exact hl' x (.inr (by unfold privT; rw [if_neg (by have := List.length_pos_of_mem h; omega)]; exact List.mem_cons_of_mem _ h))
            · simp at h; subst h; decide +kernel
theorem grown_tiny {T : TagM} (h : MadeOk T) (i : Nat) : TagTiny (grownT T i) := by
  have hvl := h.vl
  have hxl := h.xl
  have hpl := h.pl
  obtain ⟨he, hv, hx, hp, sl, ss, sr, sg, se, sv, sp, sx⟩ := h.t
  unfold grownT
  split
  · exact ⟨he, by simp; omega, hx, hp, sl, ss, sr, sg, se, fun x hx => by
      rcases List.mem_append.1 hx with h | h
      · exact sv x h
      · simp at h; subst h; decide, sp, sx⟩
  · split
    · exact ⟨he, hv, by simp; omega, hp, sl, ss, sr, sg, se, sv, sp, fun x hx => by
        rcases List.mem_append.1 hx with h | h
        · exact sx x h
        · simp at h; subst h; decide⟩
    · exact ⟨he, hv, hx, by simp; omega, sl, ss, sr, sg, se, sv, fun x hx => by
        rcases List.mem_append.1 hx with h | h
        · exact sp x h
        · simp at h; subst h; decide, sx⟩
end Go.Proofs.YtggfdmhfcpabdaaGreatDoor
