/-
  Package render, in plain words: what is known of a short text.
-/
import Derived.Test.YtggfdmhfcpabdaaQFitsR
import Derived.Test.YtggfdmhfcpabdaaQPlain
namespace Go.Proofs.Ytggfdmhfcpabdaa
open Go Go.RowKit

theorem joinS_size_take (l : List ByteArray) (k : Nat) : (joinS (l.take k)).size ≤ (joinS l).size := by
  have h := congrArg ByteArray.size (joinS_prefix l k)
  rw [ByteArray.size_extract] at h
  omega
theorem backK_last (l : List ByteArray) : ∀ k m, backK l k = m + 2 → l[m + 1]?.map ByteArray.size ≠ some 1
  | 0, m, h => by unfold backK at h; omega
  | 1, m, h => by unfold backK at h; omega
  | k + 2, m, h => by
    unfold backK at h
    split at h
    · exact backK_last l (k + 1) m h
    · rename_i hn
      obtain rfl : k = m := by omega
      exact hn
/-- How a short text ends. -/
structure ShortIs (P : List ByteArray) (k : Int) (all s : ByteArray) : Prop where
  le : s.size ≤ all.size
  fit : (s.size : Int) ≤ k
  pre : all.extract 0 s.size = s
  stop : s.size = 0 ∨ s.size = all.size ∨ ∃ h : s.size < all.size, all[s.size] = 45
  last : ∃ l x, splS s = l ++ [x] ∧ (l = [] ∨ 1 < x.size)
theorem short_is {P : List ByteArray} (nd : ∀ p ∈ P, (45 : UInt8) ∉ bs p) (h1 : ∀ p ∈ P, 1 ≤ p.size) {k : Int} (hk : 0 ≤ k) : ShortIs P k (caseS (joinS P)) (shortS (caseS (joinS P)) k) := by
  have hnil : ∀ s : ByteArray, s = ByteArray.empty → ∃ l x, splS s = l ++ [x] ∧ (l = [] ∨ 1 < x.size) := fun s e => ⟨[], ByteArray.empty, by rw [e]; decide +kernel, .inl rfl⟩
  by_cases h0 : P = []
  · subst h0
    have e1 : caseS (joinS []) = ByteArray.empty := by decide +kernel
    rw [e1]
    have e2 : shortS ByteArray.empty k = ByteArray.empty := by
      unfold shortS; apply ofL_ext; rw [bs_extract]; simp [bs]
    rw [e2]
    exact ⟨Nat.le_refl _, hk, by decide +kernel, .inl rfl, hnil _ rfl⟩
  · have hs : splS (caseS (joinS P)) = caseT P := by rw [splS_case, splS_joinS h0 nd]
    have ea : caseS (joinS P) = joinS (caseT P) := by unfold caseS; rw [splS_joinS h0 nd]
    have hC0 : caseT P ≠ [] := caseT_ne h0
    have hCd : ∀ p ∈ caseT P, (45 : UInt8) ∉ bs p := dash_caseL _ _ nd
    have hC1 : ∀ p ∈ caseT P, 1 ≤ p.size := fun q hq => by
      have e1 : q.size ∈ (caseT P).map ByteArray.size := List.mem_map_of_mem hq
      have e2 : (caseT P).map ByteArray.size = P.map ByteArray.size := size_caseL _ _ _
      rw [e2] at e1
      obtain ⟨p, hp, e⟩ := List.mem_map.1 e1
      have := h1 p hp
      omega
    obtain ⟨a1, a2, a3⟩ := fitK_spec (caseT P) k (caseT P).length 0 (by omega) (by omega) (fun j hj => by omega)
    obtain ⟨m, hm⟩ : ∃ m, backK (caseT P) (fitK (caseT P) k (caseT P).length 0) = m := ⟨_, rfl⟩
    have hmf := backK_le (caseT P) (fitK (caseT P) k (caseT P).length 0)
    have hml := backK_last (caseT P) (fitK (caseT P) k (caseT P).length 0)
    have es : shortS (caseS (joinS P)) k = joinS ((caseT P).take m) := by
      unfold shortS
      rw [shortE_eq, hs, hm, ea, joinS_prefix]
    rw [es, ea]
    rw [hm] at hmf hml
    generalize fitK (caseT P) k (caseT P).length 0 = f at *
    clear es ea hs hm
    generalize caseT P = C at *
    refine ⟨joinS_size_take C m, ?_, joinS_prefix C m, ?_, ?_⟩
    · rcases m with _ | m
      · exact hk
      · exact a2 m (by omega)
    · rcases Nat.eq_zero_or_pos m with hm0 | hm0
      · subst hm0; exact .inl rfl
      · rcases Nat.lt_or_ge m C.length with hlt | hge
        · refine .inr (.inr ?_)
          have hj : joinS C = joinS (C.take m) ++ ⟨#[45]⟩ ++ joinS (C.drop m) := by
            conv => lhs; rw [← List.take_append_drop m C]
            exact joinS_app (by rw [ne_eq, List.take_eq_nil_iff]; rintro (h | h); omega; exact hC0 h) (by rw [ne_eq, List.drop_eq_nil_iff]; omega)
          have hz : (joinS (C.take m)).size < (joinS C).size := by rw [hj, size_glue]; omega
          refine ⟨hz, ?_⟩
          have e1 : (joinS C)[(joinS (C.take m)).size] = (bs (joinS C))[(joinS (C.take m)).size]'(by rw [size_bs]; exact hz) := rfl
          rw [e1]
          have e2 : (bs (joinS C))[(joinS (C.take m)).size]? = some 45 := by
            rw [hj, bs_glue, List.getElem?_append_right (by rw [size_bs]; exact Nat.le_refl _), size_bs, Nat.sub_self]; rfl
          exact (List.getElem?_eq_some_iff.1 e2).2
        · refine .inr (.inl ?_)
          rw [List.take_of_length_le hge]
    · rcases m with _ | m
      · exact hnil _ rfl
      · have hmC : m < C.length := by omega
        have hne : C.take (m + 1) ≠ [] := by rw [ne_eq, List.take_eq_nil_iff]; rintro (h | h); omega; exact hC0 h
        rw [splS_joinS hne (fun p hp => hCd p (List.mem_of_mem_take hp)), List.take_succ_eq_append_getElem hmC]
        refine ⟨_, _, rfl, ?_⟩
        rcases m with _ | m
        · exact .inl rfl
        · have hx := hml m rfl
          rw [List.getElem?_eq_getElem hmC] at hx
          have := hC1 C[m + 1] (List.getElem_mem _)
          refine .inr ?_
          have hne1 : C[m + 1].size ≠ 1 := fun e => hx (by simp [e])
          omega
/-- With room for all it is all, but for a last piece of one byte. -/
theorem short_full {P : List ByteArray} (nd : ∀ p ∈ P, (45 : UInt8) ∉ bs p) : shortS (caseS (joinS P)) (caseS (joinS P)).size = caseS (joinS P) ∨ ∃ l x, P = l ++ [x] ∧ l ≠ [] ∧ x.size = 1 := by
  by_cases h0 : P = []
  · subst h0; exact .inl (by decide +kernel)
  · have hs : splS (caseS (joinS P)) = caseT P := by rw [splS_case, splS_joinS h0 nd]
    have ea : caseS (joinS P) = joinS (caseT P) := by unfold caseS; rw [splS_joinS h0 nd]
    have hf : fitK (caseT P) (caseS (joinS P)).size (caseT P).length 0 = (caseT P).length := fitK_unique (Nat.le_refl _) (fun j hj => by rw [ea]; have := joinS_size_take (caseT P) (j + 1); omega) (fun h => by omega)
    have es : shortS (caseS (joinS P)) (caseS (joinS P)).size = joinS ((caseT P).take (backK (caseT P) (caseT P).length)) := by
      unfold shortS
      rw [shortE_eq, hs, hf, ea, joinS_prefix]
    rw [es]
    have hz : (caseT P).map ByteArray.size = P.map ByteArray.size := size_caseL _ _ _
    rw [backK_size _ _ hz, caseT_length]
    obtain ⟨n, hn⟩ : ∃ n, P.length = n + 1 := ⟨P.length - 1, by have := List.length_pos_iff.2 h0; omega⟩
    have hall : ∀ j, P.length ≤ j → joinS ((caseT P).take j) = caseS (joinS P) := fun j hj => by rw [List.take_of_length_le (by rw [caseT_length]; exact hj), ea]
    rw [hn]
    rcases n with _ | n
    · exact .inl (hall _ (by rw [hn]; exact Nat.le_refl _))
    · have hnl : n + 1 < P.length := by omega
      rw [backK_step (List.getElem?_eq_getElem hnl)]
      by_cases h1 : P[n + 1].size = 1
      · refine .inr ⟨P.take (n + 1), P[n + 1], ?_, ?_, h1⟩
        · rw [← List.take_succ_eq_append_getElem hnl, List.take_of_length_le (by omega)]
        · rw [ne_eq, List.take_eq_nil_iff]; rintro (h | h); omega; exact h0 h
      · rw [if_neg h1]
        exact .inl (hall _ (by omega))
/-- Subtags of a tag by numbers have a byte at least. -/
theorem pick_pos {l : List ByteArray} (h : ∀ x ∈ l, 1 ≤ x.size) (h0 : 0 < l.length) (n : Int) : 1 ≤ (pickT l n).size := by
  unfold pickT
  have h1 := (pick_facts l.length n (by omega)).2.2.2
  rw [List.getD_eq_getElem?_getD, List.getElem?_eq_getElem (by omega)]
  exact h _ (List.getElem_mem _)
theorem addVs_pos : ∀ (l : List Int) (acc : List ByteArray), (∀ x ∈ acc, 1 ≤ x.size) → ∀ x ∈ l.foldl (fun acc n => addP acc (pickT variantsL n)) acc, 1 ≤ x.size
  | [], _, h => h
  | n :: r, acc, h => by
    rw [List.foldl_cons]
    refine addVs_pos r _ (fun x hx => ?_)
    unfold addP at hx
    split at hx
    · exact h x hx
    · rcases List.mem_append.1 hx with h1 | h1
      · exact h x h1
      · simp at h1; subst h1; exact pick_pos (by decide) (by decide) n
structure TagPos (T : TagM) : Prop where
  g : T.grand.size = 0 ∨ T.grand = ⟨#[105, 45, 97, 109, 105]⟩
  se : ∀ x ∈ T.extl, 1 ≤ x.size
  sv : ∀ x ∈ T.vars, 1 ≤ x.size
  sp : ∀ x ∈ T.priv, 1 ≤ x.size
  sx : ∀ x ∈ T.exts, 1 ≤ x.1.size ∧ ∀ y ∈ x.2, 1 ≤ y.size
theorem madeT_pos (S : SeedM) : TagPos (madeT S) := by
  have sE : ∀ y e, ∀ x ∈ madeE y e, 1 ≤ x.size := fun y e x hx => by
    unfold madeE at hx
    split at hx
    · simp at hx; subst hx; exact pick_pos (by decide) (by decide) _
    · simp at hx
  have sV : ∀ x ∈ madeV S.vars, 1 ≤ x.size := addVs_pos _ [] (fun x h => by simp at h)
  have sP : ∀ x ∈ madeP S.priv, 1 ≤ x.size := fun x hx => by
    unfold madeP at hx
    obtain ⟨y, _, rfl⟩ := List.mem_map.1 hx
    exact pick_pos (by decide) (by decide) _
  have hK : ∀ l : List Int, l.length ≤ 3 → ∀ x ∈ extKs l, 1 ≤ x.1.size ∧ ∀ y ∈ x.2, 1 ≤ y.size := fun l hl x hx => by
    unfold extKs at hx
    obtain ⟨y, hy, rfl⟩ := List.mem_map.1 hx
    refine ⟨?_, ?_⟩
    · show 1 ≤ (keyI y.2).size
      have hlt : y.2 < 4 := by
        have := List.snd_lt_of_mem_zipIdx hy
        omega
      unfold keyI
      have : ∀ k : Fin 4, 1 ≤ (([⟨#[117]⟩, ⟨#[116]⟩, ⟨#[97]⟩, ⟨#[57]⟩] : List ByteArray).getD k.val ByteArray.empty).size := by decide +kernel
      exact this ⟨y.2, hlt⟩
    · intro z hz
      have hz : z ∈ subsN (pickI 1000 y.1) := hz
      unfold subsN at hz
      obtain ⟨k, _, rfl⟩ := List.mem_map.1 hz
      exact pick_pos (by decide) (by decide) _
  have sX : ∀ x ∈ madeX S.keys, 1 ≤ x.1.size ∧ ∀ y ∈ x.2, 1 ≤ y.size := by unfold madeX; exact hK _ (by rw [List.length_take]; omega)
  have sE' := sE (pickT langsL S.lang) S.extl
  have add2 : ∀ {l m : List ByteArray}, (∀ x ∈ l, 1 ≤ x.size) → (∀ x ∈ m, 1 ≤ x.size) → ∀ x ∈ l ++ m, 1 ≤ x.size := fun h1 h2 x hx => (List.mem_append.1 hx).elim (h1 x) (h2 x)
  have addX : ∀ {m : List (ByteArray × List ByteArray)}, (∀ x ∈ m, 1 ≤ x.1.size ∧ ∀ y ∈ x.2, 1 ≤ y.size) → ∀ x ∈ madeX S.keys ++ m, 1 ≤ x.1.size ∧ ∀ y ∈ x.2, 1 ≤ y.size := fun h2 x hx => (List.mem_append.1 hx).elim (sX x) (h2 x)
  unfold madeT spoiltT
  generalize madeE (pickT langsL S.lang) S.extl = mE at *
  generalize madeV S.vars = mV at *
  generalize madeX S.keys = mX at *
  generalize madeP S.priv = mP at *
  split
  · exact ⟨.inl rfl, sE', add2 sV (by decide), sP, sX⟩
  split
  · exact ⟨.inl rfl, sE', sV, sP, sX⟩
  split
  · exact ⟨.inl rfl, sE', sV, sP, addX (by decide)⟩
  split
  · exact ⟨.inl rfl, sE', sV, sP, sX⟩
  split
  · exact ⟨.inr rfl, sE', sV, sP, sX⟩
  split
  · exact ⟨.inl rfl, sE', sV, add2 sP (by decide), sX⟩
  split
  · exact ⟨.inl rfl, sE', sV, sP, addX (by decide)⟩
  split
  · exact ⟨.inl rfl, sE', sV, sP, sX⟩
  · exact ⟨.inl rfl, sE', sV, sP, sX⟩
theorem tag_pos {T : TagM} (h : TagPos T) : ∀ x ∈ subtagsT T, 1 ≤ x.size := by
  have one : ∀ s x : ByteArray, x ∈ oneT s → 1 ≤ x.size := fun s x hx => by
    unfold oneT at hx
    split at hx
    · simp at hx
    · simp at hx; subst hx; omega
  intro x hx
  unfold subtagsT at hx
  split at hx
  · simp only [List.mem_append] at hx
    rcases hx with (((((hx | hx) | hx) | hx) | hx) | hx) | hx
    · exact one _ _ hx
    · exact h.se x hx
    · exact one _ _ hx
    · exact one _ _ hx
    · exact h.sv x hx
    · obtain ⟨y, hy, hm⟩ := List.mem_flatMap.1 hx
      rcases List.mem_cons.1 hm with rfl | hm
      · exact (h.sx y hy).1
      · exact (h.sx y hy).2 x hm
    · unfold privT at hx
      split at hx
      · simp at hx
      · rcases List.mem_cons.1 hx with rfl | hx
        · decide
        · exact h.sp x hx
  · rename_i hg
    rcases h.g with h0 | h0
    · exact absurd h0 hg
    · rw [h0] at hx
      have : ∀ y ∈ splS ⟨#[105, 45, 97, 109, 105]⟩, 1 ≤ y.size := by decide +kernel
      exact this x hx
end Go.Proofs.Ytggfdmhfcpabdaa
