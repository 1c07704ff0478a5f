/-
  Of images in words: rows without one of them, and which fault a made image may have.
-/
import Derived.Test.YtaalecdokidmnaaGreatDoorZPerm
namespace Go.Proofs.YtaalecdokidmnaaGreatDoor
open Go Go.RowKit

theorem keyW_ofL (K : Nat) (l : List UInt8) : keyW K (ofL l) = ofL (l.take K) := bL_ext (by rw [bL_key]; simp [bL, ofL])
theorem ofL_injZ {a b : List UInt8} (h : ofL a = ofL b) : a = b := by rw [← bs_ofL a, h, bs_ofL]
theorem rise_keysZ {K : Nat} {l : List ByteArray} (hK : 0 < K) (h : ∀ x ∈ l, K ≤ x.size) : badW K (sortW l) = none ↔ (l.map (keyW K)).Nodup := by
  have hs : ∀ x ∈ sortW l, K ≤ x.size := fun x hx => h x ((sortW_perm l).mem_iff.1 hx)
  rw [badW_none hK hs, ← ((sortW_perm l).map (keyW K)).nodup_iff]
  unfold RisingW List.Nodup
  rw [List.pairwise_map]
  constructor
  · intro hp
    exact hp.imp fun hlt e => by rw [e, ltW_irrefl] at hlt; cases hlt
  · intro hp
    refine ((sortW_sorted l).and hp).imp fun {a b} hab => ?_
    obtain ⟨h1, h2⟩ := hab
    cases hx : ltW (keyW K a) (keyW K b) with
    | true => rfl
    | false =>
      have hy : ltW (keyW K b) (keyW K a) = false := by
        cases hy : ltW (keyW K b) (keyW K a) with
        | false => rfl
        | true => rw [ltW_of_key hy] at h1; cases h1
      exact absurd (ltW_tri hx hy) h2
theorem dup_keysZ (im : Im) (k : Nat) (hk : k ≠ 2) : dupN im k = false ↔ ((rowsN im k).map (keyW (kyN k))).Nodup := by
  have e : dupN im k = (badW (kyN k) (sortW (rowsN im k))).isSome := by
    rcases k with _ | _ | _ | k
    · rfl
    · rfl
    · exact absurd rfl hk
    · rfl
  have hK : 0 < kyN k ∧ kyN k ≤ wdR k := by
    rcases k with _ | _ | _ | k
    · exact ⟨by decide, by decide⟩
    · exact ⟨by decide, by decide⟩
    · exact absurd rfl hk
    · exact ⟨show 0 < 16 by decide, show 16 ≤ 16 by decide⟩
  rw [e, ← rise_keysZ hK.1 (fun x hx => by rw [rowsN_size im k x hx]; exact hK.2)]
  cases badW (kyN k) (sortW (rowsN im k)) <;> simp
/-- Rows of the other alone, in its order. -/
structure SubI (a b : Im) : Prop where
  als : a.als.Sublist b.als
  lks : a.lks.Sublist b.lks
  rls : a.rls.Sublist b.rls
  mbs : a.mbs.Sublist b.mbs
  th : a.th = b.th
  de : a.de = b.de
theorem SubI.cnt {a b : Im} (h : SubI a b) (k : Nat) : cntN a k ≤ cntN b k := by
  rcases k with _ | _ | _ | k
  · exact h.als.length_le
  · exact h.lks.length_le
  · exact h.rls.length_le
  · exact h.mbs.length_le
theorem SubI.rows {a b : Im} (h : SubI a b) (k : Nat) : (rowsN a k).Sublist (rowsN b k) := by
  rcases k with _ | _ | _ | k
  · exact h.als.map _
  · exact h.lks.map _
  · exact h.rls.map _
  · exact h.mbs.map _
theorem badL_allZ {α : Type} {p : α → Bool} {l : List α} : badL p l = none ↔ ∀ x ∈ l, p x = true := by
  unfold badL
  rw [List.findIdx?_eq_none_iff]
  exact ⟨fun h x hx => by simpa using h x hx, fun h x hx => by simpa using h x hx⟩
theorem badL_subZ {α : Type} {p : α → Bool} {l l' : List α} (h : l.Sublist l') (hb : badL p l' = none) : badL p l = none := badL_allZ.2 fun x hx => badL_allZ.1 hb x (h.subset hx)
theorem SubI.none {a b : Im} (h : SubI a b) (hb : encE b = none) : encE a = none := by
  obtain ⟨h1, h2, h3, h4⟩ := (encE_noneZ b).1 hb
  refine (encE_noneZ a).2 ⟨?_, ?_, fun j hj => ?_, fun j hj => ?_⟩
  · unfold manyB at *
    have := of_decide_eq_false h1
    have c0 := h.cnt 0
    have c1 := h.cnt 1
    have c2 := h.cnt 2
    have c3 := h.cnt 3
    exact decide_eq_false (by omega)
  · unfold argB at *
    rw [h.th, h.de]
    exact h2
  · have := h3 j hj
    rcases four j hj with rfl | rfl | rfl | rfl
    · exact badL_subZ h.als this
    · exact badL_subZ h.lks this
    · exact badL_subZ h.rls this
    · exact badL_subZ h.mbs this
  · by_cases h2j : j = 2
    · subst h2j; rfl
    · exact (dup_keysZ a j h2j).2 (List.Pairwise.sublist ((h.rows j).map _) ((dup_keysZ b j h2j).1 (h4 j hj)))
theorem packN_injZ {s t : ByteArray} (hs : packT s = true ∧ lowS s = s) (ht : packT t = true ∧ lowS t = t) (h : put8L s = put8L t) : s = t := by
  have e := putL_inj _ _ (packN_lt s) (packN_lt t) h
  rw [← (unT_packN hs).1, e, (unT_packN ht).1]
theorem lk_packs {x : Lk} (h : rightLk x = true) : (packT x.l = true ∧ lowS x.l = x.l) ∧ (packT x.s = true ∧ lowS x.s = x.s) ∧ (packT x.r = true ∧ lowS x.r = x.r) := by
  unfold rightLk lkT at h
  simp only [List.all_cons, List.all_nil, Bool.and_true, Bool.and_eq_true] at h
  obtain ⟨⟨s1, s2, s3, _⟩, h1, h2, h3, _⟩ := h
  exact ⟨pack_fine fine_language (by rw [h1, s1]; rfl), pack_fine (fine_maybe fine_script) (by rw [h2, s2]; rfl), pack_fine (fine_maybe fine_region) (by rw [h3, s3]; rfl)⟩
theorem mb_packs {x : Mb} (h : rightMb x = true) : packT x.rg = true ∧ lowS x.rg = x.rg := by
  unfold rightMb at h
  rw [Bool.and_eq_true] at h
  exact pack_fine fine_region h.2
theorem wrong_codeZ {im : Im} {e : ErrT} (h : wrongZ im = some e) : e.1 = 12 := by
  unfold wrongZ at h
  obtain ⟨k, _, hk⟩ := List.exists_of_findSome?_eq_some h
  obtain ⟨i, _, rfl⟩ := Option.map_eq_some_iff.1 hk
  rfl
theorem wrong_noneZ {im : Im} (h : wrongZ im = none) : badN im 0 = none ∧ badN im 1 = none ∧ badN im 2 = none ∧ badN im 3 = none := by
  unfold wrongZ at h
  rw [List.findSome?_eq_none_iff] at h
  have g : ∀ k, k ∈ [0, 1, 2, 3] → badN im k = none := fun k hk => by
    have := h k hk
    cases hb : badN im k with
    | none => rfl
    | some i => rw [hb] at this; exact absurd this (by simp)
  exact ⟨g 0 (by decide), g 1 (by decide), g 2 (by decide), g 3 (by decide)⟩
theorem BaseI.dup {S : SeedZ} {im : Im} (h : BaseI S im) (hw : wrongZ im = none) : ∀ j, j < 4 → dupN im j = false := by
  obtain ⟨w0, w1, w2, w3⟩ := wrong_noneZ hw
  intro j hj
  rcases four j hj with rfl | rfl | rfl | rfl
  · have hr := badL_allZ.1 (show badL rightA im.als = none from w0)
    rw [dup_keysZ im 0 (by decide)]
    show ((im.als.map rowB).map (keyW 17)).Nodup
    unfold List.Nodup
    rw [List.pairwise_map, List.pairwise_map]
    refine h.a.ap.imp_of_mem fun {x y} hx hy hne e => ?_
    have key : ∀ z : Al, keyW 17 (rowB z) = ofL (keyL z) := fun z => by
      unfold rowB
      rw [keyW_ofL]
      have : rowL z = keyL z ++ (put8L z.l ++ (put8L z.s ++ put8L z.r)) := by unfold rowL keyL; simp [List.append_assoc]
      rw [this, List.take_left' (length_keyL z)]
    rw [key, key] at e
    have := (stand_keys (hr x hx) (hr y hy)).2.1 (ofL_injZ e)
    rw [this] at hne
    cases hne
  · have hr := badL_allZ.1 (show badL rightLk im.lks = none from w1)
    rw [dup_keysZ im 1 (by decide)]
    show ((im.lks.map rowLk).map (keyW 24)).Nodup
    unfold List.Nodup
    rw [List.pairwise_map, List.pairwise_map]
    refine h.l.ap.imp_of_mem fun {x y} hx hy hne e => ?_
    have key : ∀ z : Lk, keyW 24 (rowLk z) = ofL (put8L z.l ++ (put8L z.s ++ put8L z.r)) := fun z => by
      unfold rowLk
      rw [keyW_ofL]
      have : packL (lkT z) = (put8L z.l ++ (put8L z.s ++ put8L z.r)) ++ (put8L z.tl ++ (put8L z.ts ++ put8L z.tr)) := by simp [packL, lkT, List.append_assoc]
      rw [this, List.take_left' (by simp [length_put8])]
    rw [key, key] at e
    obtain ⟨e1, e2⟩ := List.append_inj (ofL_injZ e) (by rw [length_put8, length_put8])
    obtain ⟨e2, e3⟩ := List.append_inj e2 (by rw [length_put8, length_put8])
    have px := lk_packs (hr x hx)
    have py := lk_packs (hr y hy)
    have q1 := packN_injZ px.1 py.1 e1
    have q2 := packN_injZ px.2.1 py.2.1 e2
    have q3 := packN_injZ px.2.2 py.2.2 e3
    unfold sameLk at hne
    rw [q1, q2, q3] at hne
    simp at hne
  · rfl
  · have hr := badL_allZ.1 (show badL rightMb im.mbs = none from w3)
    rw [dup_keysZ im 3 (by decide)]
    show ((im.mbs.map rowMb).map (keyW 16)).Nodup
    unfold List.Nodup
    rw [List.pairwise_map, List.pairwise_map]
    refine h.m.ap.imp_of_mem fun {x y} hx hy hne e => ?_
    have key : ∀ z : Mb, keyW 16 (rowMb z) = ofL (put8L z.st ++ put8L z.rg) := fun z => by
      unfold rowMb
      rw [keyW_ofL]
      have : packL (mbT z) = put8L z.st ++ put8L z.rg := by simp [packL, mbT]
      rw [this, List.take_of_length_le (by simp [length_put8])]
    rw [key, key] at e
    obtain ⟨_, e2⟩ := List.append_inj (ofL_injZ e) (by rw [length_put8, length_put8])
    have q := packN_injZ (mb_packs (hr x hx)) (mb_packs (hr y hy)) e2
    rw [q] at hne
    simp at hne
/-- Of a made image that is not spoilt only a row may be wrong. -/
theorem BaseI.err {S : SeedZ} {im : Im} {e : ErrT} (h : BaseI S im) (he : encE im = some e) : e.1 = 12 := by
  have hf : FewI im := h.few 0
  have hm : manyB im = false := by
    unfold manyB
    have a := hf.a
    have l := hf.l
    have r := hf.r
    have m := hf.m
    exact decide_eq_false (show ¬ (4000 < im.als.length ∨ 4000 < im.lks.length ∨ 4000 < im.rls.length ∨ 4000 < im.mbs.length) by omega)
  have ha : argB im = false := by
    unfold argB
    have t := h.th
    have d := h.de
    have t1 := restV_lt S.th 256 (by decide)
    have d1 := restV_lt S.de 30 (by decide)
    exact decide_eq_false (by omega)
  rw [encE_rest hm ha] at he
  cases hw : wrongZ im with
  | some e' =>
    rw [hw] at he
    obtain rfl : e' = e := Option.some.inj he
    exact wrong_codeZ hw
  | none =>
    rw [hw, dupZ_none (h.dup hw)] at he
    cases he
theorem encB_lenZ {im : Im} (h : encE im = none) : (encB im).size = 14 + cntN im 0 * 41 + cntN im 1 * 48 + cntN im 2 * 51 + cntN im 3 * 16 := by rw [encB_none h, outN_size]
theorem cut_subZ {α : Type} (n : Nat) (l : List α) : (l.take n ++ l.drop (n + 1)).Sublist l := by
  have h : (l.take n ++ l.drop (n + 1)).Sublist (l.take n ++ l.drop n) := (List.Sublist.refl _).append (by rw [← List.drop_drop]; exact List.drop_sublist _ _)
  rwa [List.take_append_drop] at h
theorem cut_lenZ {α : Type} {n : Nat} {l : List α} (h : n < l.length) : (l.take n ++ l.drop (n + 1)).length + 1 = l.length := by
  rw [List.length_append, List.length_take, List.length_drop]; omega
end Go.Proofs.YtaalecdokidmnaaGreatDoor
