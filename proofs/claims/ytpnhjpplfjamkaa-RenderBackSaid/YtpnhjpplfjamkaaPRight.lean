/-
  Package parse: each right tag is parsed of its subtags, joined (the mathematics).
-/
import Derived.Test.YtpnhjpplfjamkaaPBack
import Derived.Test.YtpnhjpplfjamkaaFRight
namespace Go.Proofs.Ytpnhjpplfjamkaa
open Go Go.RowKit

theorem eachN_at {α : Type} {p : List α → α → Bool} {l : List α} (h : eachN p l l.length = true) {i : Nat} {x : α} (hx : l[i]? = some x) : p (l.take i) x = true := by
  unfold eachN at h
  rw [List.all_eq_true] at h
  have := h i (List.mem_range.2 (List.getElem?_eq_some_iff.1 hx).1)
  rw [hx] at this
  exact this
theorem pre_has {l : List ByteArray} {x : ByteArray} (h : (l.all fun y => decide (y ≠ x)) = true) : hasT l x = false := by
  have := diffT_has l x
  unfold diffT at this
  rw [h] at this
  simpa using this.symm
theorem whole_of {T : TagM} (hg : T.grand.size = 0) (h : wholeT T = true) : WholeP T := by
  unfold wholeT rowsT at h
  simp only [Bool.and_eq_true, Bool.or_eq_true, decide_eq_true_eq] at h
  obtain ⟨⟨h1, h2, h3, h4, h5, h6⟩, ⟨h7, h8⟩, h9, h10⟩ := h
  refine ⟨hg, h1, fun p hp => List.all_eq_true.1 h9 p hp, h7, fun hne => ?_, h2, h3, fun p hp => ?_, fun i p hi => ?_, fun e he => ?_, fun i e hi => ?_, fun p hp => ?_⟩
  · have hl : 0 < T.extl.length := List.length_pos_iff.2 hne
    simp [hl] at h8
    omega
  · obtain ⟨i, hi⟩ := List.getElem?_of_mem hp
    have := eachN_at h4 hi
    unfold pV at this
    rw [Bool.and_eq_true] at this
    exact this.1
  · have := eachN_at h4 hi
    unfold pV at this
    rw [Bool.and_eq_true] at this
    exact pre_has this.2
  · obtain ⟨i, hi⟩ := List.getElem?_of_mem he
    have := eachN_at h5 hi
    unfold pE subsT at this
    simp only [Bool.and_eq_true, decide_eq_true_eq] at this
    refine ⟨this.1.1, fun hz => this.2.2 (by rw [hz]; rfl), fun p hp => ?_⟩
    have := List.all_eq_true.1 this.2.1 p hp
    simp only [Bool.and_eq_true, decide_eq_true_eq] at this
    exact ⟨this.2, this.1⟩
  · have := eachN_at h5 hi
    unfold pE keyT at this
    simp only [Bool.and_eq_true] at this
    refine pre_has ?_
    rw [List.all_map]
    exact this.1.2
  · unfold subsT at h6
    have := List.all_eq_true.1 h6 p hp
    simp only [Bool.and_eq_true] at this
    exact this.1
theorem no_x (j : Nat) (hj : j < 26) : (bs (nameG j)).head? ≠ some 120 := name_all (fun j => (bs (nameG j)).head? ≠ some 120) (by decide +kernel) j hj
theorem head_x (P : List ByteArray) : (bs (joinS (sX :: P))).head? = some 120 := by
  unfold joinS
  rw [bs_ofL, List.map_cons]
  cases P with
  | nil => rfl
  | cons q r => rfl
theorem find_x (P : List ByteArray) : findV (joinS (sX :: P)) = none := findV_of fun j hj e => no_x j hj (by
  have h := congrArg bs e
  rw [low_bs] at h
  rw [← h, List.head?_map, head_x]
  rfl)
/-- P7.3, one way: each right tag is parsed of its subtags, joined. -/
theorem parse_right (T : TagM) (h : rightT T = true) : parseS (joinS (subtagsT T)) = (T, none) := by
  unfold rightT smallT at h
  rw [Bool.and_eq_true, Bool.and_eq_true] at h
  obtain ⟨⟨hs, hgs⟩, h⟩ := h
  have hsm : ∀ p ∈ subtagsT T, lowS p = p := fun p hp => by
    unfold lowT at hs
    have := List.all_eq_true.1 hs p (List.mem_append_left _ hp)
    exact (of_decide_eq_true this).symm
  by_cases hg : T.grand.size = 0
  · rw [if_pos hg] at h
    by_cases hl : T.lang.size = 0
    · rw [if_pos hl, Bool.and_eq_true, Bool.and_eq_true] at h
      obtain ⟨h1, h2, h3⟩ := h
      unfold plainT at h1
      simp only [Bool.and_eq_true, decide_eq_true_eq] at h1
      obtain ⟨q1, q2, q3, q4, q5, q6⟩ := h1
      have hpz : ¬ T.priv.length = 0 := by have := of_decide_eq_true h2; omega
      have hst : subtagsT T = sX :: T.priv := by
        unfold subtagsT
        rw [if_pos hg]
        unfold oneT privT
        rw [if_pos q1, if_pos q3, if_pos q4, if_neg hpz, List.eq_nil_of_length_eq_zero q2, List.eq_nil_of_length_eq_zero q5, List.eq_nil_of_length_eq_zero q6]
        rfl
      have hTe : (⟨T.lang, T.extl, T.script, T.region, T.vars, T.exts, T.priv, T.grand⟩ : TagM) = T := rfl
      rw [empty_of_size hg, empty_of_size q1, empty_of_size q3, empty_of_size q4, List.eq_nil_of_length_eq_zero q2, List.eq_nil_of_length_eq_zero q5, List.eq_nil_of_length_eq_zero q6] at hTe
      rw [hst, parse_private T.priv (fun e => hpz (by rw [e]; rfl)) (fun p hp => by
        unfold subsT at h3
        have := List.all_eq_true.1 h3 p hp
        rw [Bool.and_eq_true] at this
        exact this.1) (fun p hp => hsm p (by rw [hst]; exact List.mem_cons_of_mem _ hp)) (find_x _)]
      rw [show ({ pNo with priv := T.priv } : TagM) = T from hTe]
    · rw [if_neg hl] at h
      have hw := whole_of hg h
      refine parse_whole T hw hsm ?_
      unfold wholeT at h
      simp only [Bool.and_eq_true] at h
      cases hf : findV (joinS (subtagsT T)) with
      | none => rfl
      | some k => rw [hf] at h; exact absurd h.2.2.2 (by simp)
  · rw [if_neg hg, Bool.and_eq_true, Bool.and_eq_true] at h
    obtain ⟨h1, h2, h3⟩ := h
    unfold plainT at h1
    simp only [Bool.and_eq_true, decide_eq_true_eq] at h1
    obtain ⟨q1, q2, q3, q4, q5, q6⟩ := h1
    have hst : subtagsT T = splS T.grand := by unfold subtagsT; rw [if_neg hg]
    have hTe : (⟨T.lang, T.extl, T.script, T.region, T.vars, T.exts, T.priv, T.grand⟩ : TagM) = T := rfl
    rw [empty_of_size q1, empty_of_size q3, empty_of_size q4, List.eq_nil_of_length_eq_zero q2, List.eq_nil_of_length_eq_zero q5, List.eq_nil_of_length_eq_zero q6, List.eq_nil_of_length_eq_zero (of_decide_eq_true h2)] at hTe
    rw [hst, join_split, parse_grand T.grand (of_decide_eq_true hgs).symm h3]
    rw [show ({ pNo with grand := T.grand } : TagM) = T from hTe]
end Go.Proofs.Ytpnhjpplfjamkaa
