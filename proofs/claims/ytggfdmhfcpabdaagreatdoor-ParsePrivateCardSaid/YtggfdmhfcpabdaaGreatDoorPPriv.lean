/-
  Package parse: what stands behind x (mathematics of ParsePrivate).
-/
import Derived.Test.YtggfdmhfcpabdaaGreatDoorPGrow
import Derived.Test.YtggfdmhfcpabdaaGreatDoorQGram
import Derived.Test.YtggfdmhfcpabdaaGreatDoorQMath
namespace Go.Proofs.YtggfdmhfcpabdaaGreatDoor
open Go Go.RowKit

theorem low_sX : lowS sX = sX := by decide +kernel
theorem chk_ok {s : ByteArray} (h : chkS s = none) : ∀ q ∈ splS s, okS q = true := by
  intro q hq
  unfold splS at hq
  obtain ⟨p, hp, rfl⟩ := List.mem_map.1 hq
  rw [okS_ofL]
  exact (chkS_none s).1 h p hp
theorem chk_bad {s : ByteArray} (h : ∀ q ∈ splS s, okS q = true) : chkS s = none := by
  rw [chkS_none]
  intro p hp
  rw [← okS_ofL]
  exact h _ (List.mem_map_of_mem hp)
theorem pieces_x (s : ByteArray) : pieces (sX ++ ⟨#[45]⟩ ++ s) = (0, sX) :: placed 2 (spl (bs s)) := by
  unfold pieces
  rw [bs_glue, spl_app, spl_plain (show (45 : UInt8) ∉ bs sX by decide)]
  rfl
theorem run6_bad : ∀ (xs : List (Nat × ByteArray)) (st : PSt), st.stage = 6 → (∃ x ∈ xs, okS x.2 = false) → ∃ st' y, y ∈ xs ∧ runP xs st = (st', some (10, y.1, sSub))
  | [], _, _, ⟨x, hx, _⟩ => by cases hx
  | x :: r, st, h6, hb => by
    cases ho : okS x.2 with
    | false =>
      refine ⟨st, x, List.mem_cons_self .., ?_⟩
      simp only [runP, take_bad (st := st) (a := x.1) (show okS (lowS x.2) = false by rw [okk_low]; exact ho)]
    | true =>
      have ht : takeP st x.1 (lowS x.2) = .ok { st with T := { st.T with priv := st.T.priv ++ [lowS x.2] }, must := false } := by
        unfold takeP
        rw [if_neg (by omega), if_pos h6, if_pos (by rw [okk_low]; exact ho)]
      obtain ⟨st', y, hy, hr⟩ := run6_bad r (endP { st with T := { st.T with priv := st.T.priv ++ [lowS x.2] }, must := false } x.1 x.2.size) (by unfold endP; rw [if_neg (by simp)]; exact h6) (by
        obtain ⟨z, hz, hzo⟩ := hb
        rcases List.mem_cons.1 hz with rfl | hz
        · rw [ho] at hzo; cases hzo
        · exact ⟨z, hz, hzo⟩)
      exact ⟨st', y, List.mem_cons_of_mem _ hy, by simp only [runP, ht]; exact hr⟩
theorem run_ok_all : ∀ (xs : List (Nat × ByteArray)) (st st' : PSt), runP xs st = (st', none) → ∀ x ∈ xs, okS x.2 = true
  | [], _, _, _ => fun x hx => by cases hx
  | x :: r, st, st', h => by
    simp only [runP] at h
    cases ht : takeP st x.1 (lowS x.2) with
    | error e => rw [ht] at h; simp at h
    | ok s2 =>
      rw [ht] at h
      intro y hy
      rcases List.mem_cons.1 hy with rfl | hy
      · cases ho : okS y.2 with
        | true => rfl
        | false =>
          rw [take_bad (show okS (lowS y.2) = false by rw [okk_low]; exact ho)] at ht
          cases ht
      · exact run_ok_all r _ st' h y hy
theorem xin : ∀ k : Fin 26, (splS (nameG k.val)).all (fun q => decide (q ≠ sX)) = true := by decide +kernel
theorem findV_x {t : ByteArray} (h : sX ∈ splS t) : findV t = none := by
  have := findV_mem (l := splS t) (p := sX) (splS_dash t) h low_sX xin
  rwa [join_split] at this
theorem splS_x (s : ByteArray) : splS (sX ++ ⟨#[45]⟩ ++ s) = sX :: splS s := by
  rw [splS_glue, show splS sX = [sX] by decide +kernel]; rfl
theorem placed_from : ∀ {ps : List (List UInt8)} {n : Nat} {y : Nat × ByteArray}, y ∈ placed n ps → n ≤ y.1
  | [], _, _, h => by cases h
  | p :: r, n, y, h => by
    simp only [placed, List.mem_cons] at h
    rcases h with rfl | h
    · exact Nat.le_refl _
    · have := placed_from h; omega
/-- Alone. -/
theorem parse_x (s : ByteArray) :
    (chkS s = none → parseS (sX ++ ⟨#[45]⟩ ++ s) = ({ pNo with priv := (splS s).map lowS }, none)) ∧ (chkS s ≠ none → ∃ a, 2 ≤ a ∧ parseS (sX ++ ⟨#[45]⟩ ++ s) = (pNo, some (10, a, sSub))) := by
  have hf : findV (sX ++ ⟨#[45]⟩ ++ s) = none := findV_x (by rw [splS_x]; exact List.mem_cons_self ..)
  have ht : takeP pSt0 0 (lowS sX) = .ok { pSt0 with must := true, stage := 6 } := by
    rw [low_sX]
    unfold takeP
    rw [if_pos (show pSt0.stage = 0 from rfl), if_pos rfl]
  have hr : runP (pieces (sX ++ ⟨#[45]⟩ ++ s)) pSt0 = runP (placed 2 (spl (bs s))) { pSt0 with must := true, stage := 6 } := by
    rw [pieces_x]
    simp only [runP, ht]
    unfold endP
    rw [if_pos rfl]
  have hlow : lowsOf (placed 2 (spl (bs s))) = (splS s).map lowS := by
    unfold lowsOf splS
    rw [← placed_map 2, List.map_map]
    rfl
  have hp : parseS (sX ++ ⟨#[45]⟩ ++ s) = outP (readS (sX ++ ⟨#[45]⟩ ++ s)) := by unfold parseS; rw [hf]; rfl
  refine ⟨fun hc => ?_, fun hc => ?_⟩
  · have hne : placed 2 (spl (bs s)) ≠ [] := by
      intro e
      have h1 : (spl (bs s)).length = 0 := by rw [← placed_length 2, e]; rfl
      have h2 := spl_pos (bs s)
      omega
    obtain ⟨n, hn⟩ := run_priv (placed 2 (spl (bs s))) { pSt0 with must := true, stage := 6 } rfl hne (by
      rw [hlow]
      intro p hp
      obtain ⟨q, hq, rfl⟩ := List.mem_map.1 hp
      rw [okk_low]; exact chk_ok hc q hq)
    rw [hp]
    unfold readS
    rw [hr, hn, hlow]
    rfl
  · have hb : ∃ x ∈ placed 2 (spl (bs s)), okS x.2 = false := by
      refine Classical.byContradiction fun hno => hc (chk_bad fun q hq => ?_)
      cases ho : okS q with
      | true => rfl
      | false =>
        exfalso
        have hq' : q ∈ (placed 2 (spl (bs s))).map (·.2) := by rw [placed_map]; exact hq
        obtain ⟨x, hx, rfl⟩ := List.mem_map.1 hq'
        exact hno ⟨x, hx, ho⟩
    obtain ⟨st', y, hy, hrun⟩ := run6_bad (placed 2 (spl (bs s))) { pSt0 with must := true, stage := 6 } rfl hb
    refine ⟨y.1, placed_from hy, ?_⟩
    rw [hp]
    unfold readS
    rw [hr, hrun]
    rfl
/-- Behind a tag that has none yet. -/
theorem parse_behind {T : TagM} (h : MadeOk T) (hp0 : T.priv = []) (s : ByteArray) :
    (chkS s = none → parseS (joinS (subtagsT T) ++ ⟨#[45, 120, 45]⟩ ++ s) = ({ T with priv := (splS s).map lowS }, none)) ∧ (chkS s ≠ none → ∃ T' e, parseS (joinS (subtagsT T) ++ ⟨#[45, 120, 45]⟩ ++ s) = (T', some e)) := by
  have hw := h.w
  have hg := hw.g
  have hne : subtagsT T ≠ [] := by
    have hm : T.lang ∈ subtagsT T := (mem_fields hg).2 (.inl (.inl (.inl (.inl (.inl (.inl (by
      have := lang_size hw.l
      unfold oneT; rw [if_neg (by omega)]; simp)))))))
    exact List.ne_nil_of_mem hm
  have hB : joinS (subtagsT T) ++ ⟨#[45, 120, 45]⟩ ++ s = joinS (subtagsT T) ++ ⟨#[45]⟩ ++ (sX ++ ⟨#[45]⟩ ++ s) := by
    apply ofL_ext
    rw [bs_glue, bs_glue]
    simp [bs, ByteArray.data_append, sX]
  have hsp : splS (joinS (subtagsT T) ++ ⟨#[45, 120, 45]⟩ ++ s) = subtagsT T ++ (sX :: splS s) := by
    rw [hB, splS_glue, splS_x, splS_joinS hne (whole_nodash hw)]
  have hf : findV (joinS (subtagsT T) ++ ⟨#[45, 120, 45]⟩ ++ s) = none := findV_x (by rw [hsp]; simp)
  refine ⟨fun hc => ?_, fun hc => ?_⟩
  · have hsub : subtagsT { T with priv := (splS s).map lowS } = subtagsT T ++ (sX :: (splS s).map lowS) := by
      have hl := splS_pos s
      unfold subtagsT
      rw [if_pos hg, if_pos hg, hp0]
      have e1 : privT ((splS s).map lowS) = sX :: (splS s).map lowS := by unfold privT; rw [if_neg (by rw [List.length_map]; omega)]; rfl
      have e2 : privT [] = [] := rfl
      simp only [e1, e2, List.append_nil]
    have hlow : lowS (joinS (subtagsT T) ++ ⟨#[45, 120, 45]⟩ ++ s) = lowS (joinS (subtagsT { T with priv := (splS s).map lowS })) := by
      conv => lhs; rw [← join_split (joinS (subtagsT T) ++ ⟨#[45, 120, 45]⟩ ++ s), hsp]
      rw [← joinS_low, ← joinS_low, hsub]
      congr 1
      simp only [List.map_append, List.map_cons, List.map_map]
      congr 2
      exact List.map_congr_left (fun x _ => (low_lowS x).symm)
    rw [parseS_same hlow]
    refine (whole_grown (T := { T with priv := (splS s).map lowS }) (p := sX) ⟨hg, hw.l, hw.e, hw.en, hw.el, hw.s, hw.r, hw.v, hw.vn, hw.x, hw.xn, fun p hp => ?_⟩ (fun q hq => ?_) (by rw [hsub]; simp) xin).1
    · obtain ⟨q, hq, rfl⟩ := List.mem_map.1 hp
      rw [okk_low]; exact chk_ok hc q hq
    · rw [hsub] at hq
      rcases List.mem_append.1 hq with hq | hq
      · exact h.low q hq
      · rcases List.mem_cons.1 hq with rfl | hq
        · exact low_sX
        · obtain ⟨x, _, rfl⟩ := List.mem_map.1 hq
          exact low_lowS x
  · obtain ⟨⟨T', r⟩, hq⟩ : ∃ z, parseS (joinS (subtagsT T) ++ ⟨#[45, 120, 45]⟩ ++ s) = z := ⟨_, rfl⟩
    rw [hq]
    cases r with
    | some e => exact ⟨T', e, rfl⟩
    | none =>
      exfalso
      refine hc (chk_bad fun q hqs => ?_)
      unfold parseS at hq
      rw [hf, if_neg (by decide)] at hq
      unfold readS at hq
      obtain ⟨⟨st', r'⟩, hz⟩ : ∃ z, runP (pieces (joinS (subtagsT T) ++ ⟨#[45, 120, 45]⟩ ++ s)) pSt0 = z := ⟨_, rfl⟩
      rw [hz] at hq
      cases r' with
      | some e => simp [finP, outP] at hq
      | none =>
        have hall := run_ok_all _ _ _ hz
        have hm : q ∈ (pieces (joinS (subtagsT T) ++ ⟨#[45, 120, 45]⟩ ++ s)).map (·.2) := by rw [pieces_map, hsp]; simp [hqs]
        obtain ⟨x, hx, rfl⟩ := List.mem_map.1 hm
        exact hall x hx
end Go.Proofs.YtggfdmhfcpabdaaGreatDoor
