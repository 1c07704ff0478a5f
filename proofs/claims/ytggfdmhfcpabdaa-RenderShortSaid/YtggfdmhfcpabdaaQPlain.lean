/-
  Tags by numbers: no mark within their subtags (mathematics).
-/
import Derived.Test.YtggfdmhfcpabdaaKTags
namespace Go.Proofs.Ytggfdmhfcpabdaa
open Go Go.RowKit

def Nd (p : ByteArray) : Prop := (45 : UInt8) ∉ bs p
instance (p : ByteArray) : Decidable (Nd p) := by unfold Nd; infer_instance
theorem nd_empty : Nd ByteArray.empty := by decide
theorem nd_pick {l : List ByteArray} (h : ∀ x ∈ l, Nd x) (n : Int) : Nd (pickT l n) := by
  unfold pickT
  rcases Nat.lt_or_ge (pickI l.length n) l.length with h1 | h1
  · rw [List.getD_eq_getElem?_getD, List.getElem?_eq_getElem h1]
    exact h _ (List.getElem_mem h1)
  · rw [List.getD_eq_getElem?_getD, List.getElem?_eq_none h1]
    exact nd_empty
theorem nd_title {p : ByteArray} (h : Nd p) : Nd (titleS p) := by
  have hu : ∀ c : UInt8, (decide (upB c = 45) = decide (c = 45)) := byte_all _ (by decide +kernel)
  have hl : ∀ c : UInt8, (decide (lowB c = 45) = decide (c = 45)) := byte_all _ (by decide +kernel)
  unfold Nd at *
  unfold titleS; rw [bs_ofL]
  cases hb : bs p with
  | nil => simp [titleL]
  | cons c r =>
    rw [hb, List.mem_cons, not_or] at h
    simp only [titleL, List.mem_cons, not_or]
    refine ⟨fun e => h.1 ?_, fun hm => ?_⟩
    · have := hu c
      rw [decide_eq_true e.symm] at this
      exact (of_decide_eq_true this.symm).symm
    · obtain ⟨d, hd, e⟩ := List.mem_map.1 hm
      have := hl d
      rw [decide_eq_true e] at this
      exact h.2 ((of_decide_eq_true this.symm) ▸ hd)
theorem nd_addVs : ∀ (l : List Int) (acc : List ByteArray), (∀ x ∈ acc, Nd x) → (∀ x ∈ variantsL, Nd x) → ∀ x ∈ l.foldl (fun acc n => addP acc (pickT variantsL n)) acc, Nd x
  | [], _, h, _ => h
  | n :: r, acc, h, hv => by
    rw [List.foldl_cons]
    refine nd_addVs r _ (fun x hx => ?_) hv
    unfold addP at hx
    split at hx
    · exact h x hx
    · rcases List.mem_append.1 hx with h1 | h1
      · exact h x h1
      · simp at h1; subst h1; exact nd_pick hv n
structure TagNd (T : TagM) : Prop where
  sl : Nd T.lang
  ss : Nd T.script
  sr : Nd T.region
  se : ∀ x ∈ T.extl, Nd x
  sv : ∀ x ∈ T.vars, Nd x
  sp : ∀ x ∈ T.priv, Nd x
  sx : ∀ x ∈ T.exts, Nd x.1 ∧ ∀ y ∈ x.2, Nd y
theorem madeT_nd (S : SeedM) : TagNd (madeT S) := by
  have sE : ∀ y e, ∀ x ∈ madeE y e, Nd x := fun y e x hx => by
    unfold madeE at hx
    split at hx
    · simp at hx; subst hx; exact nd_pick (by decide) _
    · simp at hx
  have sV : ∀ x ∈ madeV S.vars, Nd x := nd_addVs _ [] (fun x h => by simp at h) (by decide)
  have sP : ∀ x ∈ madeP S.priv, Nd x := fun x hx => by
    unfold madeP at hx
    obtain ⟨y, _, rfl⟩ := List.mem_map.1 hx
    exact nd_pick (by decide) _
  have sX : ∀ x ∈ madeX S.keys, Nd x.1 ∧ ∀ y ∈ x.2, Nd y := fun x hx => by
    unfold madeX extKs at hx
    obtain ⟨y, _, rfl⟩ := List.mem_map.1 hx
    refine ⟨?_, ?_⟩
    · show Nd (keyI y.2)
      unfold keyI
      rcases Nat.lt_or_ge y.2 4 with h | h
      · have : ∀ k : Fin 4, Nd (([⟨#[117]⟩, ⟨#[116]⟩, ⟨#[97]⟩, ⟨#[57]⟩] : List ByteArray).getD k.val ByteArray.empty) := by decide +kernel
        exact this ⟨y.2, h⟩
      · rw [List.getD_eq_getElem?_getD, List.getElem?_eq_none (by simpa using h)]
        exact nd_empty
    · intro z hz
      have hz : z ∈ subsN (pickI 1000 y.1) := hz
      unfold subsN at hz
      obtain ⟨k, _, rfl⟩ := List.mem_map.1 hz
      exact nd_pick (by decide) _
  have sE' := sE (pickT langsL S.lang) S.extl
  have sl : Nd (pickT langsL S.lang) := nd_pick (by decide) _
  have ss : Nd (pickT scriptsL S.script) := nd_pick (by decide) _
  have sr : Nd (pickT regionsL S.region) := nd_pick (by decide) _
  have add2 : ∀ {l m : List ByteArray}, (∀ x ∈ l, Nd x) → (∀ x ∈ m, Nd x) → ∀ x ∈ l ++ m, Nd x := fun h1 h2 x hx => (List.mem_append.1 hx).elim (h1 x) (h2 x)
  have addX : ∀ {m : List (ByteArray × List ByteArray)}, (∀ x ∈ m, Nd x.1 ∧ ∀ y ∈ x.2, Nd y) → ∀ x ∈ madeX S.keys ++ m, Nd x.1 ∧ ∀ y ∈ x.2, Nd y := fun h2 x hx => (List.mem_append.1 hx).elim (sX x) (h2 x)
  unfold madeT spoiltT
  generalize pickT langsL S.lang = y1 at *
  generalize pickT scriptsL S.script = y2 at *
  generalize pickT regionsL S.region = y3 at *
  generalize madeE y1 S.extl = mE at *
  generalize madeV S.vars = mV at *
  generalize madeX S.keys = mX at *
  generalize madeP S.priv = mP at *
  split
  · exact ⟨sl, ss, sr, sE', add2 sV (by decide), sP, sX⟩
  split
  · exact ⟨nd_title sl, ss, sr, sE', sV, sP, sX⟩
  split
  · exact ⟨sl, ss, sr, sE', sV, sP, addX (by decide)⟩
  split
  · exact ⟨sl, by show Nd (⟨#[108, 97, 116]⟩ : ByteArray); decide, sr, sE', sV, sP, sX⟩
  split
  · exact ⟨sl, ss, sr, sE', sV, sP, sX⟩
  split
  · exact ⟨sl, ss, sr, sE', sV, add2 sP (by decide), sX⟩
  split
  · exact ⟨sl, ss, sr, sE', sV, sP, addX (by decide)⟩
  split
  · exact ⟨nd_empty, ss, sr, sE', sV, sP, sX⟩
  · exact ⟨sl, ss, sr, sE', sV, sP, sX⟩
theorem tag_nd {T : TagM} (h : TagNd T) : ∀ x ∈ subtagsT T, (45 : UInt8) ∉ bs x := by
  intro x hx
  unfold subtagsT at hx
  split at hx
  · simp only [List.mem_append] at hx
    rcases hx with (((((hx | hx) | hx) | hx) | hx) | hx) | hx
    · rw [oneT_mem hx]; exact h.sl
    · exact h.se x hx
    · rw [oneT_mem hx]; exact h.ss
    · rw [oneT_mem hx]; exact h.sr
    · exact h.sv x hx
    · obtain ⟨y, hy, hm⟩ := List.mem_flatMap.1 hx
      rcases List.mem_cons.1 hm with rfl | hm
      · exact (h.sx y hy).1
      · exact (h.sx y hy).2 x hm
    · unfold privT at hx
      split at hx
      · simp at hx
      · rcases List.mem_cons.1 hx with rfl | hx
        · decide
        · exact h.sp x hx
  · unfold splS at hx
    obtain ⟨q, hq, rfl⟩ := List.mem_map.1 hx
    rw [bs_ofL]; exact spl_mem _ q hq
end Go.Proofs.Ytggfdmhfcpabdaa
