/-
  Tags that were made: what they are told by; how small they are.
-/
import Derived.Test.YtpnhjpplfjamkaaGreatDoorIMade
import Derived.Test.YtpnhjpplfjamkaaGreatDoorFSame
namespace Go.Proofs.YtpnhjpplfjamkaaGreatDoor
open Go Go.RowKit

/-- A tag's value, cell by cell. -/
def TagAt (W : World) (b : Nat) (T : TagM) : Prop :=
  ∃ ae ac av vc ax xc ap pc, W.heap[b]? = some (.cells #[.string T.lang, .slice ae T.extl.length ac, .string T.script, .string T.region, .slice av T.vars.length vc, .slice ax T.exts.length xc, .slice ap T.priv.length pc, .string T.grand] 31 (0, 0)) ∧ TagIs W (.agg #[.string T.lang, .slice ae T.extl.length ac, .string T.script, .string T.region, .slice av T.vars.length vc, .slice ax T.exts.length xc, .slice ap T.priv.length pc, .string T.grand]) T
theorem tag_shape {W : World} {v : Value} {T : TagM} (h : TagIs W v T) : ∃ ae ac av vc ax xc ap pc, v = .agg #[.string T.lang, .slice ae T.extl.length ac, .string T.script, .string T.region, .slice av T.vars.length vc, .slice ax T.exts.length xc, .slice ap T.priv.length pc, .string T.grand] := by
  obtain ⟨_, _, _, _, rfl, ⟨_, _, rfl, _⟩, ⟨_, _, rfl, _⟩, ⟨_, _, rfl, _⟩, ⟨_, _, rfl, _⟩⟩ := h
  exact ⟨_, _, _, _, _, _, _, _, rfl⟩
theorem TagAt.below {W W' : World} {b : Nat} {T : TagM} (h : TagAt W b T) (hb : Below W.heap.size W W') : TagAt W' b T := by
  obtain ⟨ae, ac, av, vc, ax, xc, ap, pc, h1, h2⟩ := h
  exact ⟨ae, ac, av, vc, ax, xc, ap, pc, (hb.block _ (lt_of_heap h1)).trans h1, h2.below hb⟩
theorem sameT_self (A : TagM) : sameT A A = true := by simp [sameT]
structure TagTiny (T : TagM) : Prop where
  e : T.extl.length ≤ 8
  v : T.vars.length ≤ 8
  x : T.exts.length ≤ 8
  p : T.priv.length ≤ 8
  sl : T.lang.size ≤ 100
  ss : T.script.size ≤ 100
  sr : T.region.size ≤ 100
  sg : T.grand.size ≤ 100
  se : ∀ x ∈ T.extl, x.size ≤ 100
  sv : ∀ x ∈ T.vars, x.size ≤ 100
  sp : ∀ x ∈ T.priv, x.size ≤ 100
  sx : ∀ x ∈ T.exts, x.1.size ≤ 100 ∧ x.2.length ≤ 8 ∧ ∀ y ∈ x.2, y.size ≤ 100
theorem pickT_size {l : List ByteArray} {m : Nat} (h : ∀ x ∈ l, x.size ≤ m) (n : Int) : (pickT l n).size ≤ m := by
  unfold pickT
  rcases Nat.lt_or_ge (pickI l.length n) l.length with h1 | h1
  · rw [List.getD_eq_getElem?_getD, List.getElem?_eq_getElem h1]
    exact h _ (List.getElem_mem h1)
  · rw [List.getD_eq_getElem?_getD, List.getElem?_eq_none h1]
    exact Nat.zero_le _
theorem addVs_mem {m : Nat} : ∀ (l : List Int) (acc : List ByteArray), (∀ x ∈ acc, x.size ≤ m) → (∀ x ∈ variantsL, x.size ≤ m) → ∀ x ∈ l.foldl (fun acc n => addP acc (pickT variantsL n)) acc, x.size ≤ m
  | [], _, h, _ => h
  | n :: r, acc, h, hv => by
    rw [List.foldl_cons]
    refine addVs_mem r _ (fun x hx => ?_) hv
    unfold addP at hx
    split at hx
    · exact h x hx
    · rcases List.mem_append.1 hx with h1 | h1
      · exact h x h1
      · simp at h1; subst h1; exact pickT_size hv n
theorem madeT_tiny (S : SeedM) : TagTiny (madeT S) := by
  have hE : ∀ y e, (madeE y e).length ≤ 1 := fun y e => by unfold madeE; split <;> simp
  have hV : (madeV S.vars).length ≤ 4 := by unfold madeV; have := addVs_len (S.vars.take 4); rw [List.length_take] at this; omega
  have hX : (madeX S.keys).length ≤ 3 := by unfold madeX; rw [extKs_len, List.length_take]; omega
  have hP : (madeP S.priv).length ≤ 3 := by unfold madeP; rw [List.length_map, List.length_take]; omega
  have sE : ∀ y e, ∀ x ∈ madeE y e, x.size ≤ 100 := fun y e x hx => by
    unfold madeE at hx
    split at hx
    · simp at hx; subst hx; exact pickT_size (by decide) _
    · simp at hx
  have sV : ∀ x ∈ madeV S.vars, x.size ≤ 100 := addVs_mem _ [] (fun x h => by simp at h) (by decide)
  have sP : ∀ x ∈ madeP S.priv, x.size ≤ 100 := fun x hx => by
    unfold madeP at hx
    obtain ⟨y, _, rfl⟩ := List.mem_map.1 hx
    exact pickT_size (by decide) _
  have sX : ∀ x ∈ madeX S.keys, x.1.size ≤ 100 ∧ x.2.length ≤ 8 ∧ ∀ y ∈ x.2, y.size ≤ 100 := fun x hx => by
    unfold madeX extKs at hx
    obtain ⟨y, _, rfl⟩ := List.mem_map.1 hx
    refine ⟨?_, ?_, ?_⟩
    · show (keyI y.2).size ≤ 100
      unfold keyI
      rcases Nat.lt_or_ge y.2 4 with h | h
      · have : ∀ k : Fin 4, (([⟨#[117]⟩, ⟨#[116]⟩, ⟨#[97]⟩, ⟨#[57]⟩] : List ByteArray).getD k.val ByteArray.empty).size ≤ 100 := by decide +kernel
        exact this ⟨y.2, h⟩
      · rw [List.getD_eq_getElem?_getD, List.getElem?_eq_none (by simpa using h)]
        exact Nat.zero_le _
    · show (subsN _).length ≤ 8
      unfold subsN
      rw [List.length_map, List.length_range]
      omega
    · intro z hz
      have hz : z ∈ subsN (pickI 1000 y.1) := hz
      unfold subsN at hz
      obtain ⟨k, _, rfl⟩ := List.mem_map.1 hz
      exact pickT_size (by decide) _
  have hE' := hE (pickT langsL S.lang) S.extl
  have sE' := sE (pickT langsL S.lang) S.extl
  have sl := langs_size S.lang
  have ss : (pickT scriptsL S.script).size ≤ 100 := pickT_size (by decide) _
  have sr : (pickT regionsL S.region).size ≤ 100 := pickT_size (by decide) _
  have add2 : ∀ {l m : List ByteArray}, (∀ x ∈ l, x.size ≤ 100) → (∀ x ∈ m, x.size ≤ 100) → ∀ x ∈ l ++ m, x.size ≤ 100 := fun h1 h2 x hx => (List.mem_append.1 hx).elim (h1 x) (h2 x)
  have addX : ∀ {m : List (ByteArray × List ByteArray)}, (∀ x ∈ m, x.1.size ≤ 100 ∧ x.2.length ≤ 8 ∧ ∀ y ∈ x.2, y.size ≤ 100) → ∀ x ∈ madeX S.keys ++ m, x.1.size ≤ 100 ∧ x.2.length ≤ 8 ∧ ∀ y ∈ x.2, y.size ≤ 100 := fun h2 x hx => (List.mem_append.1 hx).elim (sX x) (h2 x)
  unfold madeT spoiltT
  generalize pickT langsL S.lang = y1 at *
  generalize pickT scriptsL S.script = y2 at *
  generalize pickT regionsL S.region = y3 at *
  generalize madeE y1 S.extl = mE at *
  generalize madeV S.vars = mV at *
  generalize madeX S.keys = mX at *
  generalize madeP S.priv = mP at *
  split
  · exact ⟨by simp; omega, by simp; omega, by simp; omega, by simp; omega, by simp; omega, ss, sr, Nat.zero_le _, sE', add2 sV (by decide), sP, sX⟩
  split
  · exact ⟨by simp; omega, by simp; omega, by simp; omega, by simp; omega, by show (titleS y1).size ≤ 100; rw [size_titleS]; omega, ss, sr, Nat.zero_le _, sE', sV, sP, sX⟩
  split
  · exact ⟨by simp; omega, by simp; omega, by simp; omega, by simp; omega, by simp; omega, ss, sr, Nat.zero_le _, sE', sV, sP, addX (by decide)⟩
  split
  · exact ⟨by simp; omega, by simp; omega, by simp; omega, by simp; omega, by simp; omega, by show (⟨#[108, 97, 116]⟩ : ByteArray).size ≤ 100; decide, sr, Nat.zero_le _, sE', sV, sP, sX⟩
  split
  · exact ⟨by simp; omega, by simp; omega, by simp; omega, by simp; omega, by simp; omega, ss, sr, by show (⟨#[105, 45, 97, 109, 105]⟩ : ByteArray).size ≤ 100; decide, sE', sV, sP, sX⟩
  split
  · exact ⟨by simp; omega, by simp; omega, by simp; omega, by simp; omega, by simp; omega, ss, sr, Nat.zero_le _, sE', sV, add2 sP (by decide), sX⟩
  split
  · exact ⟨by simp; omega, by simp; omega, by simp; omega, by simp; omega, by simp; omega, ss, sr, Nat.zero_le _, sE', sV, sP, addX (by decide)⟩
  split
  · exact ⟨by simp; omega, by simp; omega, by simp; omega, by simp; omega, Nat.zero_le _, ss, sr, Nat.zero_le _, sE', sV, sP, sX⟩
  · exact ⟨by simp; omega, by simp; omega, by simp; omega, by simp; omega, by simp; omega, ss, sr, Nat.zero_le _, sE', sV, sP, sX⟩
theorem oneT_mem {s x : ByteArray} (h : x ∈ oneT s) : x = s := by unfold oneT at h; split at h <;> simp_all
theorem flat_lenT {m : Nat} : ∀ (l : List (ByteArray × List ByteArray)), (∀ x ∈ l, x.2.length ≤ m) → (l.flatMap extT).length ≤ (m + 1) * l.length
  | [], _ => by simp
  | a :: r, h => by
    rw [List.flatMap_cons, List.length_append, List.length_cons, Nat.mul_add, Nat.mul_one]
    have h1 := flat_lenT r (fun x hx => h x (List.mem_cons_of_mem _ hx))
    have h2 := h a (List.mem_cons_self ..)
    have h3 : (extT a).length = a.2.length + 1 := rfl
    omega
theorem tiny_len {T : TagM} (h : TagTiny T) : (subtagsT T).length ≤ 200 := by
  unfold subtagsT
  split
  · have h1 := oneT_len T.lang
    have h2 := oneT_len T.script
    have h3 := oneT_len T.region
    have h4 := flat_lenT T.exts (fun x hx => (h.sx x hx).2.1)
    have h5 : (privT T.priv).length ≤ T.priv.length + 1 := by unfold privT; split <;> simp
    have := h.e; have := h.v; have := h.x; have := h.p
    simp only [List.length_append]
    omega
  · have := splS_le T.grand
    have := h.sg
    omega
theorem tiny_sizes {T : TagM} (h : TagTiny T) : ∀ x ∈ subtagsT T, x.size ≤ 100 := by
  intro x hx
  unfold subtagsT at hx
  split at hx
  · simp only [List.mem_append] at hx
    rcases hx with (((((hx | hx) | hx) | hx) | hx) | hx) | hx
    · rw [oneT_mem hx]; exact h.sl
    · exact h.se x hx
    · rw [oneT_mem hx]; exact h.ss
    · rw [oneT_mem hx]; exact h.sr
    · exact h.sv x hx
    · obtain ⟨y, hy, hm⟩ := List.mem_flatMap.1 hx
      rcases List.mem_cons.1 hm with rfl | hm
      · exact (h.sx y hy).1
      · exact (h.sx y hy).2.2 x hm
    · unfold privT at hx
      split at hx
      · simp at hx
      · rcases List.mem_cons.1 hx with rfl | hx
        · decide
        · exact h.sp x hx
  · have := splS_size T.grand x hx
    have := h.sg
    omega
theorem TagTiny.fits {T : TagM} (h : TagTiny T) : TagFits T := ⟨by have := h.e; omega, by have := h.v; omega, by have := h.x; omega, fun x hx => by have := (h.sx x hx).2.1; omega, by have := h.p; omega, h.sg⟩
end Go.Proofs.YtpnhjpplfjamkaaGreatDoor
