/-
  What a trimmed text is, in plain words: a beginning, up to a mark; its pieces. No dump.
-/
import Derived.Test.YtjajlfcmmgdfcaaDoorDMath
namespace Go.Proofs.YtjajlfcmmgdfcaaDoor

theorem strip_stop {l : List UInt8} (h : ¬ singleL l) : stripP (spl l) = spl l := by
  rcases lastM_cases l with ⟨_, hn⟩ | ⟨a, p, _, hl, hp⟩
  · rw [spl_plain hn, stripP_one]
  · rw [hl, spl_app, spl_plain hp, stripP_snoc (spl_ne a)]
    rw [if_neg (fun hlen => ?_)]
    obtain ⟨c, rfl⟩ : ∃ c, p = [c] := List.length_eq_one_iff.1 hlen
    exact h ⟨a, c, by rw [hl], fun e => hp (by simp [e])⟩
theorem stripR_stop (l : List (List UInt8)) : ∀ p q r, stripR l = p :: q :: r → p.length ≠ 1 := by
  induction l with
  | nil => intro p q r h; simp [stripR] at h
  | cons x y ih =>
    cases y with
    | nil => intro p q r h; simp [stripR] at h
    | cons z u =>
      intro p q r h
      simp only [stripR] at h
      split at h
      · exact ih p q r h
      · rename_i hx; cases h; exact hx
theorem stripR_len (l : List (List UInt8)) : (stripR l).length ≤ l.length := by
  induction l with
  | nil => simp [stripR]
  | cons x y ih =>
    cases y with
    | nil => simp [stripR]
    | cons z u =>
      simp only [stripR]
      split
      · simp at ih ⊢; omega
      · exact Nat.le_refl _
theorem stripP_len (ps : List (List UInt8)) : (stripP ps).length ≤ ps.length := by
  unfold stripP; have := stripR_len ps.reverse; simp at this ⊢; exact this
/-- The last of two pieces or more of a stripped row is not of one byte. -/
theorem stripP_last {ps : List (List UInt8)} {n : Nat} {p : List UInt8} (hn : (stripP ps).length = n + 2) (hp : (stripP ps)[n + 1]? = some p) : p.length ≠ 1 := by
  have e : stripP ps = (stripR ps.reverse).reverse := rfl
  rw [e] at hn hp
  rw [List.length_reverse] at hn
  cases hs : stripR ps.reverse with
  | nil => rw [hs] at hn; simp at hn
  | cons x y =>
    cases y with
    | nil => rw [hs] at hn; simp at hn
    | cons z u =>
      rw [hs] at hn hp
      have hx := stripR_stop _ _ _ _ hs
      have hl : (z :: u).length = n + 1 := by simp at hn ⊢; omega
      rw [List.reverse_cons, List.getElem?_append_right (by rw [List.length_reverse]; omega), List.length_reverse, hl] at hp
      simp at hp
      rw [← hp]; exact hx
theorem spl_joinP_strip (a : List UInt8) : spl (cutL a) = stripP (spl a) ∧ ∃ k, k ≤ a.length ∧ cutL a = a.take k ∧ (k < a.length → a[k]? = some 45) := by
  generalize hn : a.length = n
  induction n using Nat.strongRecOn generalizing a with
  | _ n ih =>
    rcases Classical.em (singleL a) with ⟨b, c, rfl, hc⟩ | h
    · have hc' : (45 : UInt8) ∉ [c] := by simpa using fun e => hc e.symm
      obtain ⟨h1, k, h2, h3, h4⟩ := ih b.length (by rw [← hn]; simp) b rfl
      have hs : stripP (spl (b ++ [45, c])) = stripP (spl b) := by
        rw [show b ++ [45, c] = b ++ 45 :: [c] from rfl, spl_app, spl_plain hc', stripP_snoc (spl_ne b), if_pos (show [c].length = 1 from rfl)]
      rw [cutL_single hc, hs]
      refine ⟨h1, k, by rw [← hn]; simp; omega, by rw [h3, List.take_append_of_le_length h2], fun _ => ?_⟩
      by_cases hk : k < b.length
      · rw [List.getElem?_append_left hk]; exact h4 hk
      · obtain rfl : k = b.length := by omega
        rw [List.getElem?_append_right (Nat.le_refl _)]; simp
    · have hs := strip_stop h
      refine ⟨by rw [cutL_stop h, hs], n, Nat.le_refl _, ?_, fun h => absurd h (Nat.lt_irrefl _)⟩
      rw [cutL_stop h, ← hn, List.take_length]

/-- What a trimmed text is. -/
structure Trimmed (x t : ByteArray) : Prop where
  lt : t.size < x.size
  beg : x.extract 0 t.size = t
  mark : 0 < t.size → (bs x)[t.size]? = some 45
  few : t.size = 0 ∨ (spl (bs t)).length < (spl (bs x)).length
  last : ∀ n p, (spl (bs t)).length = n + 2 → (spl (bs t))[n + 1]? = some p → p.length ≠ 1
theorem trimmed (x : ByteArray) (hx : 0 < x.size) : Trimmed x (trimS x) := by
  have hb : ∀ k, x.extract 0 (ofL ((bs x).take k)).size = ofL ((bs x).take k) := fun k => by
    apply ofL_ext
    rw [bs_ofL, size_ofL]
    have e : bs (x.extract 0 ((bs x).take k).length) = (bs x).take ((bs x).take k).length := by simp [bs, ByteArray.data_extract]
    rw [e, List.length_take]
    by_cases h : k ≤ (bs x).length
    · rw [Nat.min_eq_left h]
    · rw [Nat.min_eq_right (by omega), List.take_length, List.take_of_length_le (by omega)]
  rcases lastM_cases (bs x) with ⟨_, hn⟩ | ⟨a, p, _, hl, hp⟩
  · have e : trimS x = ofL ((bs x).take 0) := by unfold trimS; rw [trimL_none hn]; rfl
    have hz : (ofL ((bs x).take 0)).size = 0 := by rw [size_ofL]; simp
    rw [e]
    refine ⟨by omega, hb 0, fun h => by omega, .inl hz, fun n q h1 h2 => ?_⟩
    rw [bs_ofL] at h1
    simp [spl] at h1
  · obtain ⟨h1, k, h2, h3, h4⟩ := spl_joinP_strip a
    have hlen : (bs x).length = a.length + 1 + p.length := by rw [hl]; simp; omega
    have hk : (bs x).take k = a.take k := by rw [hl, List.take_append_of_le_length h2]
    have e : trimS x = ofL ((bs x).take k) := by unfold trimS; rw [hk, ← h3]; congr 1; conv => lhs; rw [hl, trimL_some hp]
    have hz : (ofL ((bs x).take k)).size = k := by rw [size_ofL, List.length_take]; omega
    have hs : spl (bs (trimS x)) = stripP (spl a) := by rw [e, bs_ofL, hk, ← h3, h1]
    have hsx : (spl (bs x)).length = (spl a).length + 1 := by rw [hl, spl_app, spl_plain hp]; simp
    refine ⟨by rw [e, hz, ← size_bs, hlen]; omega, by rw [e]; exact hb k, fun _ => ?_, .inr ?_, fun n q g1 g2 => ?_⟩
    · rw [e, hz, hl]
      by_cases hka : k < a.length
      · rw [List.getElem?_append_left hka]; exact h4 hka
      · obtain rfl : k = a.length := by omega
        rw [List.getElem?_append_right (Nat.le_refl _)]; simp
    · rw [hs, hsx]; have := stripP_len (spl a); omega
    · rw [hs] at g1 g2; exact stripP_last g1 g2
end Go.Proofs.YtjajlfcmmgdfcaaDoor
