/-
  Package render, in plain words: as much of a text as fits.
-/
import Derived.Test.YtggfdmhfcpabdaaQMath
namespace Go.Proofs.Ytggfdmhfcpabdaa
open Go Go.RowKit

def endF (e : Nat) (l : List (Nat × ByteArray)) : Nat := l.foldl (fun e x => if x.1 = 0 ∨ x.2.size ≠ 1 then x.1 + x.2.size else e) e
theorem endF_snoc (l : List (Nat × ByteArray)) (x : Nat × ByteArray) : endF 0 (l ++ [x]) = if x.1 = 0 ∨ x.2.size ≠ 1 then x.1 + x.2.size else endF 0 l := by simp [endF]
def fitsP (n : Int) (x : Nat × ByteArray) : Bool := decide ((x.1 : Int) + (x.2.size : Int) ≤ n)
def shortE (s : ByteArray) (n : Int) : Nat := endF 0 ((pieces s).takeWhile (fitsP n))
def shortS (s : ByteArray) (n : Int) : ByteArray := s.extract 0 (shortE s n)
/-- How many fit, and how many of them stay. -/
def fitK (l : List ByteArray) (n : Int) : Nat → Nat → Nat
  | 0, k => k
  | f + 1, k => if k < l.length ∧ ((joinS (l.take (k + 1))).size : Int) ≤ n then fitK l n f (k + 1) else k
def backK (l : List ByteArray) : Nat → Nat
  | 0 => 0
  | 1 => 1
  | k + 2 => if (l[k + 1]?.map ByteArray.size) = some 1 then backK l (k + 1) else k + 2
def shortR (l : List ByteArray) (n : Int) : ByteArray := caseS (joinS (l.take (backK l (fitK l n l.length 0))))

theorem takeWhile_all {α : Type} {p : α → Bool} {l : List α} (h : ∀ x ∈ l, p x = true) : l.takeWhile p = l := by
  induction l with
  | nil => rfl
  | cons x r ih => rw [List.takeWhile_cons, if_pos (h x (by simp)), ih (fun y hy => h y (List.mem_cons_of_mem _ hy))]
theorem takeWhile_stop {α : Type} {p : α → Bool} {a : List α} {x : α} {b : List α} (h : ∀ y ∈ a, p y = true) (hx : p x = false) : (a ++ x :: b).takeWhile p = a := by
  induction a with
  | nil => simp [hx]
  | cons y r ih => rw [List.cons_append, List.takeWhile_cons, if_pos (h y (by simp)), ih (fun z hz => h z (List.mem_cons_of_mem _ hz))]

theorem joinS_nil : joinS [] = ByteArray.empty := rfl
theorem joinS_take_succ {l : List ByteArray} {k : Nat} {p : ByteArray} (h : l[k]? = some p) (h0 : 0 < k) : joinS (l.take (k + 1)) = joinS (l.take k) ++ ⟨#[45]⟩ ++ p := by
  obtain ⟨hk, rfl⟩ := List.getElem?_eq_some_iff.1 h
  rw [List.take_succ_eq_append_getElem hk]
  exact joinS_snoc _ (by rw [ne_eq, List.take_eq_nil_iff]; rintro (h | h); omega; subst h; simp at hk) _
/-- Where the pieces stand. -/
theorem placed_get : ∀ (ps : List (List UInt8)) (a k : Nat) (x : Nat × ByteArray), (placed a ps)[k]? = some x → x.1 + x.2.size = a + (joinP (ps.take (k + 1))).length ∧ (k = 0 → x.1 = a) ∧ (0 < k → a < x.1)
  | [], a, k, x, h => by simp [placed] at h
  | p :: r, a, 0, x, h => by
    simp [placed] at h
    subst h
    simp [joinP_one, size_ofL]
  | p :: r, a, k + 1, x, h => by
    simp only [placed, List.getElem?_cons_succ] at h
    obtain ⟨h1, h2, h3⟩ := placed_get r _ k x h
    have hr : r ≠ [] := by rintro rfl; simp [placed] at h
    refine ⟨?_, fun h => by omega, fun _ => ?_⟩
    · rw [h1, List.take_succ_cons, joinP_cons _ (by rw [ne_eq, List.take_eq_nil_iff]; rintro (h | h); omega; exact hr h)]
      simp
      omega
    · rcases Nat.eq_zero_or_pos k with hk | hk
      · have := h2 hk; omega
      · have := h3 hk; omega
theorem pieces_get {s : ByteArray} {k : Nat} {x : Nat × ByteArray} (h : (pieces s)[k]? = some x) : x.1 + x.2.size = (joinS ((splS s).take (k + 1))).size ∧ (k = 0 → x.1 = 0) ∧ (0 < k → 0 < x.1) ∧ (splS s)[k]? = some x.2 := by
  obtain ⟨h1, h2, h3⟩ := placed_get _ _ _ _ h
  refine ⟨?_, h2, h3, ?_⟩
  · rw [h1]
    unfold joinS splS
    rw [size_ofL, ← List.map_take, map_bs_ofL]
    omega
  · rw [← pieces_map, List.getElem?_map, h]; rfl
/-- What is left at the end of the first k pieces. -/
theorem endF_take (s : ByteArray) : ∀ k, k ≤ (splS s).length → endF 0 ((pieces s).take k) = (joinS ((splS s).take (backK (splS s) k))).size := by
  intro k
  induction k with
  | zero => intro _; rfl
  | succ k ih =>
    intro hk
    have hl : k < (pieces s).length := by rw [pieces_length]; omega
    rw [List.take_succ_eq_append_getElem hl, endF_snoc]
    obtain ⟨h1, h2, h3, h4⟩ := pieces_get (List.getElem?_eq_getElem hl)
    generalize (pieces s)[k] = x at *
    rcases Nat.eq_zero_or_pos k with hk0 | hk0
    · subst hk0
      rw [if_pos (.inl (h2 rfl)), h1]; rfl
    · obtain ⟨j, rfl⟩ : ∃ j, k = j + 1 := ⟨k - 1, by omega⟩
      have hx := h3 hk0
      show _ = (joinS ((splS s).take (if ((splS s)[j + 1]?.map ByteArray.size) = some 1 then backK (splS s) (j + 1) else j + 2))).size
      rw [h4]
      by_cases h5 : x.2.size = 1
      · rw [if_neg (by rintro (h | h); omega; exact h h5), if_pos (by simp [h5]), ih (by omega)]
      · rw [if_pos (.inr h5), if_neg (by simpa using h5), h1]
theorem fitK_spec (l : List ByteArray) (n : Int) : ∀ (f k : Nat), l.length ≤ k + f → k ≤ l.length → (∀ j, j < k → ((joinS (l.take (j + 1))).size : Int) ≤ n) →
    fitK l n f k ≤ l.length ∧ (∀ j, j < fitK l n f k → ((joinS (l.take (j + 1))).size : Int) ≤ n) ∧ (fitK l n f k < l.length → ¬ ((joinS (l.take (fitK l n f k + 1))).size : Int) ≤ n) := by
  intro f
  induction f with
  | zero => intro k h1 h2 h3; exact ⟨h2, h3, fun h => by simp only [fitK] at h; omega⟩
  | succ f ih =>
    intro k h1 h2 h3
    simp only [fitK]
    by_cases hc : k < l.length ∧ ((joinS (l.take (k + 1))).size : Int) ≤ n
    · rw [if_pos hc]
      exact ih (k + 1) (by omega) (by omega) (fun j hj => by
        rcases Nat.lt_or_ge j k with h | h
        · exact h3 j h
        · obtain rfl : j = k := by omega
          exact hc.2)
    · rw [if_neg hc]
      exact ⟨h2, h3, fun h hn => hc ⟨h, hn⟩⟩
/-- The pieces that fit. -/
theorem fits_take (s : ByteArray) (n : Int) : (pieces s).takeWhile (fitsP n) = (pieces s).take (fitK (splS s) n (splS s).length 0) := by
  obtain ⟨h1, h2, h3⟩ := fitK_spec (splS s) n (splS s).length 0 (by omega) (by omega) (fun j hj => by omega)
  generalize fitK (splS s) n (splS s).length 0 = m at *
  have hall : ∀ y ∈ (pieces s).take m, fitsP n y = true := by
    intro y hy
    obtain ⟨j, hj, rfl⟩ := List.getElem_of_mem hy
    rw [List.length_take] at hj
    obtain ⟨e, _⟩ := pieces_get (List.getElem?_eq_getElem (show j < (pieces s).length by omega))
    have := h2 j (by omega)
    unfold fitsP
    rw [List.getElem_take, decide_eq_true_iff]
    omega
  by_cases hm : m < (pieces s).length
  · obtain ⟨e, _⟩ := pieces_get (List.getElem?_eq_getElem hm)
    have := h3 (by rw [← pieces_length]; exact hm)
    conv => lhs; rw [← List.take_append_drop m (pieces s), List.drop_eq_getElem_cons hm]
    refine takeWhile_stop hall ?_
    unfold fitsP
    rw [decide_eq_false_iff_not]
    omega
  · rw [List.take_of_length_le (by omega)] at hall ⊢
    exact takeWhile_all hall
theorem shortE_eq (s : ByteArray) (n : Int) : shortE s n = (joinS ((splS s).take (backK (splS s) (fitK (splS s) n (splS s).length 0)))).size := by
  unfold shortE
  rw [fits_take]
  exact endF_take s _ (fitK_spec (splS s) n (splS s).length 0 (by omega) (by omega) (fun j hj => by omega)).1
theorem backK_le (l : List ByteArray) : ∀ k, backK l k ≤ k
  | 0 => Nat.le_refl _
  | 1 => Nat.le_refl _
  | k + 2 => by
    unfold backK
    split
    · have := backK_le l (k + 1); omega
    · exact Nat.le_refl _
theorem backK_pos (l : List ByteArray) : ∀ k, 0 < k → 0 < backK l k
  | 0, h => h
  | 1, h => h
  | k + 2, _ => by
    unfold backK
    split
    · exact backK_pos l (k + 1) (by omega)
    · omega
theorem joinP_prefix : ∀ (ps : List (List UInt8)) (k : Nat), (joinP ps).take (joinP (ps.take k)).length = joinP (ps.take k)
  | [], k => by simp [joinP_nil]
  | p :: r, 0 => by simp [joinP_nil]
  | [p], k + 1 => by simp [joinP_one]
  | p :: q :: r, 1 => by
    rw [List.take_succ_cons, List.take_zero, joinP_one, joinP_cons _ (by simp), List.take_left' rfl]
  | p :: q :: r, k + 2 => by
    have ih := joinP_prefix (q :: r) (k + 1)
    rw [List.take_succ_cons, List.take_succ_cons, joinP_cons p (ps := q :: List.take k r) (by simp), joinP_cons p (ps := q :: r) (by simp)]
    rw [List.take_succ_cons] at ih
    rw [List.length_append, List.length_cons, List.take_append, List.take_of_length_le (by omega)]
    rw [show p.length + ((joinP (q :: List.take k r)).length + 1) - p.length = (joinP (q :: List.take k r)).length + 1 by omega, List.take_succ_cons, ih]
theorem joinS_prefix (l : List ByteArray) (k : Nat) : (joinS l).extract 0 (joinS (l.take k)).size = joinS (l.take k) := by
  apply ofL_ext
  rw [bs_extract, List.drop_zero, Nat.sub_zero]
  unfold joinS
  rw [bs_ofL, bs_ofL, size_ofL, List.map_take]
  exact joinP_prefix _ _
theorem caseT_take (l : List ByteArray) (k : Nat) : (caseT l).take k = caseT (l.take k) := by
  have h : l = l.take k ++ l.drop k := (List.take_append_drop k l).symm
  conv => lhs; rw [h]
  unfold caseT
  rw [caseL_append]
  by_cases hk : k ≤ l.length
  · rw [List.take_left' (by rw [caseL_length, List.length_take]; omega)]
  · have hd : l.drop k = [] := List.drop_eq_nil_of_le (by omega)
    rw [hd]
    simp only [caseL, List.append_nil]
    rw [List.take_of_length_le (by rw [caseL_length, List.length_take]; omega)]
theorem fitK_size (a b : List ByteArray) (h : a.map ByteArray.size = b.map ByteArray.size) (n : Int) : ∀ f k, fitK a n f k = fitK b n f k := by
  have hl : a.length = b.length := by have := congrArg List.length h; simpa using this
  intro f
  induction f with
  | zero => intro k; rfl
  | succ f ih =>
    intro k
    have := joinS_size_eq (a.take (k + 1)) (b.take (k + 1)) (by rw [List.map_take, List.map_take, h])
    simp only [fitK, hl, this, ih]
theorem backK_size (a b : List ByteArray) (h : a.map ByteArray.size = b.map ByteArray.size) : ∀ k, backK a k = backK b k
  | 0 => rfl
  | 1 => rfl
  | k + 2 => by
    have := congrArg (fun l => l[k + 1]?) h
    simp only [List.getElem?_map] at this
    simp only [backK, this, backK_size a b h (k + 1)]
/-- As much of a tag's text as fits: of its subtags, those that fit. -/
theorem short_text {l : List ByteArray} (h : ∀ p ∈ l, (45 : UInt8) ∉ bs p) (n : Int) : shortS (caseS (joinS l)) n = shortR l n := by
  by_cases h0 : l = []
  · subst h0
    have e1 : shortR [] n = ByteArray.empty := by show caseS (joinS []) = _; decide +kernel
    have e2 : caseS (joinS []) = ByteArray.empty := by decide +kernel
    rw [e1, e2]
    unfold shortS
    apply ofL_ext
    rw [bs_extract]
    simp [bs]
  · have hs : splS (caseS (joinS l)) = caseT l := by rw [splS_case, splS_joinS h0 h]
    unfold shortS
    rw [shortE_eq, hs]
    have hz : (caseT l).map ByteArray.size = l.map ByteArray.size := size_caseL _ _ _
    rw [fitK_size _ _ hz, backK_size _ _ hz, caseT_length]
    have e : caseS (joinS l) = joinS (caseT l) := by unfold caseS; rw [splS_joinS h0 h]
    rw [e, joinS_prefix, caseT_take]
    unfold shortR
    by_cases hk : l.take (backK l (fitK l n l.length 0)) = []
    · rw [hk]; decide +kernel
    · unfold caseS
      rw [splS_joinS hk (fun p hp => h p (List.mem_of_mem_take hp))]
end Go.Proofs.Ytggfdmhfcpabdaa
