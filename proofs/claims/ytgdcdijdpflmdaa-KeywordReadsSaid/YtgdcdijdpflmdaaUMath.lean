/-
  Keywords as lists: read, written, ordered, asked, set.
-/
import Derived.Test.YtgdcdijdpflmdaaBMath
namespace Go.Proofs.Ytgdcdijdpflmdaa
open Go

def ltS (x y : ByteArray) : Bool := decide (bs x < bs y)
theorem ltS_irrefl (x : ByteArray) : ltS x x = false := by simp [ltS, List.lt_irrefl]
theorem ltS_trans {x y z : ByteArray} (h1 : ltS x y = true) (h2 : ltS y z = true) : ltS x z = true := by
  simp [ltS] at *; exact List.lt_trans h1 h2
theorem ltS_tri {x y : ByteArray} (h1 : ltS x y = false) (h2 : ltS y x = false) : x = y := by
  simp [ltS] at *; exact ofL_ext (List.le_antisymm h2 h1)
theorem ltS_asymm {x y : ByteArray} (h1 : ltS x y = true) : ltS y x = false := by
  cases h : ltS y x with
  | false => rfl
  | true => have := ltS_trans h1 h; rw [ltS_irrefl] at this; cases this
theorem ltS_ntrans {x y z : ByteArray} (h1 : ltS x y = false) (h2 : ltS y z = false) : ltS x z = false := by
  cases h : ltS x z with
  | false => rfl
  | true =>
    cases h3 : ltS y x with
    | true => rw [ltS_trans h3 h] at h2; cases h2
    | false => rw [← ltS_tri h1 h3, h] at h2; cases h2

/-! Read, written. -/
def isK (s : ByteArray) : Bool := decide (s.size = 2)
abbrev KX := List (ByteArray × List ByteArray)
def readR : List ByteArray → List ByteArray × KX
  | [] => ([], [])
  | s :: l => if isK s = true then ([], (s, (readR l).1) :: (readR l).2) else (s :: (readR l).1, (readR l).2)
def writeX (K : KX) : List ByteArray := K.flatMap fun x => x.1 :: x.2
def writeK (k : List ByteArray × KX) : List ByteArray := k.1 ++ writeX k.2
theorem write_read (l : List ByteArray) : writeK (readR l) = l := by
  induction l with
  | nil => rfl
  | cons s l ih =>
    unfold readR
    unfold writeK at *
    split
    · simp only [writeX, List.nil_append, List.flatMap_cons] at *
      rw [List.cons_append, ih]
    · simp only [List.cons_append, ih]
theorem readR_app (a b : List ByteArray) (hb : (readR b).1 = []) : readR (a ++ b) = ((readR a).1, (readR a).2 ++ (readR b).2) := by
  induction a with
  | nil =>
    show readR b = ([], (readR b).2)
    rw [← hb]
  | cons s a ih =>
    rw [List.cons_append, readR, ih, readR]
    split <;> rfl
theorem readR_key {k : ByteArray} (l : List ByteArray) (hk : isK k = true) : readR (k :: l) = ([], (k, (readR l).1) :: (readR l).2) := by
  rw [readR, if_pos hk]
/-- How many stand ahead of the first key. -/
def untilN : List ByteArray → Nat
  | [] => 0
  | s :: l => if isK s = true then 0 else untilN l + 1
theorem untilN_le (l : List ByteArray) : untilN l ≤ l.length := by
  induction l with
  | nil => simp [untilN]
  | cons s l ih => unfold untilN; split <;> simp; omega
theorem readR_until (l : List ByteArray) : readR l = (l.take (untilN l), (readR (l.drop (untilN l))).2) ∧ (readR (l.drop (untilN l))).1 = [] := by
  induction l with
  | nil => simp [untilN, readR]
  | cons s l ih =>
    unfold untilN
    by_cases h : isK s = true
    · rw [if_pos h]
      simp [readR, h]
    · rw [if_neg h]
      obtain ⟨h1, h2⟩ := ih
      refine ⟨?_, by simpa using h2⟩
      rw [readR, if_neg h, h1]
      simp
theorem untilN_at (l : List ByteArray) : (∀ i x, i < untilN l → l[i]? = some x → isK x = false) ∧ (∀ x, l[untilN l]? = some x → isK x = true) := by
  induction l with
  | nil => simp [untilN]
  | cons s l ih =>
    unfold untilN
    by_cases h : isK s = true
    · rw [if_pos h]
      exact ⟨fun i x hi => by omega, fun x hx => by simp at hx; rw [← hx]; exact h⟩
    · rw [if_neg h]
      refine ⟨fun i x hi hx => ?_, fun x hx => ?_⟩
      · cases i with
        | zero => simp at hx; rw [← hx]; simpa using h
        | succ i => exact ih.1 i x (by omega) (by simpa using hx)
      · exact ih.2 x (by simpa using hx)
theorem untilN_of {l : List ByteArray} {k : Nat} (hk : k ≤ l.length) (h1 : ∀ i x, i < k → l[i]? = some x → isK x = false) (h2 : ∀ x, l[k]? = some x → isK x = true) : untilN l = k := by
  induction l generalizing k with
  | nil => simp at hk; simp [untilN, hk]
  | cons s l ih =>
    unfold untilN
    cases k with
    | zero => rw [if_pos (h2 s (by simp))]
    | succ k =>
      have := h1 0 s (by omega) (by simp)
      rw [if_neg (by simp [this]), ih (k := k) (by simp at hk; omega) (fun i x hi hx => h1 (i + 1) x (by omega) (by simpa using hx)) (fun x hx => h2 x (by simpa using hx))]
/-- The last key's value, one more. -/
def addLast (s : ByteArray) : KX → KX
  | [] => []
  | [x] => [(x.1, x.2 ++ [s])]
  | x :: y :: r => x :: addLast s (y :: r)
def stepR (k : List ByteArray × KX) (s : ByteArray) : List ByteArray × KX :=
  if isK s = true then (k.1, k.2 ++ [(s, [])]) else if k.2 = [] then (k.1 ++ [s], k.2) else (k.1, addLast s k.2)
theorem addLast_snoc (s : ByteArray) (K : KX) (x : ByteArray × List ByteArray) : addLast s (K ++ [x]) = K ++ [(x.1, x.2 ++ [s])] := by
  induction K with
  | nil => rfl
  | cons y K ih =>
    cases K with
    | nil => rfl
    | cons z K =>
      rw [List.cons_append, List.cons_append, List.cons_append] at *
      rw [addLast, ih]
      rfl
theorem addLast_cons (s : ByteArray) (K : KX) (x : ByteArray × List ByteArray) (h : K ≠ []) : addLast s (x :: K) = x :: addLast s K := by
  cases K with
  | nil => exact absurd rfl h
  | cons y r => rfl
theorem readR_snoc (l : List ByteArray) (s : ByteArray) : readR (l ++ [s]) = stepR (readR l) s := by
  induction l with
  | nil =>
    unfold stepR
    by_cases h : isK s = true <;> simp [readR, h]
  | cons a l ih =>
    rw [List.cons_append, readR, ih]
    rw [readR]
    unfold stepR
    by_cases ha : isK a = true
    · rw [if_pos ha]
      by_cases h : isK s = true
      · simp [h, ha]
      · by_cases h0 : (readR l).2 = []
        · simp [h, ha, h0, addLast]
        · simp [h, ha, h0, addLast_cons]
    · rw [if_neg ha]
      by_cases h : isK s = true
      · simp [h, ha]
      · by_cases h0 : (readR l).2 = []
        · simp [h, ha, h0]
        · simp [h, ha, h0]

/-! In order. -/
section
variable {α : Type} (f : α → ByteArray)
def insBy (x : α) : List α → List α
  | [] => [x]
  | y :: r => if ltS (f y) (f x) = true then y :: insBy x r else if f y = f x then y :: r else x :: y :: r
def riseBy (l : List α) : List α := l.foldl (fun acc x => insBy f x acc) []
def ddBy (l : List α) : List α := l.foldl (fun acc x => if acc.any (fun y => decide (f y = f x)) then acc else acc ++ [x]) []
def Rising (l : List α) : Prop := l.Pairwise fun a b => ltS (f a) (f b) = true
theorem riseBy_snoc (l : List α) (x : α) : riseBy f (l ++ [x]) = insBy f x (riseBy f l) := by simp [riseBy]
theorem ddBy_snoc (l : List α) (x : α) : ddBy f (l ++ [x]) = if (ddBy f l).any (fun y => decide (f y = f x)) then ddBy f l else ddBy f l ++ [x] := by simp [ddBy]
theorem insBy_mem (x : α) (l : List α) {z : α} (h : z ∈ insBy f x l) : z = x ∨ z ∈ l := by
  induction l with
  | nil => simp [insBy] at h; exact .inl h
  | cons y r ih =>
    unfold insBy at h
    split at h
    · rcases List.mem_cons.1 h with h | h
      · exact .inr (h ▸ List.mem_cons_self)
      · rcases ih h with h | h
        · exact .inl h
        · exact .inr (List.mem_cons_of_mem _ h)
    · split at h
      · exact .inr h
      · rcases List.mem_cons.1 h with h | h
        · exact .inl h
        · exact .inr h
theorem insBy_rising {l : List α} (x : α) (h : Rising f l) : Rising f (insBy f x l) := by
  induction l with
  | nil => simp [insBy, Rising]
  | cons y r ih =>
    obtain ⟨h1, h2⟩ := List.pairwise_cons.1 h
    unfold insBy
    split
    · rename_i hy
      refine List.pairwise_cons.2 ⟨fun z hz => ?_, ih h2⟩
      rcases insBy_mem f x r hz with rfl | hz
      · exact hy
      · exact h1 z hz
    · split
      · exact h
      · rename_i hy hne
        have hxy : ltS (f x) (f y) = true := by
          cases hh : ltS (f x) (f y) with
          | true => rfl
          | false => exact absurd (ltS_tri (by simpa using hy) hh) hne
        refine List.pairwise_cons.2 ⟨fun z hz => ?_, h⟩
        rcases List.mem_cons.1 hz with rfl | hz
        · exact hxy
        · exact ltS_trans hxy (h1 z hz)
theorem riseBy_rising (l : List α) : Rising f (riseBy f l) := by
  have : ∀ (l acc : List α), Rising f acc → Rising f (l.foldl (fun acc x => insBy f x acc) acc) := by
    intro l
    induction l with
    | nil => exact fun _ h => h
    | cons x l ih => exact fun acc h => ih _ (insBy_rising f x h)
  exact this l [] List.Pairwise.nil
theorem insBy_perm {l : List α} (x : α) (h : Rising f l) : (insBy f x l).Perm (if l.any (fun y => decide (f y = f x)) then l else x :: l) := by
  induction l with
  | nil => simp [insBy]
  | cons y r ih =>
    obtain ⟨h1, h2⟩ := List.pairwise_cons.1 h
    unfold insBy
    by_cases hy : ltS (f y) (f x) = true
    · rw [if_pos hy]
      have hne : f y ≠ f x := fun e => by rw [e, ltS_irrefl] at hy; cases hy
      have := ih h2
      by_cases hr : r.any (fun y => decide (f y = f x)) = true
      · rw [if_pos hr] at this
        rw [if_pos (by rw [List.any_cons, hr, Bool.or_true])]
        exact this.cons y
      · rw [if_neg hr] at this
        rw [if_neg (by rw [List.any_cons]; simp [hne]; simpa using hr)]
        exact (this.cons y).trans (List.Perm.swap x y r)
    · rw [if_neg hy]
      by_cases he : f y = f x
      · rw [if_pos he, if_pos (by simp [he])]
      · rw [if_neg he]
        have hxy : ltS (f x) (f y) = true := by
          cases hh : ltS (f x) (f y) with
          | true => rfl
          | false => exact absurd (ltS_tri (by simpa using hy) hh) he
        rw [if_neg]
        rw [List.any_cons]
        simp [he]
        intro z hz e
        have := ltS_trans hxy (h1 z hz)
        rw [e, ltS_irrefl] at this
        cases this
theorem any_perm {l l' : List α} (h : l.Perm l') (p : α → Bool) : l.any p = l'.any p := by
  rw [Bool.eq_iff_iff, List.any_eq_true, List.any_eq_true]
  exact ⟨fun ⟨x, hx, hp⟩ => ⟨x, h.subset hx, hp⟩, fun ⟨x, hx, hp⟩ => ⟨x, h.symm.subset hx, hp⟩⟩
theorem rise_perm_dd (l : List α) : (riseBy f l).Perm (ddBy f l) := by
  have : ∀ (l a b : List α), Rising f a → a.Perm b → (l.foldl (fun acc x => insBy f x acc) a).Perm (l.foldl (fun acc x => if acc.any (fun y => decide (f y = f x)) then acc else acc ++ [x]) b) := by
    intro l
    induction l with
    | nil => exact fun _ _ _ h => h
    | cons x l ih =>
      intro a b ha hab
      refine ih _ _ (insBy_rising f x ha) ?_
      refine (insBy_perm f x ha).trans ?_
      show List.Perm _ (if b.any (fun y => decide (f y = f x)) = true then b else b ++ [x])
      rw [any_perm hab]
      split
      · exact hab
      · exact (hab.cons x).trans (List.perm_append_comm (l₁ := [x]) (l₂ := b))
  exact this l [] [] List.Pairwise.nil (List.Perm.refl _)
theorem rising_unique {a b : List α} (ha : Rising f a) (hb : Rising f b) (h : a.Perm b) : a = b :=
  h.eq_of_pairwise (le := fun x y => ltS (f x) (f y) = true) (fun x y _ _ h1 h2 => by have := ltS_asymm h1; rw [h2] at this; cases this) ha hb
/-- What is sorted of the first of each name is what is told. -/
theorem sorted_rise {l d : List α} (hp : d.Perm (ddBy f l)) (hs : d.Pairwise fun a b => ltS (f b) (f a) = false) : d = riseBy f l := by
  have hp2 := hp.trans (rise_perm_dd f l).symm
  have hd : d.Pairwise fun a b => f a ≠ f b := by
    refine (hp2.symm.pairwise ((riseBy_rising f l).imp fun {a b} h e => ?_) fun {x y} h e => h e.symm)
    rw [e, ltS_irrefl] at h; cases h
  refine rising_unique f ?_ (riseBy_rising f l) hp2
  refine (hs.and hd).imp fun {a b} h => ?_
  cases hh : ltS (f a) (f b) with
  | true => rfl
  | false => exact absurd (ltS_tri hh h.1) h.2
theorem insBy_end {l : List α} {x : α} (h : ∀ y ∈ l, ltS (f y) (f x) = true) : insBy f x l = l ++ [x] := by
  induction l with
  | nil => rfl
  | cons y r ih => rw [insBy, if_pos (h y List.mem_cons_self), ih (fun z hz => h z (List.mem_cons_of_mem _ hz))]; rfl
theorem rise_of_rising {l : List α} (h : Rising f l) : riseBy f l = l := by
  have : ∀ (l acc : List α), Rising f (acc ++ l) → l.foldl (fun acc x => insBy f x acc) acc = acc ++ l := by
    intro l
    induction l with
    | nil => simp
    | cons x l ih =>
      intro acc h
      rw [List.foldl_cons, insBy_end f (fun y hy => (List.pairwise_append.1 h).2.2 y hy x List.mem_cons_self), ih _ (by simpa using h)]
      simp
  simpa [riseBy] using this l [] (by simpa using h)
theorem rise_sub {l : List α} {x : α} (h : x ∈ riseBy f l) : x ∈ l := by
  have : ∀ (l acc : List α), x ∈ l.foldl (fun acc x => insBy f x acc) acc → x ∈ acc ∨ x ∈ l := by
    intro l
    induction l with
    | nil => exact fun _ h => .inl h
    | cons y l ih =>
      intro acc h
      rcases ih _ h with h | h
      · rcases insBy_mem f y acc h with rfl | h
        · exact .inr List.mem_cons_self
        · exact .inl h
      · exact .inr (List.mem_cons_of_mem _ h)
  rcases this l [] h with h | h
  · cases h
  · exact h
theorem insBy_has (x : α) (l : List α) : ∃ y ∈ insBy f x l, f y = f x := by
  induction l with
  | nil => exact ⟨x, by simp [insBy], rfl⟩
  | cons y r ih =>
    unfold insBy
    split
    · obtain ⟨z, hz, e⟩ := ih
      exact ⟨z, List.mem_cons_of_mem _ hz, e⟩
    · split
      · rename_i h; exact ⟨y, List.mem_cons_self, h⟩
      · exact ⟨x, List.mem_cons_self, rfl⟩
theorem insBy_keeps (x : α) (l : List α) {y : α} (h : y ∈ l) : y ∈ insBy f x l := by
  induction l with
  | nil => cases h
  | cons z r ih =>
    unfold insBy
    rcases List.mem_cons.1 h with rfl | h
    · split
      · exact List.mem_cons_self
      · split
        · exact List.mem_cons_self
        · exact List.mem_cons_of_mem _ List.mem_cons_self
    · split
      · exact List.mem_cons_of_mem _ (ih h)
      · split
        · exact List.mem_cons_of_mem _ h
        · exact List.mem_cons_of_mem _ (List.mem_cons_of_mem _ h)
theorem rise_has {l : List α} {x : α} (h : x ∈ l) : ∃ y ∈ riseBy f l, f y = f x := by
  have keep : ∀ (l acc : List α) (y : α), y ∈ acc → y ∈ l.foldl (fun acc x => insBy f x acc) acc := by
    intro l
    induction l with
    | nil => exact fun _ _ h => h
    | cons z l ih => exact fun acc y h => ih _ y (insBy_keeps f z acc h)
  have : ∀ (l acc : List α), x ∈ l → ∃ y ∈ l.foldl (fun acc x => insBy f x acc) acc, f y = f x := by
    intro l
    induction l with
    | nil => exact fun _ h => nomatch h
    | cons z l ih =>
      intro acc h
      rcases List.mem_cons.1 h with rfl | h
      · obtain ⟨y, hy, e⟩ := insBy_has f x acc
        exact ⟨y, keep l _ y hy, e⟩
      · exact ih _ h
  exact this l [] h
theorem insBy_len (x : α) (l : List α) : (insBy f x l).length ≤ l.length + 1 := by
  induction l with
  | nil => simp [insBy]
  | cons y r ih => unfold insBy; split <;> (try split) <;> simp <;> omega
theorem rise_len (l : List α) : (riseBy f l).length ≤ l.length := by
  have : ∀ (l acc : List α), (l.foldl (fun acc x => insBy f x acc) acc).length ≤ acc.length + l.length := by
    intro l
    induction l with
    | nil => simp
    | cons z l ih => intro acc; have := ih (insBy f z acc); have := insBy_len f z acc; simp only [List.foldl_cons, List.length_cons]; omega
  simpa [riseBy] using this l []
end
/-- What a key's value tells. -/
def tru : ByteArray := ⟨#[116, 114, 117, 101]⟩
def toldL (l : List ByteArray) : List ByteArray := if l = [tru] then [] else l
def toldX (x : ByteArray × List ByteArray) : ByteArray × List ByteArray := (x.1, toldL x.2)
def orderK (k : List ByteArray × KX) : List ByteArray × KX := (riseBy id k.1, (riseBy (·.1) k.2).map toldX)
theorem told_told (l : List ByteArray) : toldL (toldL l) = toldL l := by unfold toldL; split <;> simp_all
theorem rising_told {K : KX} (h : Rising (·.1) K) : Rising (·.1) (K.map toldX) := by
  unfold Rising at *
  rw [List.pairwise_map]
  exact h
theorem order_order (k : List ByteArray × KX) : orderK (orderK k) = orderK k := by
  unfold orderK
  have h1 := riseBy_rising id k.1
  have h2 := rising_told (riseBy_rising (fun (x : ByteArray × List ByteArray) => x.1) k.2)
  simp only
  rw [rise_of_rising id h1, rise_of_rising _ h2, List.map_map]
  congr 1
  refine List.map_congr_left fun x _ => ?_
  simp [toldX, told_told]
/-! Asked, set. -/
def placeN : KX → ByteArray → Nat
  | [], _ => 0
  | x :: r, k => if x.1 = k then 0 else placeN r k + 1
def setX (k : ByteArray) (v : List ByteArray) : KX → KX
  | [] => [(k, v)]
  | x :: r => if x.1 = k then (x.1, v) :: r else x :: setX k v r
theorem placeN_le (K : KX) (k : ByteArray) : placeN K k ≤ K.length := by
  induction K with
  | nil => simp [placeN]
  | cons x r ih => unfold placeN; split <;> simp; omega
theorem placeN_at (K : KX) (k : ByteArray) : (∀ i x, i < placeN K k → K[i]? = some x → x.1 ≠ k) ∧ (∀ x, K[placeN K k]? = some x → x.1 = k) := by
  induction K with
  | nil => simp [placeN]
  | cons s l ih =>
    unfold placeN
    by_cases h : s.1 = k
    · rw [if_pos h]
      exact ⟨fun i x hi => by omega, fun x hx => by simp at hx; rw [← hx]; exact h⟩
    · rw [if_neg h]
      refine ⟨fun i x hi hx => ?_, fun x hx => ?_⟩
      · cases i with
        | zero => simp at hx; rw [← hx]; exact h
        | succ i => exact ih.1 i x (by omega) (by simpa using hx)
      · exact ih.2 x (by simpa using hx)
theorem placeN_of {K : KX} {k : ByteArray} {n : Nat} (hn : n ≤ K.length) (h1 : ∀ i x, i < n → K[i]? = some x → x.1 ≠ k) (h2 : ∀ x, K[n]? = some x → x.1 = k) : placeN K k = n := by
  induction K generalizing n with
  | nil => simp at hn; simp [placeN, hn]
  | cons s l ih =>
    unfold placeN
    cases n with
    | zero => rw [if_pos (h2 s (by simp))]
    | succ n =>
      rw [if_neg (h1 0 s (by omega) (by simp)), ih (n := n) (by simp at hn; omega) (fun i x hi hx => h1 (i + 1) x (by omega) (by simpa using hx)) (fun x hx => h2 x (by simpa using hx))]
theorem setX_new {K : KX} {k : ByteArray} (v : List ByteArray) (h : placeN K k = K.length) : setX k v K = K ++ [(k, v)] := by
  induction K with
  | nil => rfl
  | cons x r ih =>
    unfold placeN at h
    unfold setX
    by_cases hx : x.1 = k
    · rw [if_pos hx] at h; simp at h
    · rw [if_neg hx] at h ⊢
      rw [ih (by simpa using h)]
      rfl
theorem setX_old {K : KX} {k : ByteArray} (v : List ByteArray) (h : placeN K k < K.length) : setX k v K = K.set (placeN K k) (k, v) := by
  induction K with
  | nil => simp [placeN] at h
  | cons x r ih =>
    unfold placeN at h ⊢
    unfold setX
    by_cases hx : x.1 = k
    · rw [if_pos hx, if_pos hx, hx]; rfl
    · rw [if_neg hx] at h
      rw [if_neg hx, if_neg hx, ih (by simpa using h)]
      rfl
theorem placeN_setX (K : KX) (k : ByteArray) (v : List ByteArray) : (setX k v K)[placeN (setX k v K) k]? = some (k, v) := by
  induction K with
  | nil => simp [setX, placeN]
  | cons x r ih =>
    unfold setX
    by_cases hx : x.1 = k
    · rw [if_pos hx]
      simp [placeN, hx]
    · rw [if_neg hx]
      simp only [placeN, if_neg hx]
      simpa using ih
def setK (k : List ByteArray × KX) (key : ByteArray) (v : List ByteArray) : List ByteArray × KX := if isK key = true then (k.1, setX (lowS key) (v.map lowS) k.2) else k
/-- What a key's place is, or -1. -/
def placeI (K : KX) (k : ByteArray) : Int := if placeN K k < K.length then (placeN K k : Int) else -1
def readK (l : List ByteArray) : List ByteArray × KX := readR (l.map lowS)
end Go.Proofs.Ytgdcdijdpflmdaa
