/-
  Layer 11's rows as lists: a text's rows, their keys, rows in order, rows found by halves and by their beginnings, rows put in order in two ways. No program is named here.
-/
import Derived.WalkKit
namespace Go.Proofs.YtlpjdknmnomdlaaGreatDoor
open Go Go.RowKit

/-- A text's bytes. -/
def bL (s : ByteArray) : List UInt8 := s.data.toList
theorem bL_ext {x y : ByteArray} (h : bL x = bL y) : x = y := by
  cases x; cases y
  congr 1
  exact Array.toList_inj.1 h
theorem bL_len (s : ByteArray) : (bL s).length = s.size := rfl
theorem bL_extract (s : ByteArray) (a b : Nat) : bL (s.extract a b) = ((bL s).drop a).take (b - a) := by
  unfold bL; rw [ByteArray.data_extract, Array.toList_extract, List.extract_eq_take_drop]
theorem bL_mk (l : List UInt8) : bL ⟨l.toArray⟩ = l := by simp [bL]
theorem mk_bL (s : ByteArray) : (⟨(bL s).toArray⟩ : ByteArray) = s := bL_ext (bL_mk _)
/-- Byte by byte. -/
def ltW (x y : ByteArray) : Bool := decide (bL x < bL y)
theorem ltW_irrefl (x : ByteArray) : ltW x x = false := by simp [ltW, List.lt_irrefl]
theorem ltW_trans {x y z : ByteArray} (h1 : ltW x y = true) (h2 : ltW y z = true) : ltW x z = true := by
  simp [ltW] at *; exact List.lt_trans h1 h2
theorem ltW_tri {x y : ByteArray} (h1 : ltW x y = false) (h2 : ltW y x = false) : x = y := by
  simp [ltW] at *; exact bL_ext (List.le_antisymm h2 h1)
theorem ltW_asymm {x y : ByteArray} (h1 : ltW x y = true) : ltW y x = false := by
  cases h : ltW y x with
  | false => rfl
  | true => have := ltW_trans h1 h; rw [ltW_irrefl] at this; cases this
theorem ltW_ntrans {x y z : ByteArray} (h1 : ltW x y = false) (h2 : ltW y z = false) : ltW x z = false := by
  cases h : ltW x z with
  | false => rfl
  | true =>
    cases h3 : ltW y x with
    | true => rw [ltW_trans h3 h] at h2; cases h2
    | false => rw [← ltW_tri h1 h3, h] at h2; cases h2
theorem ltW_empty (x : ByteArray) : ltW x ⟨#[]⟩ = false := by simp [ltW, bL]
theorem ltW_of_empty {x : ByteArray} (h : x.size ≠ 0) : ltW ⟨#[]⟩ x = true := by
  have : bL x ≠ [] := fun e => h (by rw [← bL_len, e]; rfl)
  unfold ltW
  rw [decide_eq_true_eq]
  show bL ⟨#[]⟩ < bL x
  rw [show bL ⟨#[]⟩ = [] from rfl]
  cases hx : bL x with
  | nil => exact absurd hx this
  | cons a t => simp
theorem take_lt : ∀ (k : Nat) (a b : List UInt8), a.take k < b.take k → a < b
  | 0, a, b => by simp
  | k + 1, a, [] => by simp
  | k + 1, [], d :: t => by simp
  | k + 1, c :: s, d :: t => by
    rw [List.take_succ_cons, List.take_succ_cons, List.cons_lt_cons_iff, List.cons_lt_cons_iff]
    rintro (h | ⟨h, h'⟩)
    · exact .inl h
    · exact .inr ⟨h, take_lt k s t h'⟩

/-- A row's key. -/
def keyW (K : Nat) (r : ByteArray) : ByteArray := r.extract 0 K
theorem bL_key (K : Nat) (r : ByteArray) : bL (keyW K r) = (bL r).take K := by unfold keyW; rw [bL_extract]; simp
theorem keyW_size {K : Nat} {r : ByteArray} (h : K ≤ r.size) : (keyW K r).size = K := by
  rw [← bL_len, bL_key, List.length_take, bL_len]; omega
theorem ltW_of_key {K : Nat} {a b : ByteArray} (h : ltW (keyW K a) (keyW K b) = true) : ltW a b = true := by
  unfold ltW at *
  rw [decide_eq_true_eq, bL_key, bL_key] at h
  rw [decide_eq_true_eq]
  exact take_lt K _ _ h
theorem nltW_key {K : Nat} {a b : ByteArray} (h : ltW a b = false) : ltW (keyW K a) (keyW K b) = false := by
  cases h' : ltW (keyW K a) (keyW K b) with
  | false => rfl
  | true => rw [ltW_of_key h'] at h; cases h

/-- The i-th row. -/
def rowW (W : Nat) (s : ByteArray) (i : Nat) : ByteArray := s.extract (i * W) ((i + 1) * W)
/-- All rows. -/
def rowsW (W : Nat) (s : ByteArray) : List ByteArray := (List.range (s.size / W)).map (rowW W s)
theorem rowsW_len (W : Nat) (s : ByteArray) : (rowsW W s).length = s.size / W := by simp [rowsW]
theorem rowsW_at {W i : Nat} {s : ByteArray} (h : i < s.size / W) : (rowsW W s)[i]? = some (rowW W s i) := by simp [rowsW, h]
theorem row_end {W i n : Nat} (h : i < n / W) : (i + 1) * W ≤ n := Nat.le_trans (Nat.mul_le_mul_right W h) (Nat.div_mul_le_self n W)
theorem rowW_size {W i : Nat} {s : ByteArray} (h : i < s.size / W) : (rowW W s i).size = W := by
  have h1 := row_end h
  unfold rowW
  rw [ByteArray.size_extract, Nat.min_eq_left h1, Nat.succ_mul]; omega
theorem rowsW_get {W i : Nat} {s r : ByteArray} (h : (rowsW W s)[i]? = some r) : i < s.size / W ∧ r = rowW W s i := by
  have hi : i < s.size / W := by have := (List.getElem?_eq_some_iff.1 h).1; rwa [rowsW_len] at this
  rw [rowsW_at hi] at h
  exact ⟨hi, (Option.some.inj h).symm⟩
theorem rowsW_size {W : Nat} {s : ByteArray} : ∀ x ∈ rowsW W s, x.size = W := by
  intro x hx
  obtain ⟨i, hi⟩ := List.getElem?_of_mem hx
  obtain ⟨h1, rfl⟩ := rowsW_get hi
  exact rowW_size h1
/-- Rows one behind the other. -/
def catW (l : List ByteArray) : ByteArray := ⟨(l.flatMap bL).toArray⟩
theorem bL_cat (l : List ByteArray) : bL (catW l) = l.flatMap bL := bL_mk _
theorem cat_size {W : Nat} : ∀ {l : List ByteArray}, (∀ x ∈ l, x.size = W) → (catW l).size = l.length * W
  | [], _ => by simp [catW, ByteArray.size]
  | a :: t, h => by
    have ih := cat_size (l := t) (fun x hx => h x (List.mem_cons_of_mem _ hx))
    rw [← bL_len, bL_cat] at *
    rw [List.flatMap_cons, List.length_append, ih, bL_len, h a (List.mem_cons_self ..), List.length_cons, Nat.succ_mul]; omega
theorem cat_le {W : Nat} : ∀ {l : List ByteArray}, (∀ x ∈ l, x.size ≤ W) → (catW l).size ≤ l.length * W
  | [], _ => by simp [catW, ByteArray.size]
  | a :: t, h => by
    have ih := cat_le (l := t) (fun x hx => h x (List.mem_cons_of_mem _ hx))
    have ha : (bL a).length ≤ W := h a (List.mem_cons_self ..)
    rw [← bL_len, bL_cat] at ih ⊢
    rw [List.flatMap_cons, List.length_append, List.length_cons, Nat.succ_mul]; omega
theorem flat_at {W : Nat} : ∀ {l : List ByteArray} {i : Nat} {x : ByteArray}, (∀ x ∈ l, x.size = W) → l[i]? = some x → ((l.flatMap bL).drop (i * W)).take W = bL x
  | [], _, _, _, h => by simp at h
  | a :: t, 0, x, hs, h => by
    simp at h; subst h
    rw [Nat.zero_mul, List.drop_zero, List.flatMap_cons, List.take_left' (by rw [bL_len]; exact hs _ (List.mem_cons_self ..))]
  | a :: t, i + 1, x, hs, h => by
    have ha : (bL a).length = W := hs a (List.mem_cons_self ..)
    rw [List.getElem?_cons_succ] at h
    rw [List.flatMap_cons, Nat.succ_mul, Nat.add_comm, List.drop_append, List.drop_eq_nil_of_le (by omega), List.nil_append, show W + i * W - (bL a).length = i * W by omega]
    exact flat_at (fun x hx => hs x (List.mem_cons_of_mem _ hx)) h
theorem rows_cat {W : Nat} {l : List ByteArray} (hW : 0 < W) (h : ∀ x ∈ l, x.size = W) : rowsW W (catW l) = l := by
  have hsz := cat_size h
  have hl : (catW l).size / W = l.length := by rw [hsz, Nat.mul_div_cancel _ hW]
  apply List.ext_getElem?
  intro i
  by_cases hi : i < l.length
  · rw [rowsW_at (by omega), List.getElem?_eq_getElem hi]
    congr 1
    apply bL_ext
    unfold rowW
    rw [bL_extract, bL_cat, show (i + 1) * W - i * W = W by rw [Nat.succ_mul]; omega]
    exact flat_at h (List.getElem?_eq_getElem hi)
  · rw [List.getElem?_eq_none (by rw [rowsW_len]; omega), List.getElem?_eq_none (by omega)]
theorem flat_rows (W : Nat) (s : ByteArray) : ∀ n, ((List.range n).map (rowW W s)).flatMap bL = (bL s).take (n * W)
  | 0 => by simp
  | n + 1 => by
    rw [List.range_succ, List.map_append, List.flatMap_append, flat_rows W s n, Nat.succ_mul, List.take_add]
    simp only [List.map_cons, List.map_nil, List.flatMap_cons, List.flatMap_nil, List.append_nil]
    unfold rowW
    rw [bL_extract, show (n + 1) * W - n * W = W by rw [Nat.succ_mul]; omega]
theorem cat_rows {W : Nat} {s : ByteArray} (h : s.size % W = 0) : catW (rowsW W s) = s := by
  apply bL_ext
  rw [bL_cat]
  unfold rowsW
  rw [flat_rows, List.take_of_length_le]
  rw [bL_len]
  have := Nat.div_add_mod s.size W
  rw [Nat.mul_comm]; omega

/-- Which key of a row of keys does not stand in order; the first is held against a. -/
def goK : ByteArray → Nat → List ByteArray → Option Nat
  | _, _, [] => none
  | a, n, k :: t => if ltW a k = true then goK k (n + 1) t else some n
def badW (K : Nat) (l : List ByteArray) : Option Nat := goK ⟨#[]⟩ 0 (l.map (keyW K))
theorem goK_none : ∀ {a : ByteArray} {n : Nat} {l : List ByteArray}, goK a n l = none ↔ (a :: l).Pairwise fun x y => ltW x y = true
  | a, n, [] => by simp [goK]
  | a, n, k :: t => by
    unfold goK
    by_cases h : ltW a k = true
    · rw [if_pos h, goK_none, List.pairwise_cons (l := k :: t)]
      refine ⟨fun h' => ⟨fun x hx => ?_, h'⟩, fun h' => h'.2⟩
      rcases List.mem_cons.1 hx with rfl | hx
      · exact h
      · exact ltW_trans h ((List.pairwise_cons.1 h').1 x hx)
    · rw [if_neg h]
      refine ⟨fun h' => (by cases h'), fun h' => absurd ((List.pairwise_cons.1 h').1 k (List.mem_cons_self ..)) h⟩
theorem goK_lt : ∀ {a : ByteArray} {n i : Nat} {l : List ByteArray}, goK a n l = some i → n ≤ i ∧ i < n + l.length
  | a, n, i, [], h => by simp [goK] at h
  | a, n, i, k :: t, h => by
    unfold goK at h
    by_cases h' : ltW a k = true
    · rw [if_pos h'] at h
      have := goK_lt h
      rw [List.length_cons]; omega
    · rw [if_neg h'] at h
      cases h
      rw [List.length_cons]; omega
theorem badW_lt {K i : Nat} {l : List ByteArray} (h : badW K l = some i) : i < l.length := by
  have := (goK_lt h).2
  rw [List.length_map] at this; omega
/-- Rows in order. -/
def RisingW (K : Nat) (l : List ByteArray) : Prop := l.Pairwise fun a b => ltW (keyW K a) (keyW K b) = true
theorem badW_none {K : Nat} {l : List ByteArray} (hK : 0 < K) (h : ∀ x ∈ l, K ≤ x.size) : badW K l = none ↔ RisingW K l := by
  unfold badW RisingW
  rw [goK_none, List.pairwise_cons, List.pairwise_map]
  refine ⟨fun h' => h'.2, fun h' => ⟨fun x hx => ?_, h'⟩⟩
  obtain ⟨y, hy, rfl⟩ := List.mem_map.1 hx
  exact ltW_of_empty (by rw [keyW_size (h y hy)]; omega)

/-- Rows by rising bytes. -/
def sortW (l : List ByteArray) : List ByteArray := ((l.map bL).mergeSort (fun x y => decide (x ≤ y))).map fun x => ⟨x.toArray⟩
theorem sortW_perm (l : List ByteArray) : (sortW l).Perm l := by
  have h := (List.mergeSort_perm (l.map bL) (fun x y => decide (x ≤ y))).map fun x => (⟨x.toArray⟩ : ByteArray)
  rw [List.map_map, show ((fun x => (⟨x.toArray⟩ : ByteArray)) ∘ bL) = id from funext fun s => mk_bL s, List.map_id] at h
  exact h
theorem sortW_sorted (l : List ByteArray) : (sortW l).Pairwise fun a b => ltW b a = false := by
  unfold sortW
  rw [List.pairwise_map]
  refine (List.pairwise_mergeSort (le := fun x y : List UInt8 => decide (x ≤ y)) ?_ ?_ _).imp ?_
  · intro a b c h1 h2
    simp at *; exact List.le_trans h1 h2
  · intro a b
    have := List.le_total a b
    simpa using this
  · intro a b h
    simp [ltW, bL_mk] at *; exact h
theorem sortW_unique {a b : List ByteArray} (hp : a.Perm b) (ha : a.Pairwise fun x y => ltW y x = false) (hb : b.Pairwise fun x y => ltW y x = false) : a = b :=
  List.Perm.eq_of_pairwise (fun _ _ _ _ h1 h2 => (ltW_tri h1 h2).symm) ha hb hp
theorem sortW_congr {a b : List ByteArray} (hp : a.Perm b) : sortW a = sortW b :=
  sortW_unique ((sortW_perm a).trans (hp.trans (sortW_perm b).symm)) (sortW_sorted a) (sortW_sorted b)
theorem sortW_rising {K : Nat} {l : List ByteArray} (h : RisingW K l) : sortW l = l :=
  sortW_unique (sortW_perm l) (sortW_sorted l) (h.imp fun hab => ltW_asymm (ltW_of_key hab))
theorem sortW_size {W : Nat} {l : List ByteArray} (h : ∀ x ∈ l, x.size = W) : ∀ x ∈ sortW l, x.size = W := fun x hx => h x ((sortW_perm l).mem_iff.1 hx)
theorem sortW_len (l : List ByteArray) : (sortW l).length = l.length := (sortW_perm l).length_eq

/-- A row put behind all whose keys are not behind its own. -/
def insW (K : Nat) (r : ByteArray) (l : List ByteArray) : List ByteArray := (l.takeWhile fun y => !ltW (keyW K r) (keyW K y)) ++ r :: (l.dropWhile fun y => !ltW (keyW K r) (keyW K y))
def KS (K : Nat) (a b : ByteArray) : Prop := ltW (keyW K b) (keyW K a) = false
theorem insW_perm (K : Nat) (r : ByteArray) (l : List ByteArray) : (insW K r l).Perm (r :: l) := by
  unfold insW
  refine List.perm_middle.trans ?_
  rw [List.takeWhile_append_dropWhile]
theorem insW_sorted {K : Nat} {r : ByteArray} : ∀ {l : List ByteArray}, l.Pairwise (KS K) → (insW K r l).Pairwise (KS K)
  | [], _ => by simp [insW]
  | y :: t, h => by
    have h1 := (List.pairwise_cons.1 h).1
    have h2 := (List.pairwise_cons.1 h).2
    by_cases hc : ltW (keyW K r) (keyW K y) = true
    · rw [show insW K r (y :: t) = r :: y :: t by simp [insW, hc], List.pairwise_cons]
      refine ⟨fun x hx => ?_, h⟩
      rcases List.mem_cons.1 hx with rfl | hx
      · exact ltW_asymm hc
      · exact ltW_ntrans (h1 x hx) (ltW_asymm hc)
    · have hc' : ltW (keyW K r) (keyW K y) = false := by simpa using hc
      rw [show insW K r (y :: t) = y :: insW K r t by simp [insW, hc'], List.pairwise_cons]
      refine ⟨fun x hx => ?_, insW_sorted h2⟩
      rcases List.mem_cons.1 ((insW_perm K r t).mem_iff.1 hx) with rfl | hx
      · exact hc'
      · exact h1 x hx
def buildRW (K : Nat) (l : List ByteArray) : List ByteArray := l.foldl (fun acc r => insW K r acc) []
theorem buildRW_snoc (K : Nat) (l : List ByteArray) (r : ByteArray) : buildRW K (l ++ [r]) = insW K r (buildRW K l) := by simp [buildRW, List.foldl_append]
theorem buildRW_both (K : Nat) : ∀ l, (buildRW K l).Perm l ∧ (buildRW K l).Pairwise (KS K) := by
  have gen : ∀ (l acc : List ByteArray), acc.Pairwise (KS K) → (l.foldl (fun acc r => insW K r acc) acc).Perm (acc ++ l) ∧ (l.foldl (fun acc r => insW K r acc) acc).Pairwise (KS K) := by
    intro l
    induction l with
    | nil => intro acc h; simpa using h
    | cons r t ih =>
      intro acc h
      obtain ⟨h1, h2⟩ := ih (insW K r acc) (insW_sorted h)
      refine ⟨h1.trans (((insW_perm K r acc).append_right t).trans ?_), h2⟩
      exact List.perm_middle.symm
  exact fun l => gen l [] List.Pairwise.nil
theorem sortW_keys (K : Nat) (l : List ByteArray) : (sortW l).Pairwise (KS K) := (sortW_sorted l).imp fun h => nltW_key h
theorem keys_same (K : Nat) (l : List ByteArray) : (sortW l).map (keyW K) = (buildRW K l).map (keyW K) := by
  have h1 := sortW_keys K l
  have h2 := (buildRW_both K l).2
  refine List.Perm.eq_of_pairwise (le := fun a b => ltW b a = false) (fun _ _ _ _ h1 h2 => (ltW_tri h1 h2).symm) ?_ ?_ ?_
  · rw [List.pairwise_map]; exact h1
  · rw [List.pairwise_map]; exact h2
  · exact ((sortW_perm l).trans (buildRW_both K l).1.symm).map _
theorem bad_same (K : Nat) (l : List ByteArray) : badW K (sortW l) = badW K (buildRW K l) := by unfold badW; rw [keys_same]
theorem build_same {K : Nat} {l : List ByteArray} (hK : 0 < K) (hs : ∀ x ∈ l, K ≤ x.size) (h : badW K (sortW l) = none) : sortW l = buildRW K l := by
  have hp := (buildRW_both K l).1
  have r1 := (badW_none hK (fun x hx => hs x ((sortW_perm l).mem_iff.1 hx))).1 h
  rw [bad_same] at h
  have r2 := (badW_none hK (fun x hx => hs x (hp.mem_iff.1 hx))).1 h
  exact List.Perm.eq_of_pairwise (fun a b _ _ h1 h2 => by rw [ltW_asymm h1] at h2; cases h2) r1 r2 ((sortW_perm l).trans hp.symm)

/-- Where a key stands: the number of the first row whose key is not ahead of it. -/
def searchW (K : Nat) (l : List ByteArray) (key : ByteArray) : Nat := l.findIdx fun r => !ltW (keyW K r) key
theorem searchW_le (K : Nat) (l : List ByteArray) (key : ByteArray) : searchW K l key ≤ l.length := List.findIdx_le_length
theorem search_lo {K i : Nat} {l : List ByteArray} {key r : ByteArray} (h : i < searchW K l key) (hr : l[i]? = some r) : ltW (keyW K r) key = true := by
  have := List.not_of_lt_findIdx (p := fun r => !ltW (keyW K r) key) h
  obtain ⟨hi, rfl⟩ := List.getElem?_eq_some_iff.1 hr
  simpa using this
theorem search_at {K : Nat} {l : List ByteArray} {key r : ByteArray} (hr : l[searchW K l key]? = some r) : ltW (keyW K r) key = false := by
  obtain ⟨hi, rfl⟩ := List.getElem?_eq_some_iff.1 hr
  have : (!ltW (keyW K l[searchW K l key]) key) = true := List.findIdx_getElem (p := fun r => !ltW (keyW K r) key) (xs := l) (w := hi)
  simpa using this
/-- The question rises. -/
def MonoW (K : Nat) (l : List ByteArray) (key : ByteArray) : Prop := ∀ i r, l[i]? = some r → (ltW (keyW K r) key = false ↔ searchW K l key ≤ i)
theorem mono_rising {K : Nat} {l : List ByteArray} (h : RisingW K l) (key : ByteArray) : MonoW K l key := by
  intro i r hr
  refine ⟨fun h' => ?_, fun h' => ?_⟩
  · rcases Nat.lt_or_ge i (searchW K l key) with h2 | h2
    · rw [search_lo h2 hr] at h'; cases h'
    · exact h2
  · obtain ⟨hi, rfl⟩ := List.getElem?_eq_some_iff.1 hr
    have hv : searchW K l key < l.length := by omega
    have h1 := search_at (List.getElem?_eq_getElem hv)
    rcases Nat.eq_or_lt_of_le h' with h2 | h2
    · simpa only [h2] using h1
    · have := List.pairwise_iff_getElem.1 h _ _ hv hi h2
      exact ltW_ntrans (ltW_asymm this) h1
theorem search_empty (K : Nat) (l : List ByteArray) : searchW K l ⟨#[]⟩ = 0 := by
  cases l with
  | nil => rfl
  | cons a t => simp [searchW, List.findIdx_cons, ltW_empty]
theorem mono_empty (K : Nat) (l : List ByteArray) : MonoW K l ⟨#[]⟩ := fun i r _ => ⟨fun _ => by rw [search_empty]; omega, fun _ => ltW_empty _⟩
/-- The row of a key. -/
def findW (K : Nat) (l : List ByteArray) (key : ByteArray) : Option ByteArray :=
  match l[searchW K l key]? with
  | some r => if keyW K r = key then some r else none
  | none => none
theorem rising_key {K i j : Nat} {l : List ByteArray} {a b : ByteArray} (h : RisingW K l) (ha : l[i]? = some a) (hb : l[j]? = some b) (he : keyW K a = keyW K b) : i = j := by
  obtain ⟨hi, rfl⟩ := List.getElem?_eq_some_iff.1 ha
  obtain ⟨hj, rfl⟩ := List.getElem?_eq_some_iff.1 hb
  rcases Nat.lt_trichotomy i j with h' | h' | h'
  · have := List.pairwise_iff_getElem.1 h _ _ hi hj h'
    rw [he, ltW_irrefl] at this; cases this
  · exact h'
  · have := List.pairwise_iff_getElem.1 h _ _ hj hi h'
    rw [he, ltW_irrefl] at this; cases this
theorem find_hit {K i : Nat} {l : List ByteArray} {r : ByteArray} (h : RisingW K l) (hr : l[i]? = some r) : searchW K l (keyW K r) = i ∧ findW K l (keyW K r) = some r := by
  have hm := (mono_rising h (keyW K r) i r hr).1 (ltW_irrefl _)
  have hv : searchW K l (keyW K r) < l.length := by have := (List.getElem?_eq_some_iff.1 hr).1; omega
  have h1 := search_at (List.getElem?_eq_getElem hv)
  have he : searchW K l (keyW K r) = i := by
    rcases Nat.eq_or_lt_of_le hm with h2 | h2
    · exact h2
    · obtain ⟨hi, rfl⟩ := List.getElem?_eq_some_iff.1 hr
      have := List.pairwise_iff_getElem.1 h _ _ hv hi h2
      rw [this] at h1; cases h1
  refine ⟨he, ?_⟩
  unfold findW
  rw [he, hr]
  simp
theorem find_miss {K : Nat} {l : List ByteArray} {key : ByteArray} (h : ∀ r ∈ l, keyW K r ≠ key) : findW K l key = none := by
  unfold findW
  cases hx : l[searchW K l key]? with
  | none => rfl
  | some r => simp [h r (List.mem_of_getElem? hx)]

/-- Does a text begin with another one? -/
def startsW (r key : ByteArray) : Bool := decide (bL key <+: bL r)
theorem startsW_iff (r key : ByteArray) : startsW r key = true ↔ bL key <+: bL r := by simp [startsW]
theorem startsW_size {r key : ByteArray} (h : r.size < key.size) : startsW r key = false := by
  unfold startsW
  rw [decide_eq_false_iff_not]
  intro h'
  have := h'.length_le
  rw [bL_len, bL_len] at this; omega
theorem startsW_eq (r key : ByteArray) : startsW r key = (bL (r.extract 0 key.size) == bL key) := by
  rw [Bool.eq_iff_iff, startsW_iff, beq_iff_eq, bL_extract, List.prefix_iff_eq_take]
  simp [bL_len, eq_comm]
theorem startsW_empty (r : ByteArray) : startsW r ⟨#[]⟩ = true := by rw [startsW_iff]; exact List.nil_prefix
theorem between : ∀ {k a x : List UInt8}, ¬ a < k → a < k ++ x → k <+: a
  | [], _, _, _, _ => List.nil_prefix
  | _ :: _, [], _, h, _ => absurd (by simp) h
  | c :: k, d :: a, x, h1, h2 => by
    rw [List.cons_lt_cons_iff] at h1
    rw [List.cons_append, List.cons_lt_cons_iff] at h2
    rcases h2 with h2 | ⟨rfl, h2⟩
    · exact absurd (.inl h2) h1
    · rw [List.cons_prefix_cons]
      exact ⟨rfl, between (fun h => h1 (.inr ⟨rfl, h⟩)) h2⟩
theorem starts_nlt {a k : ByteArray} (h : startsW a k = true) : ltW a k = false := by
  obtain ⟨x, hx⟩ := (startsW_iff a k).1 h
  unfold ltW
  rw [decide_eq_false_iff_not, ← hx]
  intro h'
  have : ∀ (k x : List UInt8), ¬ k ++ x < k := by
    intro k
    induction k with
    | nil => intro x; simp
    | cons c t ih =>
      intro x h
      rw [List.cons_append, List.cons_lt_cons_iff] at h
      rcases h with h | ⟨_, h⟩
      · exact absurd h (by simp)
      · exact ih x h
  exact this _ _ h'
theorem starts_stop {k a b : ByteArray} (h1 : ltW a k = false) (h2 : startsW a k = false) (h3 : ltW a b = true) : startsW b k = false := by
  cases h : startsW b k with
  | false => rfl
  | true =>
    obtain ⟨x, hx⟩ := (startsW_iff b k).1 h
    unfold ltW at h1 h3
    rw [decide_eq_false_iff_not] at h1
    rw [decide_eq_true_eq, ← hx] at h3
    rw [(startsW_iff a k).2 (between h1 h3)] at h2; cases h2

/-- Rows with their numbers, from n on. -/
def fromW : Nat → List ByteArray → List (Nat × ByteArray)
  | _, [] => []
  | n, r :: t => (n, r) :: fromW (n + 1) t
theorem fromW_len : ∀ (n : Nat) (l : List ByteArray), (fromW n l).length = l.length
  | _, [] => rfl
  | n, r :: t => by simp [fromW, fromW_len (n + 1) t]
theorem fromW_at : ∀ (n : Nat) (l : List ByteArray) (i : Nat), (fromW n l)[i]? = l[i]?.map fun r => (n + i, r)
  | _, [], _ => by simp [fromW]
  | n, r :: t, 0 => by simp [fromW]
  | n, r :: t, i + 1 => by
    rw [fromW, List.getElem?_cons_succ, List.getElem?_cons_succ, fromW_at (n + 1) t i, Nat.add_assoc, Nat.add_comm 1 i]
theorem fromW_append : ∀ (n : Nat) (a b : List ByteArray), fromW n (a ++ b) = fromW n a ++ fromW (n + a.length) b
  | n, [], b => by simp [fromW]
  | n, r :: t, b => by rw [List.cons_append, fromW, fromW_append (n + 1) t b, fromW, List.length_cons, List.cons_append, Nat.add_assoc, Nat.add_comm 1]
/-- The rows whose keys begin with a text: those from where it stands on, as long as they do. -/
def tookW (K : Nat) (l : List ByteArray) (key : ByteArray) : List ByteArray := (l.drop (searchW K l key)).takeWhile fun r => startsW (keyW K r) key
def prefixW (K : Nat) (l : List ByteArray) (key : ByteArray) : List (Nat × ByteArray) := fromW (searchW K l key) (tookW K l key)
theorem takeW_all {p : ByteArray → Bool} : ∀ {l : List ByteArray}, (∀ r ∈ l, p r = true) → l.takeWhile p = l
  | [], _ => rfl
  | a :: t, h => by rw [List.takeWhile_cons, if_pos (h a (List.mem_cons_self ..)), takeW_all fun r hr => h r (List.mem_cons_of_mem _ hr)]
theorem tw_at {p : ByteArray → Bool} : ∀ {l : List ByteArray} {k : Nat} {r : ByteArray}, (l.takeWhile p)[k]? = some r → l[k]? = some r ∧ p r = true
  | [], _, _, h => by simp at h
  | a :: t, k, r, h => by
    rw [List.takeWhile_cons] at h
    by_cases hp : p a = true
    · rw [if_pos hp] at h
      cases k with
      | zero => simp at h; subst h; exact ⟨rfl, hp⟩
      | succ k => rw [List.getElem?_cons_succ] at h ⊢; exact tw_at h
    · rw [if_neg hp] at h; simp at h
theorem tw_end {p : ByteArray → Bool} : ∀ (l : List ByteArray), (l.takeWhile p).length = l.length ∨ ∃ r, l[(l.takeWhile p).length]? = some r ∧ p r = false
  | [] => .inl rfl
  | a :: t => by
    rw [List.takeWhile_cons]
    by_cases hp : p a = true
    · rw [if_pos hp, List.length_cons, List.length_cons]
      rcases tw_end (p := p) t with h | ⟨r, h1, h2⟩
      · exact .inl (by rw [h])
      · exact .inr ⟨r, by rw [List.getElem?_cons_succ]; exact h1, h2⟩
    · rw [if_neg hp]
      exact .inr ⟨a, rfl, by simpa using hp⟩
theorem took_at {K k : Nat} {l : List ByteArray} {key r : ByteArray} (h : (tookW K l key)[k]? = some r) : l[searchW K l key + k]? = some r ∧ startsW (keyW K r) key = true := by
  obtain ⟨h1, h2⟩ := tw_at h
  rw [List.getElem?_drop] at h1
  exact ⟨h1, h2⟩
theorem took_end (K : Nat) (l : List ByteArray) (key : ByteArray) : searchW K l key + (tookW K l key).length = l.length ∨ ∃ r, l[searchW K l key + (tookW K l key).length]? = some r ∧ startsW (keyW K r) key = false := by
  rcases tw_end (p := fun r => startsW (keyW K r) key) (l.drop (searchW K l key)) with h | ⟨r, h1, h2⟩
  · left
    unfold tookW
    rw [h, List.length_drop]
    have := searchW_le K l key
    omega
  · rw [List.getElem?_drop] at h1
    exact .inr ⟨r, h1, h2⟩
theorem prefix_len (K : Nat) (l : List ByteArray) (key : ByteArray) : (prefixW K l key).length = (tookW K l key).length := fromW_len _ _
theorem prefix_at {K k : Nat} {l : List ByteArray} {key r : ByteArray} (h : (tookW K l key)[k]? = some r) : (prefixW K l key)[k]? = some (searchW K l key + k, r) := by
  unfold prefixW; rw [fromW_at, h]; rfl
theorem prefix_empty (K : Nat) (l : List ByteArray) : prefixW K l ⟨#[]⟩ = fromW 0 l := by
  unfold prefixW tookW
  rw [search_empty, List.drop_zero]
  congr 1
  exact takeW_all fun r _ => startsW_empty _
end Go.Proofs.YtlpjdknmnomdlaaGreatDoor
