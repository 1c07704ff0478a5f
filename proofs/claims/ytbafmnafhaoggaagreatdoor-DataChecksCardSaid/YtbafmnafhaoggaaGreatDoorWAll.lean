/-
  Layer 11's rows as lists: a text's rows, their keys, rows in order, rows found by halves and by their beginnings, rows put in order in two ways. No program is named here. Package table: rows by their numbers, found by halves, told one by one. Package table: the rows of a beginning, told one by one. A region in a round, without a defer: as in no round. No program is named here. A region that only reads, in whatever order, inside a round of a range over a function. No program is named here. Package table: what may be a table, Find, Bytes, New. Package table: New, by the first row that does not stand in order. Rows of texts in memory: wherever they lie; a call's own; those that an iterator looks at.
-/
import Derived.WalkKit
import Derived.Test.YtbafmnafhaoggaaGreatDoorFault
import Derived.Test.YtbafmnafhaoggaaGreatDoorSeqs
import Derived.BigQuiet
import Derived.Deep.QuietTactic
import Derived.StillTailTactics
import Derived.Laws.Cover1
import Derived.Sort.Walk0
import Derived.Lib.Strings
import Derived.Sort.QuietTacIn
import Derived.OrdersIn
import Derived.Stop.RegionWithIn
import Derived.LoopIn
import Derived.LoopNIn
import Derived.TacticsInMore
import Derived.RangeFuncLeaves
import Derived.Sort.OwnSorted
import Derived.OwnWalk
import Derived.OwnWalkIn
import Derived.Lib.Join
/-! Layer 11's rows as lists: a text's rows, their keys, rows in order, rows found by halves and by their beginnings, rows put in order in two ways. No program is named here. -/
namespace Go.Proofs.YtbafmnafhaoggaaGreatDoor
open Go Go.RowKit

/-- A text's bytes. -/
def bL (s : ByteArray) : List UInt8 := s.data.toList
theorem bL_ext {x y : ByteArray} (h : bL x = bL y) : x = y := by
  cases x; cases y
  congr 1
  exact Array.toList_inj.1 h
theorem bL_len (s : ByteArray) : (bL s).length = s.size := rfl
theorem bL_extract (s : ByteArray) (a b : Nat) : bL (s.extract a b) = ((bL s).drop a).take (b - a) := by
  unfold bL; rw [ByteArray.data_extract, Array.toList_extract, List.extract_eq_take_drop]
theorem bL_mk (l : List UInt8) : bL ⟨l.toArray⟩ = l := by simp [bL]
theorem mk_bL (s : ByteArray) : (⟨(bL s).toArray⟩ : ByteArray) = s := bL_ext (bL_mk _)
/-- Byte by byte. -/
def ltW (x y : ByteArray) : Bool := decide (bL x < bL y)
theorem ltW_irrefl (x : ByteArray) : ltW x x = false := by simp [ltW, List.lt_irrefl]
theorem ltW_trans {x y z : ByteArray} (h1 : ltW x y = true) (h2 : ltW y z = true) : ltW x z = true := by
  simp [ltW] at *; exact List.lt_trans h1 h2
theorem ltW_tri {x y : ByteArray} (h1 : ltW x y = false) (h2 : ltW y x = false) : x = y := by
  simp [ltW] at *; exact bL_ext (List.le_antisymm h2 h1)
theorem ltW_asymm {x y : ByteArray} (h1 : ltW x y = true) : ltW y x = false := by
  cases h : ltW y x with
  | false => rfl
  | true => have := ltW_trans h1 h; rw [ltW_irrefl] at this; cases this
theorem ltW_empty (x : ByteArray) : ltW x ⟨#[]⟩ = false := by simp [ltW, bL]
theorem ltW_of_empty {x : ByteArray} (h : x.size ≠ 0) : ltW ⟨#[]⟩ x = true := by
  have : bL x ≠ [] := fun e => h (by rw [← bL_len, e]; rfl)
  unfold ltW
  rw [decide_eq_true_eq]
  show bL ⟨#[]⟩ < bL x
  rw [show bL ⟨#[]⟩ = [] from rfl]
  cases hx : bL x with
  | nil => exact absurd hx this
  | cons a t => simp
theorem take_lt : ∀ (k : Nat) (a b : List UInt8), a.take k < b.take k → a < b
  | 0, a, b => by simp
  | k + 1, a, [] => by simp
  | k + 1, [], d :: t => by simp
  | k + 1, c :: s, d :: t => by
    rw [List.take_succ_cons, List.take_succ_cons, List.cons_lt_cons_iff, List.cons_lt_cons_iff]
    rintro (h | ⟨h, h'⟩)
    · exact .inl h
    · exact .inr ⟨h, take_lt k s t h'⟩

/-- A row's key. -/
def keyW (K : Nat) (r : ByteArray) : ByteArray := r.extract 0 K
theorem bL_key (K : Nat) (r : ByteArray) : bL (keyW K r) = (bL r).take K := by unfold keyW; rw [bL_extract]; simp
theorem keyW_size {K : Nat} {r : ByteArray} (h : K ≤ r.size) : (keyW K r).size = K := by
  rw [← bL_len, bL_key, List.length_take, bL_len]; omega
theorem ltW_of_key {K : Nat} {a b : ByteArray} (h : ltW (keyW K a) (keyW K b) = true) : ltW a b = true := by
  unfold ltW at *
  rw [decide_eq_true_eq, bL_key, bL_key] at h
  rw [decide_eq_true_eq]
  exact take_lt K _ _ h
/-- The i-th row. -/
def rowW (W : Nat) (s : ByteArray) (i : Nat) : ByteArray := s.extract (i * W) ((i + 1) * W)
/-- All rows. -/
def rowsW (W : Nat) (s : ByteArray) : List ByteArray := (List.range (s.size / W)).map (rowW W s)
theorem rowsW_len (W : Nat) (s : ByteArray) : (rowsW W s).length = s.size / W := by simp [rowsW]
theorem rowsW_at {W i : Nat} {s : ByteArray} (h : i < s.size / W) : (rowsW W s)[i]? = some (rowW W s i) := by simp [rowsW, h]
theorem row_end {W i n : Nat} (h : i < n / W) : (i + 1) * W ≤ n := Nat.le_trans (Nat.mul_le_mul_right W h) (Nat.div_mul_le_self n W)
theorem rowW_size {W i : Nat} {s : ByteArray} (h : i < s.size / W) : (rowW W s i).size = W := by
  have h1 := row_end h
  unfold rowW
  rw [ByteArray.size_extract, Nat.min_eq_left h1, Nat.succ_mul]; omega
theorem rowsW_get {W i : Nat} {s r : ByteArray} (h : (rowsW W s)[i]? = some r) : i < s.size / W ∧ r = rowW W s i := by
  have hi : i < s.size / W := by have := (List.getElem?_eq_some_iff.1 h).1; rwa [rowsW_len] at this
  rw [rowsW_at hi] at h
  exact ⟨hi, (Option.some.inj h).symm⟩
/-- Rows one behind the other. -/
def catW (l : List ByteArray) : ByteArray := ⟨(l.flatMap bL).toArray⟩
theorem bL_cat (l : List ByteArray) : bL (catW l) = l.flatMap bL := bL_mk _
theorem cat_size {W : Nat} : ∀ {l : List ByteArray}, (∀ x ∈ l, x.size = W) → (catW l).size = l.length * W
  | [], _ => by simp [catW, ByteArray.size]
  | a :: t, h => by
    have ih := cat_size (l := t) (fun x hx => h x (List.mem_cons_of_mem _ hx))
    rw [← bL_len, bL_cat] at *
    rw [List.flatMap_cons, List.length_append, ih, bL_len, h a (List.mem_cons_self ..), List.length_cons, Nat.succ_mul]; omega
theorem flat_at {W : Nat} : ∀ {l : List ByteArray} {i : Nat} {x : ByteArray}, (∀ x ∈ l, x.size = W) → l[i]? = some x → ((l.flatMap bL).drop (i * W)).take W = bL x
  | [], _, _, _, h => by simp at h
  | a :: t, 0, x, hs, h => by
    simp at h; subst h
    rw [Nat.zero_mul, List.drop_zero, List.flatMap_cons, List.take_left' (by rw [bL_len]; exact hs _ (List.mem_cons_self ..))]
  | a :: t, i + 1, x, hs, h => by
    have ha : (bL a).length = W := hs a (List.mem_cons_self ..)
    rw [List.getElem?_cons_succ] at h
    rw [List.flatMap_cons, Nat.succ_mul, Nat.add_comm, List.drop_append, List.drop_eq_nil_of_le (by omega), List.nil_append, show W + i * W - (bL a).length = i * W by omega]
    exact flat_at (fun x hx => hs x (List.mem_cons_of_mem _ hx)) h
theorem rows_cat {W : Nat} {l : List ByteArray} (hW : 0 < W) (h : ∀ x ∈ l, x.size = W) : rowsW W (catW l) = l := by
  have hsz := cat_size h
  have hl : (catW l).size / W = l.length := by rw [hsz, Nat.mul_div_cancel _ hW]
  apply List.ext_getElem?
  intro i
  by_cases hi : i < l.length
  · rw [rowsW_at (by omega), List.getElem?_eq_getElem hi]
    congr 1
    apply bL_ext
    unfold rowW
    rw [bL_extract, bL_cat, show (i + 1) * W - i * W = W by rw [Nat.succ_mul]; omega]
    exact flat_at h (List.getElem?_eq_getElem hi)
  · rw [List.getElem?_eq_none (by rw [rowsW_len]; omega), List.getElem?_eq_none (by omega)]
/-- Which key of a row of keys does not stand in order; the first is held against a. -/
def goK : ByteArray → Nat → List ByteArray → Option Nat
  | _, _, [] => none
  | a, n, k :: t => if ltW a k = true then goK k (n + 1) t else some n
def badW (K : Nat) (l : List ByteArray) : Option Nat := goK ⟨#[]⟩ 0 (l.map (keyW K))
theorem goK_none : ∀ {a : ByteArray} {n : Nat} {l : List ByteArray}, goK a n l = none ↔ (a :: l).Pairwise fun x y => ltW x y = true
  | a, n, [] => by simp [goK]
  | a, n, k :: t => by
    unfold goK
    by_cases h : ltW a k = true
    · rw [if_pos h, goK_none, List.pairwise_cons (l := k :: t)]
      refine ⟨fun h' => ⟨fun x hx => ?_, h'⟩, fun h' => h'.2⟩
      rcases List.mem_cons.1 hx with rfl | hx
      · exact h
      · exact ltW_trans h ((List.pairwise_cons.1 h').1 x hx)
    · rw [if_neg h]
      refine ⟨fun h' => (by cases h'), fun h' => absurd ((List.pairwise_cons.1 h').1 k (List.mem_cons_self ..)) h⟩
/-- Rows in order. -/
def RisingW (K : Nat) (l : List ByteArray) : Prop := l.Pairwise fun a b => ltW (keyW K a) (keyW K b) = true
theorem badW_none {K : Nat} {l : List ByteArray} (hK : 0 < K) (h : ∀ x ∈ l, K ≤ x.size) : badW K l = none ↔ RisingW K l := by
  unfold badW RisingW
  rw [goK_none, List.pairwise_cons, List.pairwise_map]
  refine ⟨fun h' => h'.2, fun h' => ⟨fun x hx => ?_, h'⟩⟩
  obtain ⟨y, hy, rfl⟩ := List.mem_map.1 hx
  exact ltW_of_empty (by rw [keyW_size (h y hy)]; omega)

/-- Rows by rising bytes. -/
def sortW (l : List ByteArray) : List ByteArray := ((l.map bL).mergeSort (fun x y => decide (x ≤ y))).map fun x => ⟨x.toArray⟩
theorem sortW_perm (l : List ByteArray) : (sortW l).Perm l := by
  have h := (List.mergeSort_perm (l.map bL) (fun x y => decide (x ≤ y))).map fun x => (⟨x.toArray⟩ : ByteArray)
  rw [List.map_map, show ((fun x => (⟨x.toArray⟩ : ByteArray)) ∘ bL) = id from funext fun s => mk_bL s, List.map_id] at h
  exact h
theorem sortW_sorted (l : List ByteArray) : (sortW l).Pairwise fun a b => ltW b a = false := by
  unfold sortW
  rw [List.pairwise_map]
  refine (List.pairwise_mergeSort (le := fun x y : List UInt8 => decide (x ≤ y)) ?_ ?_ _).imp ?_
  · intro a b c h1 h2
    simp at *; exact List.le_trans h1 h2
  · intro a b
    have := List.le_total a b
    simpa using this
  · intro a b h
    simp [ltW, bL_mk] at *; exact h
theorem sortW_unique {a b : List ByteArray} (hp : a.Perm b) (ha : a.Pairwise fun x y => ltW y x = false) (hb : b.Pairwise fun x y => ltW y x = false) : a = b :=
  List.Perm.eq_of_pairwise (fun _ _ _ _ h1 h2 => (ltW_tri h1 h2).symm) ha hb hp
theorem sortW_congr {a b : List ByteArray} (hp : a.Perm b) : sortW a = sortW b :=
  sortW_unique ((sortW_perm a).trans (hp.trans (sortW_perm b).symm)) (sortW_sorted a) (sortW_sorted b)
theorem sortW_size {W : Nat} {l : List ByteArray} (h : ∀ x ∈ l, x.size = W) : ∀ x ∈ sortW l, x.size = W := fun x hx => h x ((sortW_perm l).mem_iff.1 hx)
theorem sortW_len (l : List ByteArray) : (sortW l).length = l.length := (sortW_perm l).length_eq

/-- Where a key stands: the number of the first row whose key is not ahead of it. -/
def searchW (K : Nat) (l : List ByteArray) (key : ByteArray) : Nat := l.findIdx fun r => !ltW (keyW K r) key
theorem searchW_le (K : Nat) (l : List ByteArray) (key : ByteArray) : searchW K l key ≤ l.length := List.findIdx_le_length
/-- The question rises. -/
def MonoW (K : Nat) (l : List ByteArray) (key : ByteArray) : Prop := ∀ i r, l[i]? = some r → (ltW (keyW K r) key = false ↔ searchW K l key ≤ i)
theorem search_empty (K : Nat) (l : List ByteArray) : searchW K l ⟨#[]⟩ = 0 := by
  cases l with
  | nil => rfl
  | cons a t => simp [searchW, List.findIdx_cons, ltW_empty]
theorem mono_empty (K : Nat) (l : List ByteArray) : MonoW K l ⟨#[]⟩ := fun i r _ => ⟨fun _ => by rw [search_empty]; omega, fun _ => ltW_empty _⟩
/-- Does a text begin with another one? -/
def startsW (r key : ByteArray) : Bool := decide (bL key <+: bL r)
theorem startsW_iff (r key : ByteArray) : startsW r key = true ↔ bL key <+: bL r := by simp [startsW]
theorem startsW_size {r key : ByteArray} (h : r.size < key.size) : startsW r key = false := by
  unfold startsW
  rw [decide_eq_false_iff_not]
  intro h'
  have := h'.length_le
  rw [bL_len, bL_len] at this; omega
theorem startsW_eq (r key : ByteArray) : startsW r key = (bL (r.extract 0 key.size) == bL key) := by
  rw [Bool.eq_iff_iff, startsW_iff, beq_iff_eq, bL_extract, List.prefix_iff_eq_take]
  simp [bL_len, eq_comm]
theorem startsW_empty (r : ByteArray) : startsW r ⟨#[]⟩ = true := by rw [startsW_iff]; exact List.nil_prefix
/-- Rows with their numbers, from n on. -/
def fromW : Nat → List ByteArray → List (Nat × ByteArray)
  | _, [] => []
  | n, r :: t => (n, r) :: fromW (n + 1) t
theorem fromW_len : ∀ (n : Nat) (l : List ByteArray), (fromW n l).length = l.length
  | _, [] => rfl
  | n, r :: t => by simp [fromW, fromW_len (n + 1) t]
theorem fromW_at : ∀ (n : Nat) (l : List ByteArray) (i : Nat), (fromW n l)[i]? = l[i]?.map fun r => (n + i, r)
  | _, [], _ => by simp [fromW]
  | n, r :: t, 0 => by simp [fromW]
  | n, r :: t, i + 1 => by
    rw [fromW, List.getElem?_cons_succ, List.getElem?_cons_succ, fromW_at (n + 1) t i, Nat.add_assoc, Nat.add_comm 1 i]
/-- The rows whose keys begin with a text: those from where it stands on, as long as they do. -/
def tookW (K : Nat) (l : List ByteArray) (key : ByteArray) : List ByteArray := (l.drop (searchW K l key)).takeWhile fun r => startsW (keyW K r) key
def prefixW (K : Nat) (l : List ByteArray) (key : ByteArray) : List (Nat × ByteArray) := fromW (searchW K l key) (tookW K l key)
theorem takeW_all {p : ByteArray → Bool} : ∀ {l : List ByteArray}, (∀ r ∈ l, p r = true) → l.takeWhile p = l
  | [], _ => rfl
  | a :: t, h => by rw [List.takeWhile_cons, if_pos (h a (List.mem_cons_self ..)), takeW_all fun r hr => h r (List.mem_cons_of_mem _ hr)]
theorem tw_at {p : ByteArray → Bool} : ∀ {l : List ByteArray} {k : Nat} {r : ByteArray}, (l.takeWhile p)[k]? = some r → l[k]? = some r ∧ p r = true
  | [], _, _, h => by simp at h
  | a :: t, k, r, h => by
    rw [List.takeWhile_cons] at h
    by_cases hp : p a = true
    · rw [if_pos hp] at h
      cases k with
      | zero => simp at h; subst h; exact ⟨rfl, hp⟩
      | succ k => rw [List.getElem?_cons_succ] at h ⊢; exact tw_at h
    · rw [if_neg hp] at h; simp at h
theorem tw_end {p : ByteArray → Bool} : ∀ (l : List ByteArray), (l.takeWhile p).length = l.length ∨ ∃ r, l[(l.takeWhile p).length]? = some r ∧ p r = false
  | [] => .inl rfl
  | a :: t => by
    rw [List.takeWhile_cons]
    by_cases hp : p a = true
    · rw [if_pos hp, List.length_cons, List.length_cons]
      rcases tw_end (p := p) t with h | ⟨r, h1, h2⟩
      · exact .inl (by rw [h])
      · exact .inr ⟨r, by rw [List.getElem?_cons_succ]; exact h1, h2⟩
    · rw [if_neg hp]
      exact .inr ⟨a, rfl, by simpa using hp⟩
theorem took_at {K k : Nat} {l : List ByteArray} {key r : ByteArray} (h : (tookW K l key)[k]? = some r) : l[searchW K l key + k]? = some r ∧ startsW (keyW K r) key = true := by
  obtain ⟨h1, h2⟩ := tw_at h
  rw [List.getElem?_drop] at h1
  exact ⟨h1, h2⟩
theorem took_end (K : Nat) (l : List ByteArray) (key : ByteArray) : searchW K l key + (tookW K l key).length = l.length ∨ ∃ r, l[searchW K l key + (tookW K l key).length]? = some r ∧ startsW (keyW K r) key = false := by
  rcases tw_end (p := fun r => startsW (keyW K r) key) (l.drop (searchW K l key)) with h | ⟨r, h1, h2⟩
  · left
    unfold tookW
    rw [h, List.length_drop]
    have := searchW_le K l key
    omega
  · rw [List.getElem?_drop] at h1
    exact .inr ⟨r, h1, h2⟩
theorem prefix_len (K : Nat) (l : List ByteArray) (key : ByteArray) : (prefixW K l key).length = (tookW K l key).length := fromW_len _ _
theorem prefix_at {K k : Nat} {l : List ByteArray} {key r : ByteArray} (h : (tookW K l key)[k]? = some r) : (prefixW K l key)[k]? = some (searchW K l key + k, r) := by
  unfold prefixW; rw [fromW_at, h]; rfl
theorem prefix_empty (K : Nat) (l : List ByteArray) : prefixW K l ⟨#[]⟩ = fromW 0 l := by
  unfold prefixW tookW
  rw [search_empty, List.drop_zero]
  congr 1
  exact takeW_all fun r _ => startsW_empty _
end Go.Proofs.YtbafmnafhaoggaaGreatDoor

/-! Package table: rows by their numbers, found by halves, told one by one. -/
namespace Go.Proofs.YtbafmnafhaoggaaGreatDoor
open Go Go.RowKit

def tabObj (W K : Nat) (s : ByteArray) : Obj := .cells #[.int .i64 (W : Int), .int .i64 (K : Int), .string s] 156 (0, 0)
theorem tab_cells {w : World} {b W K : Nat} {s : ByteArray} (h : w.heap[b]? = some (tabObj W K s)) :
    w.cell? ⟨b, 0, none⟩ = some (.int .i64 (W : Int)) ∧ w.cell? ⟨b, 1, none⟩ = some (.int .i64 (K : Int)) ∧ w.cell? ⟨b, 2, none⟩ = some (.string s) := by
  simp [World.cell?, h, tabObj]

theorem ret_intW {k : IntKind} {a b : Int} (h : a = b) : Ending.returned (.int k a) = .returned (.int k b) := by rw [h]
theorem ret_boolW {a b : Bool} (h : a = b) : Ending.returned (.bool a) = .returned (.bool b) := by rw [h]
theorem less_ltW (x y : ByteArray) : Op.bytesLess x.toList y.toList = ltW x y := by
  rw [bytesLess_eq, Lib.toList_data, Lib.toList_data]; rfl
theorem eql_W (x y : ByteArray) : (x.toList == y.toList) = decide (x = y) := by
  rw [Bool.eq_iff_iff, beq_iff_eq, decide_eq_true_eq, Lib.toList_data, Lib.toList_data]
  exact ⟨fun h => bL_ext h, fun h => by rw [h]⟩
theorem lt_of_cellW {W : World} {a : Addr} {v : Value} (h : W.cell? a = some v) : a.block < W.heap.size := World.block_lt_of_cell? _ _ h

set_option maxRecDepth 100000 in
theorem lenW_any {b W K : Nat} {s : ByteArray} (w : World) (h : w.heap[b]? = some (tabObj W K s)) (hW : 0 < W) (hW2 : W ≤ 255) (hs : s.size ≤ 1048576) :
    Calls Tryz.prog 146 #[.pointer (some ⟨b, 0, none⟩)] w fun e w' => e = .returned (.int .i64 ((s.size / W : Nat) : Int)) ∧ ∃ n, w' = w.drewN n := by
  obtain ⟨c0, c1, c2⟩ := tab_cells h
  have h0 : ((W : Int) == 0) = false := by rw [beq_eq_false_iff_ne]; omega
  have h1 : (W : Int) ≠ 0 := by omega
  have HE := Lib.hid (show wrap64 ((s.size : Int) / (W : Int)) = ((s.size / W : Nat) : Int) by
    have h2 : s.size / W ≤ s.size := Nat.div_le_self _ _
    rw [← Int.natCast_ediv]
    generalize s.size / W = z at *
    exact IntWalk.wrap64_in _ ⟨by omega, by omega⟩)
  clear h
  go_enter Tryz.func146, Tryz.ntmps146
  go_wp2_with fail
  go_quiet (fail)
  go_wp2
  go_ret
  exact ⟨ret_intW HE.out, _, rfl⟩

set_option maxRecDepth 100000 in
theorem rowW_in {b W K i : Nat} {s : ByteArray} (w : World) (h : w.heap[b]? = some (tabObj W K s)) (hW : 0 < W) (hW2 : W ≤ 255) (hs : s.size ≤ 1048576) (hi : i < s.size / W) :
    Calls Tryz.prog 147 #[.pointer (some ⟨b, 0, none⟩), .int .i64 (i : Int)] w fun e w' => e = .returned (.tuple #[.string (rowW W s i), .bool true]) ∧ ∃ n, w' = w.drewN n := by
  have HL := Lib.hid (lenW_any w h hW hW2 hs)
  obtain ⟨c0, c1, c2⟩ := tab_cells h
  have he := row_end hi
  have h3 : i < s.size := Nat.lt_of_lt_of_le hi (Nat.div_le_self _ _)
  obtain ⟨n, hn⟩ : ∃ n, s.size / W = n := ⟨_, rfl⟩
  obtain ⟨a, ha⟩ : ∃ a, i * W = a := ⟨_, rfl⟩
  obtain ⟨z, hz⟩ : ∃ z, (i + 1) * W = z := ⟨_, rfl⟩
  have haz : a ≤ z := by rw [← ha, ← hz, Nat.succ_mul]; omega
  have HR := Lib.hid (show s.extract a z = rowW W s i by unfold rowW; rw [ha, hz])
  rw [hz] at he
  rw [hn] at hi HL
  have e1 : IntKind.i64.wrap ((i : Int) * (W : Int)) = (a : Int) := by rw [← Int.natCast_mul, ha]; exact IntWalk.i64_in (a : Int) (by omega)
  have e2 : IntKind.i64.wrap ((i : Int) + 1) = (i : Int) + 1 := IntWalk.i64_in ((i : Int) + 1) (by omega)
  have e3 : IntKind.i64.wrap (((i : Int) + 1) * (W : Int)) = (z : Int) := by rw [show ((i : Int) + 1) = ((i + 1 : Nat) : Int) by omega, ← Int.natCast_mul, hz]; exact IntWalk.i64_in (z : Int) (by omega)
  have h4 : (0 : Int) ≤ (i : Int) := by omega
  have h5 : (i : Int) < (n : Int) := by omega
  have g1 : decide (n ≤ i) = false := by simpa using hi
  have g2 : decide ((i : Int) < 0) = false := decide_eq_false (by omega)
  have h6 : (a : Int) ≤ (z : Int) := by omega
  have h7 : (z : Int) ≤ (s.size : Int) := by omega
  clear h hn ha hz hs h3
  go_enter Tryz.func147, Tryz.ntmps147
  go_wp2_with (go_at_call 146; refine HL.out.mono ?_; rintro e w' ⟨rfl, q, rfl⟩)
  go_quiet (fail)
  go_wp2
  go_ret2
  exact ⟨by rw [← HR.out]; rfl, _, World.drewN_drewN ..⟩

/-- Which rows a table may have. -/
structure Wid (W K : Nat) (s : ByteArray) : Prop where
  k0 : 0 < K
  kW : K ≤ W
  w255 : W ≤ 255
  sz : s.size ≤ 1048576
theorem Wid.pos {W K : Nat} {s : ByteArray} (h : Wid W K s) : 0 < W := Nat.lt_of_lt_of_le h.k0 h.kW

set_option maxRecDepth 100000 in
/-- The question of search. -/
theorem asksW {b W K B1 B2 i : Nat} {s key : ByteArray} (w : World) (h : w.heap[b]? = some (tabObj W K s)) (hw : Wid W K s) (hi : i < s.size / W)
    (h1 : w.heap[B1]? = some (.cells #[.pointer (some ⟨b, 0, none⟩)] 109 (0, 0))) (h2 : w.heap[B2]? = some (.cells #[.string key] 9 (0, 0))) :
    Calls Tryz.prog 165 #[.int .i64 (i : Int), .pointer (some ⟨B1, 0, none⟩), .pointer (some ⟨B2, 0, none⟩)] w fun e w' => e = .returned (.bool (!ltW (keyW K (rowW W s i)) key)) ∧ ∃ n, w' = w.drewN n := by
  have HR := Lib.hid (rowW_in (K := K) w h hw.pos hw.w255 hw.sz hi)
  obtain ⟨c0, c1, c2⟩ := tab_cells h
  have d1 := cell_of_one h1
  have d2 := cell_of_one h2
  have hr : (rowW W s i).size = W := rowW_size hi
  have h3 : (K : Int) ≤ ((rowW W s i).size : Int) := by have := hw.kW; omega
  have h4 : (0 : Int) ≤ (K : Int) := by omega
  clear h h1 h2 hr hi
  generalize rowW W s i = r at *
  go_enter Tryz.func165, Tryz.ntmps165
  go_wp2_with (go_at_call 147; refine HR.out.mono ?_; rintro e w' ⟨rfl, q, rfl⟩)
  go_quiet (fail)
  go_wp2
  go_ret
  exact ⟨ret_boolW (by rw [less_ltW]; rfl), _, World.drewN_drewN ..⟩

set_option maxRecDepth 100000 in
set_option maxHeartbeats 1000000 in
theorem sortSearchW {b W K B1 B2 : Nat} {s key : ByteArray} (w : World) (h : w.heap[b]? = some (tabObj W K s)) (hw : Wid W K s) (hm : MonoW K (rowsW W s) key)
    (h1 : w.heap[B1]? = some (.cells #[.pointer (some ⟨b, 0, none⟩)] 109 (0, 0))) (h2 : w.heap[B2]? = some (.cells #[.string key] 9 (0, 0))) :
    Calls Tryz.prog 164 #[.int .i64 ((s.size / W : Nat) : Int), .func (.func 165) #[] #[.pointer (some ⟨B1, 0, none⟩), .pointer (some ⟨B2, 0, none⟩)]] w
      fun e w' => e = .returned (.int .i64 (searchW K (rowsW W s) key : Int)) ∧ ∃ n, w' = w.drewN n := by
  have hn : s.size / W ≤ 1048576 := Nat.le_trans (Nat.div_le_self _ _) hw.sz
  have hL : searchW K (rowsW W s) key ≤ s.size / W := by have := searchW_le K (rowsW W s) key; rwa [rowsW_len] at this
  have Q := Lib.hid (fun i q (hi : i < s.size / W) => (asksW (w.drewN q) (key := key) h hw hi h1 h2).mono (R' := fun e w6 => e = .returned (.bool (decide (searchW K (rowsW W s) key ≤ i))) ∧ ∃ m, w6 = w.drewN m) fun e w6 ⟨p, m, hm'⟩ => ⟨by
    rw [p]
    have := hm i _ (rowsW_at hi)
    exact ret_boolW (by
      rw [Bool.eq_iff_iff, decide_eq_true_eq, ← this]
      cases ltW (keyW K (rowW W s i)) key <;> simp), q + m, by rw [hm', World.drewN_drewN]⟩)
  clear h hm h1 h2
  generalize searchW K (rowsW W s) key = v at *
  generalize s.size / W = n at *
  clear hw
  go_enter Tryz.func164, Tryz.ntmps164
  go_wp2
  go_loopw [5, 6] (fun x y wr => ∃ lo hi q : Nat, x = .int .i64 (lo : Int) ∧ y = .int .i64 (hi : Int) ∧ lo ≤ v ∧ v ≤ hi ∧ hi ≤ n ∧ wr = w.drewN q) (fun x y _ => (intOf y).toNat - (intOf x).toNat)
  case atStart => exact ⟨0, n, 0, rfl, rfl, Nat.zero_le _, hL, Nat.le_refl _, rfl⟩
  case round =>
    obtain ⟨lo, hi, q, rfl, rfl, h1, h2, h3, rfl⟩ := hrel
    by_cases hlt : lo < hi
    · have hlt' : (lo : Int) < (hi : Int) := by omega
      obtain ⟨m, hm⟩ : ∃ m, (lo + hi) / 2 = m := ⟨_, rfl⟩
      have hmi : ((lo : Int) + (hi : Int)) / 2 = (m : Int) := by omega
      have hml : lo ≤ m := by omega
      have hmh : m < hi := by omega
      have hx0 : (0 : Int) ≤ (m : Int) := by omega
      have hx1 : (m : Int) ≤ 1048576 := by omega
      have hx2 : (hi : Int) ≤ 1048576 := by omega
      by_cases hv : v ≤ m
      · have QM := Lib.hid (show Calls Tryz.prog 165 #[.int .i64 (m : Int), .pointer (some ⟨B1, 0, none⟩), .pointer (some ⟨B2, 0, none⟩)] (w.drewN q) fun e w6 => e = .returned (.bool true) ∧ ∃ m, w6 = w.drewN m by
          have := Q.out m q (by omega)
          rwa [decide_eq_true hv] at this)
        go_wp2_with (go_at_call 165; (with_reducible refine QM.out.mono ?_); rintro e w5 ⟨rfl, q5, rfl⟩)
        go_roundw
        case rel => exact ⟨lo, m, q5, rfl, rfl, h1, hv, by omega, rfl⟩
        case measure => simp [intOf]; omega
      · have QM := Lib.hid (show Calls Tryz.prog 165 #[.int .i64 (m : Int), .pointer (some ⟨B1, 0, none⟩), .pointer (some ⟨B2, 0, none⟩)] (w.drewN q) fun e w6 => e = .returned (.bool false) ∧ ∃ m, w6 = w.drewN m by
          have := Q.out m q (by omega)
          rwa [decide_eq_false hv] at this)
        go_wp2_with (go_at_call 165; (with_reducible refine QM.out.mono ?_); rintro e w5 ⟨rfl, q5, rfl⟩)
        go_roundw
        case rel => exact ⟨m + 1, hi, q5, by go_num, rfl, by omega, h2, h3, rfl⟩
        case measure => simp [intOf]; omega
    · obtain rfl : lo = v := by omega
      obtain rfl : lo = hi := by omega
      have hlt' : ¬ (lo : Int) < (lo : Int) := by omega
      go_wp2
      go_ret
      exact ⟨rfl, q, rfl⟩

set_option maxRecDepth 100000 in
theorem searchW_any {b W K : Nat} {s : ByteArray} (key : ByteArray) (w : World) (h : w.heap[b]? = some (tabObj W K s)) (hw : Wid W K s) (hm : MonoW K (rowsW W s) key) :
    Calls Tryz.prog 145 #[.pointer (some ⟨b, 0, none⟩), .string key] w fun e w' => e = .returned (.int .i64 (searchW K (rowsW W s) key : Int)) ∧ Below w.heap.size w w' := by
  obtain ⟨W0, hW0⟩ : ∃ W0, (w.alloc (.cells #[.pointer (some ⟨b, 0, none⟩)] 109)).alloc (.cells #[.string key] 9) = W0 := ⟨_, rfl⟩
  have hb0 : Below w.heap.size w W0 := by rw [← hW0]; exact ((Below.refl _ w).alloc (Nat.le_refl _) _).alloc (by simp) _
  have h1 : W0.heap[w.heap.size]? = some (.cells #[.pointer (some ⟨b, 0, none⟩)] 109 (0, 0)) := by
    rw [← hW0, Below.heap_alloc _ _ _ (by simp)]; exact World.alloc_heap_new w _
  have h2 : W0.heap[w.heap.size + 1]? = some (.cells #[.string key] 9 (0, 0)) := by
    rw [← hW0]
    have := World.alloc_heap_new (w.alloc (.cells #[.pointer (some ⟨b, 0, none⟩)] 109)) (.cells #[.string key] 9)
    rwa [World.size_alloc] at this
  have h0 := (hb0.block b (lt_of_block h)).trans h
  have d1 := cell_of_one h1
  have HL := Lib.hid (lenW_any W0 h0 hw.pos hw.w255 hw.sz)
  have HS := Lib.hid (fun q => sortSearchW (W0.drewN q) h0 hw hm h1 h2)
  have HB := Lib.hid hb0
  have hmf : ∀ (fn : Fn) (first cap : Array Value) (w : World), (Instr.makeFunc fn first cap).run Tryz.prog w = .ok (.func fn first cap) w := fun _ _ _ _ => rfl
  clear h hm hb0 h1 h2 h0
  generalize searchW K (rowsW W s) key = v at *
  generalize s.size / W = n at *
  clear hw
  go_enter Tryz.func145, Tryz.ntmps145
  go_wp2_with (first | (go_at_call 146; (with_reducible refine HL.out.mono ?_); rintro e w' ⟨rfl, q, rfl⟩) | (go_at_call 164; (with_reducible refine (HS.out _).mono ?_); rintro e w' ⟨rfl, q2, rfl⟩))
  go_ret
  exact ⟨rfl, below_drewN HB.out _⟩

theorem makeFW (fn : Fn) (first cap : Array Value) (w : World) : (Instr.makeFunc fn first cap).run Tryz.prog w = .ok (.func fn first cap) w := rfl
set_option maxRecDepth 100000 in
theorem prefix_make (t : Option Addr) (key : ByteArray) (w : World) :
    Calls Tryz.prog 129 #[.pointer t, .string key] w fun e w' => e = .returned (.func (.func 144) #[] #[.pointer (some ⟨w.heap.size, 0, none⟩), .pointer (some ⟨w.heap.size + 1, 0, none⟩)]) ∧ (w.alloc (.cells #[.pointer t] 109)).alloc (.cells #[.string key] 9) = w' := by
  have hmf := makeFW
  go_enter Tryz.func129, Tryz.ntmps129
  go_wp2
  go_ret
  exact ⟨rfl, rfl⟩

set_option maxRecDepth 100000 in
theorem hasPre_lite (r key : ByteArray) (w : World) : Calls Tryz.prog 166 #[.string r, .string key] w fun e w' => e = .returned (.bool (startsW r key)) ∧ w = w' := by
  by_cases hl : key.size ≤ r.size
  · have h1 : decide ((key.size : Int) ≤ (r.size : Int)) = true := by simpa using hl
    have h2 : (key.size : Int) ≤ (r.size : Int) := by omega
    have h3 : (0 : Int) ≤ (key.size : Int) := by omega
    have HE := Lib.hid (show ((r.extract 0 key.size).toList == key.toList) = startsW r key by rw [startsW_eq, Lib.toList_data, Lib.toList_data]; rfl)
    clear hl
    go_enter Tryz.func166, Tryz.ntmps166
    go_wp2
    go_ret
    exact ⟨ret_boolW HE.out, rfl⟩
  · have h1 : decide ((key.size : Int) ≤ (r.size : Int)) = false := by simpa using hl
    have h2 : ¬ (key.size : Int) ≤ (r.size : Int) := by omega
    have HE := Lib.hid (startsW_size (r := r) (key := key) (by omega))
    clear hl
    go_enter Tryz.func166, Tryz.ntmps166
    go_wp2
    go_ret
    exact ⟨ret_boolW HE.out.symm, rfl⟩
set_option maxRecDepth 100000 in
theorem hasPre_any (r key : ByteArray) (w : World) : Calls Tryz.prog 148 #[.string r, .string key] w fun e w' => e = .returned (.bool (startsW r key)) ∧ w = w' := by
  go_enter Tryz.func148, Tryz.ntmps148
  go_wp2_with (go_at_call 166; refine (hasPre_lite _ _ _).mono ?_; rintro e w' ⟨rfl, rfl⟩)
  go_ret
  exact ⟨rfl, rfl⟩
end Go.Proofs.YtbafmnafhaoggaaGreatDoor

/-! Package table: the rows of a beginning, told one by one. -/
namespace Go.Proofs.YtbafmnafhaoggaaGreatDoor
open Go Go.RowKit

attribute [local go_sem] Oper.semAt_some

/-- What the iterator looks at: the table, and its own two boxes. -/
structure SeqAt (b B1 B2 W K : Nat) (s key : ByteArray) (w : World) : Prop where
  tab : w.heap[b]? = some (tabObj W K s)
  b1 : w.heap[B1]? = some (.cells #[.pointer (some ⟨b, 0, none⟩)] 109 (0, 0))
  b2 : w.heap[B2]? = some (.cells #[.string key] 9 (0, 0))
theorem SeqAt.below {b B1 B2 W K : Nat} {s key : ByteArray} {w w' : World} (h : SeqAt b B1 B2 W K s key w) (hb : Below w.heap.size w w') : SeqAt b B1 B2 W K s key w' :=
  ⟨(hb.block _ (lt_of_block h.tab)).trans h.tab, (hb.block _ (lt_of_block h.b1)).trans h.b1, (hb.block _ (lt_of_block h.b2)).trans h.b2⟩
theorem SeqAt.keep {b B1 B2 W K hi : Nat} {s key : ByteArray} {q : Nat → Prop} {fr : Obj → Bool} {w w' : World} (h : SeqAt b B1 B2 W K s key w) (hb : KeepQ q hi fr w w') (hq : q b ∧ q B1 ∧ q B2) : SeqAt b B1 B2 W K s key w' :=
  ⟨hb.blk _ _ h.tab (.inl hq.1), hb.blk _ _ h.b1 (.inl hq.2.1), hb.blk _ _ h.b2 (.inl hq.2.2)⟩

set_option maxRecDepth 100000 in
set_option maxHeartbeats 1000000 in
theorem prefix_in (n l b B1 B2 W K hi : Nat) (q : Nat → Prop) (fr : Obj → Bool) (s key : ByteArray) (hw : Wid W K s) (hm : MonoW K (rowsW W s) key) (hq : q b ∧ q B1 ∧ q B2) (B0 : Nat) (J Jx : List (Nat × ByteArray) → World → Prop) (hJ : OwnFrom B0 J)
    (hY : ∀ pre (x : Nat × ByteArray) W1, J pre W1 → pre ++ [x] <+: prefixW K (rowsW W s) key → YieldAt Fence.wide (n - 1) Tryz.prog l #[.int .i64 x.1, .string x.2] W1 fun e W' =>
      (e = .returned (.bool true) ∧ J (pre ++ [x]) W' ∧ KeepQ q hi fr W1 W') ∨ (e = .returned (.bool false) ∧ Jx (pre ++ [x]) W' ∧ KeepQ q hi fr W1 W'))
    (w : World) (h : SeqAt b B1 B2 W K s key w) (h0 : J [] w) :
    CallsIn Fence.wide n Tryz.prog 144 #[.func (.yield l) #[] #[], .pointer (some ⟨B1, 0, none⟩), .pointer (some ⟨B2, 0, none⟩)] w fun e W' => (∃ v, e = .returned v) ∧
      ((∃ ys, ys = prefixW K (rowsW W s) key ∧ J ys W') ∨ (∃ pre, pre <+: prefixW K (rowsW W s) key ∧ Jx pre W')) := by
  refine callsIn_of_wp Tryz.func144 rfl trivial ?_ rfl
  simp only [Tryz.ntmps144, List.size_toArray, List.length_cons, List.length_nil, Nat.reduceAdd, Nat.reduceSub, Array.replicate_succ, Array.replicate_zero, List.push_toArray, List.append_toArray, List.nil_append, List.cons_append]
  have d1 := cell_of_one h.b1
  have d2 := cell_of_one h.b2
  have HS := Lib.hid (searchW_any key w h.tab hw hm)
  have HA := Lib.hid h
  clear h
  gi_wp2_with fail
  refine ⟨trivial, fun h => (by simp [Fence.wide] at h), (callsIn_wide.2 HS.out).mono ?_⟩
  rintro e w1 ⟨rfl, hb1⟩
  have HA1 := Lib.hid (HA.out.below hb1)
  have hJ1 : J [] w1 := hJ _ _ _ none h0 (grown_of_below hb1) (fun r e => by cases e)
  have hvl := searchW_le K (rowsW W s) key
  rw [rowsW_len] at hvl
  have hn : s.size / W ≤ 1048576 := Nat.le_trans (Nat.div_le_self _ _) hw.sz
  clear hb1 HS HA d1 d2 h0
  obtain ⟨v, hv⟩ : ∃ v, searchW K (rowsW W s) key = v := ⟨_, rfl⟩
  rw [hv] at hvl
  have HT := Lib.hid (fun k r (hr : (tookW K (rowsW W s) key)[k]? = some r) => show v + k < s.size / W ∧ r = rowW W s (v + k) ∧ startsW (keyW K r) key = true ∧ (prefixW K (rowsW W s) key)[k]? = some (v + k, r) from by
    have h1 := took_at hr
    rw [hv] at h1
    have h2 := rowsW_get h1.1
    have h3 := prefix_at hr
    rw [hv] at h3
    exact ⟨h2.1, h2.2, h1.2, h3⟩)
  have HE := Lib.hid (show v + (tookW K (rowsW W s) key).length = s.size / W ∨ ∃ r, v + (tookW K (rowsW W s) key).length < s.size / W ∧ r = rowW W s (v + (tookW K (rowsW W s) key).length) ∧ startsW (keyW K r) key = false from by
    have h1 := took_end K (rowsW W s) key
    rw [hv, rowsW_len] at h1
    rcases h1 with h1 | ⟨r, h1, h2⟩
    · exact .inl h1
    · have h3 := rowsW_get h1
      exact .inr ⟨r, h3.1, h3.2, h2⟩)
  have HN := Lib.hid (prefix_len K (rowsW W s) key)
  rw [hv]
  clear hm hv
  obtain ⟨PL, hPL⟩ : ∃ PL, prefixW K (rowsW W s) key = PL := ⟨_, rfl⟩
  rw [hPL] at hY HT HN
  have HPL := Lib.hid hPL
  clear hPL
  generalize tookW K (rowsW W s) key = T at *
  obtain ⟨nn, hnn⟩ : ∃ nn, s.size / W = nn := ⟨_, rfl⟩
  have HNN := Lib.hid hnn
  rw [hnn] at hvl hn HE HT
  clear hnn
  gi_wp2_with fail
  gi_loopw [4] (fun x wr => ∃ k j : Nat, x = .int .i64 (j : Int) ∧ Hid (j = v + k) ∧ k ≤ T.length ∧ Hid (SeqAt b B1 B2 W K s key wr) ∧ J (PL.take k) wr) (fun x _ => nn + 1 - (intOf x).toNat)
  case atStart => exact ⟨0, v, rfl, Lib.hid (by omega), Nat.zero_le _, HA1, by simpa using hJ1⟩
  case round =>
    obtain ⟨k, j, rfl, HJ, hk, HA, hJs⟩ := hrel
    have c1 := cell_of_one HA.out.b1
    have c2 := cell_of_one HA.out.b2
    obtain ⟨t0, t1, t2⟩ := tab_cells HA.out.tab
    have HL := Lib.hid (lenW_any wr HA.out.tab hw.pos hw.w255 hw.sz)
    rw [HNN.out] at HL
    by_cases hlt : k < T.length
    · obtain ⟨r, hr⟩ : ∃ r, T[k]? = some r := ⟨_, List.getElem?_eq_getElem hlt⟩
      obtain ⟨e1, e2, e3, e4⟩ := HT.out k r hr
      rw [← HJ.out] at e1 e2 e4
      have hrs : r.size = W := by rw [e2]; exact rowW_size (by rw [HNN.out]; exact e1)
      have HR := Lib.hid (fun q => rowW_in (K := K) (wr.drewN q) HA.out.tab hw.pos hw.w255 hw.sz (i := j) (by rw [HNN.out]; exact e1))
      rw [← e2] at HR
      have HP := Lib.hid (fun w5 => show Calls Tryz.prog 148 #[.string (r.extract 0 K), .string key] w5 fun e w' => e = .returned (.bool true) ∧ w5 = w' by
        have := hasPre_any (keyW K r) key w5
        rwa [e3] at this)
      have HSN := Lib.hid (show PL.take (k + 1) = PL.take k ++ [(j, r)] by rw [List.take_add_one, e4]; rfl)
      have j0 : (0 : Int) ≤ (j : Int) := by omega
      have j1 : (j : Int) < (nn : Int) := by omega
      have j2 : decide (j < nn) = true := decide_eq_true e1
      have k1 : (K : Int) ≤ (r.size : Int) := by have := hw.kW; omega
      have k0 : (0 : Int) ≤ (K : Int) := by omega
      clear e1 e2 e3 e4 hr hrs
      gi_wp2_with fail
      refine ⟨trivial, fun h => (by simp [Fence.wide] at h), (callsIn_wide.2 HL.out).mono ?_⟩
      rintro e w2 ⟨rfl, q1, rfl⟩
      gi_wp2_with fail
      refine ⟨trivial, fun h => (by simp [Fence.wide] at h), (callsIn_wide.2 (HR.out _)).mono ?_⟩
      rintro e w2 ⟨rfl, q2, rfl⟩
      gi_wp2_with fail
      have hJ2 : J (PL.take k) (wr.drewN (q1 + q2 + 1)) := hJ _ _ _ none hJs ⟨rfl, rfl, rfl, Nat.le_refl _, fun _ _ _ => rfl⟩ (fun r e => by cases e)
      obtain ⟨fn, tmps, assign, body, hy, hR⟩ := hY (PL.take k) (j, r) _ hJ2 (by rw [← HSN.out]; exact List.take_prefix _ _)
      have HRY := Lib.hid (hR.mono (R' := fun e W3 => ∃ z : Bool, e = .returned (.bool z) ∧ ((z = true → J (PL.take k ++ [(j, r)]) W3) ∧ (z = false → Jx (PL.take k ++ [(j, r)]) W3) ∧ KeepQ q hi fr (wr.drewN (q1 + q2 + 1)) W3)) (by
        rintro e W3 (⟨rfl, h1, h2⟩ | ⟨rfl, h1, h2⟩)
        · exact ⟨true, rfl, fun _ => h1, fun h => (by cases h), h2⟩
        · exact ⟨false, rfl, fun h => (by cases h), fun _ => h1, h2⟩))
      clear hR hJ2
      -- BEGIN hit
      refine wpIn_region_any (by kernel_rfl) ?_
      change wpAnyIn _ _ _ _ _ _ _ _ _ (World.drew _)
      refine wpAnyIn_take (i := 0) (v := .string r) rfl rfl (by kernel_rfl) (by kernel_rfl) (by kernel_rfl) (fun _ _ _ h => h) ⟨Or.inl ⟨by rfl, fun w => by go_simp⟩, fun _ => rfl⟩ ?_
      refine wpAnyIn_ready (rs := [1, 6]) (by kernel_rfl) (by simp) ?_
      refine AllReadyIn.cons rfl (fun K hK => ?_) (AllReadyIn.cons rfl (fun K hK => ?_) AllReadyIn.nil)
      · go_simp
        refine hK _ _ ?_
        clear hK K
        refine wpAnyIn_take (i := 2) (v := .pointer (some ⟨b, 0, none⟩)) rfl rfl (by kernel_rfl) (by kernel_rfl) (by kernel_rfl) (fun _ _ _ h => h) ⟨Or.inl ⟨by rfl, fun w => by go_simp⟩, fun _ => rfl⟩ ?_
        refine wpAnyIn_take (i := 3) (v := .pointer (some ⟨b, 1, none⟩)) rfl rfl (by kernel_rfl) (by kernel_rfl) (by kernel_rfl) (fun _ _ _ h => h) ⟨Or.inl ⟨by rfl, fun w => by go_simp⟩, fun _ => rfl⟩ ?_
        refine wpAnyIn_ready (rs := [4, 6]) (by kernel_rfl) (by simp) ?_
        refine AllReadyIn.cons rfl (fun K hK => ?_) (AllReadyIn.cons rfl (fun K hK => ?_) AllReadyIn.nil)
        · go_simp
          refine hK _ _ ?_
          clear hK K
          refine wpAnyIn_take (i := 5) (v := .string (r.extract 0 K)) rfl rfl (by kernel_rfl) (by kernel_rfl) (by kernel_rfl) (fun _ _ _ h => h) ⟨Or.inl ⟨by rfl, fun w => by go_simp⟩, fun _ => rfl⟩ ?_
          refine wpAnyIn_ready (rs := [6]) (by kernel_rfl) (by simp) ?_
          refine AllReadyIn.cons rfl (fun K hK => ?_) AllReadyIn.nil
          go_simp
          refine hK _ _ ?_
          clear hK K
          refine wpAnyIn_ready (rs := [7]) (by kernel_rfl) (by simp) ?_
          refine AllReadyIn.cons rfl (fun K hK => ?_) AllReadyIn.nil
          go_simp
          refine ⟨trivial, fun h => (by simp [Fence.wide] at h), (callsIn_wide.2 (HP.out _)).mono ?_⟩
          rintro e w5 ⟨rfl, rfl⟩
          refine hK _ _ ?_
          clear hK K
          refine wpAnyIn_take (i := 8) (v := .bool false) rfl rfl (by kernel_rfl) (by kernel_rfl) (by kernel_rfl) (fun _ _ _ h => h) ⟨Or.inl ⟨by rfl, fun w => by go_simp⟩, fun _ => rfl⟩ ?_
          refine wpAnyIn_take (i := 9) (v := .bool false) rfl rfl (by kernel_rfl) (by kernel_rfl) (by kernel_rfl) (fun _ _ _ h => h) ⟨Or.inl ⟨by rfl, fun w => by go_simp⟩, fun _ => rfl⟩ ?_
          refine wpAnyIn_take (i := 10) (v := .func (.yield l) #[] #[]) rfl rfl (by kernel_rfl) (by kernel_rfl) (by kernel_rfl) (fun _ _ _ h => h) ⟨Or.inl ⟨by rfl, fun w => by go_simp⟩, fun _ => rfl⟩ ?_
          refine wpAnyIn_take (i := 11) (v := .int .i64 (j : Int)) rfl rfl (by kernel_rfl) (by kernel_rfl) (by kernel_rfl) (fun _ _ _ h => h) ⟨Or.inl ⟨by rfl, fun w => by go_simp⟩, fun _ => rfl⟩ ?_
          refine wpAnyIn_take (i := 12) (v := .string r) rfl rfl (by kernel_rfl) (by kernel_rfl) (by kernel_rfl) (fun _ _ _ h => h) ⟨Or.inl ⟨by rfl, fun w => by go_simp⟩, fun _ => rfl⟩ ?_
          refine wpAnyIn_ready (rs := [13]) (by kernel_rfl) (by simp) ?_
          refine AllReadyIn.cons rfl (fun K hK => ?_) AllReadyIn.nil
          go_simp
          refine ⟨fun h => (by simp [Fence.wide] at h), ?_⟩
          refine HRY.out.mono ?_
          rintro e W3 ⟨z, rfl, hz⟩
          refine hK _ _ ?_
          clear hK K
          refine wpAnyIn_ready (rs := [14]) (by kernel_rfl) (by simp) ?_
          refine AllReadyIn.cons rfl (fun K hK => ?_) AllReadyIn.nil
          go_simp
          refine hK _ _ ?_
          clear hK K
          refine wpAnyIn_ready (rs := [15]) (by kernel_rfl) (by simp) ?_
          refine AllReadyIn.cons rfl (fun K hK => ?_) AllReadyIn.nil
          go_simp
          refine hK _ _ ?_
          clear hK K
          refine wpAnyIn_done (by kernel_rfl) ?_ _
          cases z
          · have hx := hz.2.1 rfl
            gi_wp2_with fail
            refine bodyPost_ret (results_none rfl _ _ _) rfl ?_
            exact ⟨⟨_, rfl⟩, .inr ⟨_, by rw [HPL.out, ← HSN.out]; exact List.take_prefix _ _, hx⟩⟩
          · have hx := hz.1 rfl
            have HA3 := Lib.hid ((HA.out.below (below_drewN (Below.refl _ wr) _)).keep hz.2.2 hq)
            clear hz
            gi_wp2_with fail
            go_roundw
            case rel => exact ⟨k + 1, j + 1, by go_num, Lib.hid (by rw [HJ.out]; omega), by omega, HA3, by rw [HSN.out]; exact hx⟩
            case measure => simp [intOf]; omega
        · go_simp
          refine hK _ _ ?_
          clear hK K
          refine wpAnyIn_ready (rs := [4]) (by kernel_rfl) (by simp) ?_
          refine AllReadyIn.cons rfl (fun K hK => ?_) AllReadyIn.nil
          go_simp
          refine hK _ _ ?_
          clear hK K
          refine wpAnyIn_take (i := 5) (v := .string (r.extract 0 K)) rfl rfl (by kernel_rfl) (by kernel_rfl) (by kernel_rfl) (fun _ _ _ h => h) ⟨Or.inl ⟨by rfl, fun w => by go_simp⟩, fun _ => rfl⟩ ?_
          refine wpAnyIn_ready (rs := [7]) (by kernel_rfl) (by simp) ?_
          refine AllReadyIn.cons rfl (fun K hK => ?_) AllReadyIn.nil
          go_simp
          refine ⟨trivial, fun h => (by simp [Fence.wide] at h), (callsIn_wide.2 (HP.out _)).mono ?_⟩
          rintro e w5 ⟨rfl, rfl⟩
          refine hK _ _ ?_
          clear hK K
          refine wpAnyIn_take (i := 8) (v := .bool false) rfl rfl (by kernel_rfl) (by kernel_rfl) (by kernel_rfl) (fun _ _ _ h => h) ⟨Or.inl ⟨by rfl, fun w => by go_simp⟩, fun _ => rfl⟩ ?_
          refine wpAnyIn_take (i := 9) (v := .bool false) rfl rfl (by kernel_rfl) (by kernel_rfl) (by kernel_rfl) (fun _ _ _ h => h) ⟨Or.inl ⟨by rfl, fun w => by go_simp⟩, fun _ => rfl⟩ ?_
          refine wpAnyIn_take (i := 10) (v := .func (.yield l) #[] #[]) rfl rfl (by kernel_rfl) (by kernel_rfl) (by kernel_rfl) (fun _ _ _ h => h) ⟨Or.inl ⟨by rfl, fun w => by go_simp⟩, fun _ => rfl⟩ ?_
          refine wpAnyIn_take (i := 11) (v := .int .i64 (j : Int)) rfl rfl (by kernel_rfl) (by kernel_rfl) (by kernel_rfl) (fun _ _ _ h => h) ⟨Or.inl ⟨by rfl, fun w => by go_simp⟩, fun _ => rfl⟩ ?_
          refine wpAnyIn_take (i := 12) (v := .string r) rfl rfl (by kernel_rfl) (by kernel_rfl) (by kernel_rfl) (fun _ _ _ h => h) ⟨Or.inl ⟨by rfl, fun w => by go_simp⟩, fun _ => rfl⟩ ?_
          refine wpAnyIn_ready (rs := [13]) (by kernel_rfl) (by simp) ?_
          refine AllReadyIn.cons rfl (fun K hK => ?_) AllReadyIn.nil
          go_simp
          refine ⟨fun h => (by simp [Fence.wide] at h), ?_⟩
          refine HRY.out.mono ?_
          rintro e W3 ⟨z, rfl, hz⟩
          refine hK _ _ ?_
          clear hK K
          refine wpAnyIn_ready (rs := [14]) (by kernel_rfl) (by simp) ?_
          refine AllReadyIn.cons rfl (fun K hK => ?_) AllReadyIn.nil
          go_simp
          refine hK _ _ ?_
          clear hK K
          refine wpAnyIn_ready (rs := [15]) (by kernel_rfl) (by simp) ?_
          refine AllReadyIn.cons rfl (fun K hK => ?_) AllReadyIn.nil
          go_simp
          refine hK _ _ ?_
          clear hK K
          refine wpAnyIn_done (by kernel_rfl) ?_ _
          cases z
          · have hx := hz.2.1 rfl
            gi_wp2_with fail
            refine bodyPost_ret (results_none rfl _ _ _) rfl ?_
            exact ⟨⟨_, rfl⟩, .inr ⟨_, by rw [HPL.out, ← HSN.out]; exact List.take_prefix _ _, hx⟩⟩
          · have hx := hz.1 rfl
            have HA3 := Lib.hid ((HA.out.below (below_drewN (Below.refl _ wr) _)).keep hz.2.2 hq)
            clear hz
            gi_wp2_with fail
            go_roundw
            case rel => exact ⟨k + 1, j + 1, by go_num, Lib.hid (by rw [HJ.out]; omega), by omega, HA3, by rw [HSN.out]; exact hx⟩
            case measure => simp [intOf]; omega
      · go_simp
        refine hK _ _ ?_
        clear hK K
        refine wpAnyIn_ready (rs := [1]) (by kernel_rfl) (by simp) ?_
        refine AllReadyIn.cons rfl (fun K hK => ?_) AllReadyIn.nil
        go_simp
        refine hK _ _ ?_
        clear hK K
        refine wpAnyIn_take (i := 2) (v := .pointer (some ⟨b, 0, none⟩)) rfl rfl (by kernel_rfl) (by kernel_rfl) (by kernel_rfl) (fun _ _ _ h => h) ⟨Or.inl ⟨by rfl, fun w => by go_simp⟩, fun _ => rfl⟩ ?_
        refine wpAnyIn_take (i := 3) (v := .pointer (some ⟨b, 1, none⟩)) rfl rfl (by kernel_rfl) (by kernel_rfl) (by kernel_rfl) (fun _ _ _ h => h) ⟨Or.inl ⟨by rfl, fun w => by go_simp⟩, fun _ => rfl⟩ ?_
        refine wpAnyIn_ready (rs := [4]) (by kernel_rfl) (by simp) ?_
        refine AllReadyIn.cons rfl (fun K hK => ?_) AllReadyIn.nil
        go_simp
        refine hK _ _ ?_
        clear hK K
        refine wpAnyIn_take (i := 5) (v := .string (r.extract 0 K)) rfl rfl (by kernel_rfl) (by kernel_rfl) (by kernel_rfl) (fun _ _ _ h => h) ⟨Or.inl ⟨by rfl, fun w => by go_simp⟩, fun _ => rfl⟩ ?_
        refine wpAnyIn_ready (rs := [7]) (by kernel_rfl) (by simp) ?_
        refine AllReadyIn.cons rfl (fun K hK => ?_) AllReadyIn.nil
        go_simp
        refine ⟨trivial, fun h => (by simp [Fence.wide] at h), (callsIn_wide.2 (HP.out _)).mono ?_⟩
        rintro e w5 ⟨rfl, rfl⟩
        refine hK _ _ ?_
        clear hK K
        refine wpAnyIn_take (i := 8) (v := .bool false) rfl rfl (by kernel_rfl) (by kernel_rfl) (by kernel_rfl) (fun _ _ _ h => h) ⟨Or.inl ⟨by rfl, fun w => by go_simp⟩, fun _ => rfl⟩ ?_
        refine wpAnyIn_take (i := 9) (v := .bool false) rfl rfl (by kernel_rfl) (by kernel_rfl) (by kernel_rfl) (fun _ _ _ h => h) ⟨Or.inl ⟨by rfl, fun w => by go_simp⟩, fun _ => rfl⟩ ?_
        refine wpAnyIn_take (i := 10) (v := .func (.yield l) #[] #[]) rfl rfl (by kernel_rfl) (by kernel_rfl) (by kernel_rfl) (fun _ _ _ h => h) ⟨Or.inl ⟨by rfl, fun w => by go_simp⟩, fun _ => rfl⟩ ?_
        refine wpAnyIn_take (i := 11) (v := .int .i64 (j : Int)) rfl rfl (by kernel_rfl) (by kernel_rfl) (by kernel_rfl) (fun _ _ _ h => h) ⟨Or.inl ⟨by rfl, fun w => by go_simp⟩, fun _ => rfl⟩ ?_
        refine wpAnyIn_take (i := 12) (v := .string r) rfl rfl (by kernel_rfl) (by kernel_rfl) (by kernel_rfl) (fun _ _ _ h => h) ⟨Or.inl ⟨by rfl, fun w => by go_simp⟩, fun _ => rfl⟩ ?_
        refine wpAnyIn_ready (rs := [13]) (by kernel_rfl) (by simp) ?_
        refine AllReadyIn.cons rfl (fun K hK => ?_) AllReadyIn.nil
        go_simp
        refine ⟨fun h => (by simp [Fence.wide] at h), ?_⟩
        refine HRY.out.mono ?_
        rintro e W3 ⟨z, rfl, hz⟩
        refine hK _ _ ?_
        clear hK K
        refine wpAnyIn_ready (rs := [14]) (by kernel_rfl) (by simp) ?_
        refine AllReadyIn.cons rfl (fun K hK => ?_) AllReadyIn.nil
        go_simp
        refine hK _ _ ?_
        clear hK K
        refine wpAnyIn_ready (rs := [15]) (by kernel_rfl) (by simp) ?_
        refine AllReadyIn.cons rfl (fun K hK => ?_) AllReadyIn.nil
        go_simp
        refine hK _ _ ?_
        clear hK K
        refine wpAnyIn_done (by kernel_rfl) ?_ _
        cases z
        · have hx := hz.2.1 rfl
          gi_wp2_with fail
          refine bodyPost_ret (results_none rfl _ _ _) rfl ?_
          exact ⟨⟨_, rfl⟩, .inr ⟨_, by rw [HPL.out, ← HSN.out]; exact List.take_prefix _ _, hx⟩⟩
        · have hx := hz.1 rfl
          have HA3 := Lib.hid ((HA.out.below (below_drewN (Below.refl _ wr) _)).keep hz.2.2 hq)
          clear hz
          gi_wp2_with fail
          go_roundw
          case rel => exact ⟨k + 1, j + 1, by go_num, Lib.hid (by rw [HJ.out]; omega), by omega, HA3, by rw [HSN.out]; exact hx⟩
          case measure => simp [intOf]; omega
      -- END hit
    · obtain rfl : k = T.length := by omega
      have HLAST := Lib.hid (fun q' => hJ _ _ (wr.drewN q') none hJs ⟨rfl, rfl, rfl, Nat.le_refl _, fun _ _ _ => rfl⟩ (fun r e => by cases e))
      rw [List.take_of_length_le (by rw [HN.out]; exact Nat.le_refl _), ← HPL.out] at HLAST
      rcases HE.out with he | ⟨r, e1, e2, e3⟩
      · have j1 : ¬ (j : Int) < (nn : Int) := by have := HJ.out; omega
        have j2 : decide (j < nn) = false := decide_eq_false (by have := HJ.out; omega)
        clear hJs he
        gi_wp2_with fail
        refine ⟨trivial, fun h => (by simp [Fence.wide] at h), (callsIn_wide.2 HL.out).mono ?_⟩
        rintro e w2 ⟨rfl, q1, rfl⟩
        gi_wp2
        go_end0
        exact ⟨⟨_, rfl⟩, .inl ⟨_, rfl, HLAST.out _⟩⟩
      · rw [← HJ.out] at e1 e2
        have hrs : r.size = W := by rw [e2]; exact rowW_size (by rw [HNN.out]; exact e1)
        have HR := Lib.hid (fun q => rowW_in (K := K) (wr.drewN q) HA.out.tab hw.pos hw.w255 hw.sz (i := j) (by rw [HNN.out]; exact e1))
        rw [← e2] at HR
        have HP := Lib.hid (fun w5 => show Calls Tryz.prog 148 #[.string (r.extract 0 K), .string key] w5 fun e w' => e = .returned (.bool false) ∧ w5 = w' by
          have := hasPre_any (keyW K r) key w5
          rwa [e3] at this)
        have j0 : (0 : Int) ≤ (j : Int) := by omega
        have j1 : (j : Int) < (nn : Int) := by omega
        have j2 : decide (j < nn) = true := decide_eq_true e1
        have k1 : (K : Int) ≤ (r.size : Int) := by have := hw.kW; omega
        have k0 : (0 : Int) ≤ (K : Int) := by omega
        clear e1 e2 e3 hrs hJs
        gi_wp2_with fail
        refine ⟨trivial, fun h => (by simp [Fence.wide] at h), (callsIn_wide.2 HL.out).mono ?_⟩
        rintro e w2 ⟨rfl, q1, rfl⟩
        gi_wp2_with fail
        refine ⟨trivial, fun h => (by simp [Fence.wide] at h), (callsIn_wide.2 (HR.out _)).mono ?_⟩
        rintro e w2 ⟨rfl, q2, rfl⟩
        gi_wp2_with fail
        -- BEGIN miss
        refine wpIn_region_any (by kernel_rfl) ?_
        change wpAnyIn _ _ _ _ _ _ _ _ _ (World.drew _)
        refine wpAnyIn_take (i := 0) (v := .string r) rfl rfl (by kernel_rfl) (by kernel_rfl) (by kernel_rfl) (fun _ _ _ h => h) ⟨Or.inl ⟨by rfl, fun w => by go_simp⟩, fun _ => rfl⟩ ?_
        refine wpAnyIn_ready (rs := [1, 6]) (by kernel_rfl) (by simp) ?_
        refine AllReadyIn.cons rfl (fun K hK => ?_) (AllReadyIn.cons rfl (fun K hK => ?_) AllReadyIn.nil)
        · go_simp
          refine hK _ _ ?_
          clear hK K
          refine wpAnyIn_take (i := 2) (v := .pointer (some ⟨b, 0, none⟩)) rfl rfl (by kernel_rfl) (by kernel_rfl) (by kernel_rfl) (fun _ _ _ h => h) ⟨Or.inl ⟨by rfl, fun w => by go_simp⟩, fun _ => rfl⟩ ?_
          refine wpAnyIn_take (i := 3) (v := .pointer (some ⟨b, 1, none⟩)) rfl rfl (by kernel_rfl) (by kernel_rfl) (by kernel_rfl) (fun _ _ _ h => h) ⟨Or.inl ⟨by rfl, fun w => by go_simp⟩, fun _ => rfl⟩ ?_
          refine wpAnyIn_ready (rs := [4, 6]) (by kernel_rfl) (by simp) ?_
          refine AllReadyIn.cons rfl (fun K hK => ?_) (AllReadyIn.cons rfl (fun K hK => ?_) AllReadyIn.nil)
          · go_simp
            refine hK _ _ ?_
            clear hK K
            refine wpAnyIn_take (i := 5) (v := .string (r.extract 0 K)) rfl rfl (by kernel_rfl) (by kernel_rfl) (by kernel_rfl) (fun _ _ _ h => h) ⟨Or.inl ⟨by rfl, fun w => by go_simp⟩, fun _ => rfl⟩ ?_
            refine wpAnyIn_ready (rs := [6]) (by kernel_rfl) (by simp) ?_
            refine AllReadyIn.cons rfl (fun K hK => ?_) AllReadyIn.nil
            go_simp
            refine hK _ _ ?_
            clear hK K
            refine wpAnyIn_ready (rs := [7]) (by kernel_rfl) (by simp) ?_
            refine AllReadyIn.cons rfl (fun K hK => ?_) AllReadyIn.nil
            go_simp
            refine ⟨trivial, fun h => (by simp [Fence.wide] at h), (callsIn_wide.2 (HP.out _)).mono ?_⟩
            rintro e w5 ⟨rfl, rfl⟩
            refine hK _ _ ?_
            clear hK K
            refine wpAnyIn_take (i := 8) (v := .bool true) rfl rfl (by kernel_rfl) (by kernel_rfl) (by kernel_rfl) (fun _ _ _ h => h) ⟨Or.inl ⟨by rfl, fun w => by go_simp⟩, fun _ => rfl⟩ ?_
            refine wpAnyIn_take (i := 9) (v := .bool true) rfl rfl (by kernel_rfl) (by kernel_rfl) (by kernel_rfl) (fun _ _ _ h => h) ⟨Or.inl ⟨by rfl, fun w => by go_simp⟩, fun _ => rfl⟩ ?_
            refine wpAnyIn_take (i := 10) (v := undef) rfl rfl (by kernel_rfl) (by kernel_rfl) (by kernel_rfl) (fun _ _ _ h => h) ⟨Or.inr ⟨by rfl, rfl⟩, fun _ => rfl⟩ ?_
            refine wpAnyIn_take (i := 11) (v := undef) rfl rfl (by kernel_rfl) (by kernel_rfl) (by kernel_rfl) (fun _ _ _ h => h) ⟨Or.inr ⟨by rfl, rfl⟩, fun _ => rfl⟩ ?_
            refine wpAnyIn_take (i := 12) (v := undef) rfl rfl (by kernel_rfl) (by kernel_rfl) (by kernel_rfl) (fun _ _ _ h => h) ⟨Or.inr ⟨by rfl, rfl⟩, fun _ => rfl⟩ ?_
            refine wpAnyIn_ready (rs := [13]) (by kernel_rfl) (by simp) ?_
            refine AllReadyIn.cons rfl (fun K hK => ?_) AllReadyIn.nil
            go_simp
            first | refine hK _ _ ?_ | refine ⟨fun _ _ => trivial, hK _ _ ?_⟩
            clear hK K
            refine wpAnyIn_take (i := 14) (v := undef) rfl rfl (by kernel_rfl) (by kernel_rfl) (by kernel_rfl) (fun _ _ _ h => h) ⟨Or.inr ⟨by rfl, rfl⟩, fun _ => rfl⟩ ?_
            refine wpAnyIn_ready (rs := [15]) (by kernel_rfl) (by simp) ?_
            refine AllReadyIn.cons rfl (fun K hK => ?_) AllReadyIn.nil
            go_simp
            refine hK _ _ ?_
            clear hK K
            refine wpAnyIn_done (by kernel_rfl) ?_ _
            gi_wp2_with fail
            refine bodyPost_ret (results_none rfl _ _ _) rfl ?_
            exact ⟨⟨_, rfl⟩, .inl ⟨_, rfl, HLAST.out _⟩⟩
          · go_simp
            refine hK _ _ ?_
            clear hK K
            refine wpAnyIn_ready (rs := [4]) (by kernel_rfl) (by simp) ?_
            refine AllReadyIn.cons rfl (fun K hK => ?_) AllReadyIn.nil
            go_simp
            refine hK _ _ ?_
            clear hK K
            refine wpAnyIn_take (i := 5) (v := .string (r.extract 0 K)) rfl rfl (by kernel_rfl) (by kernel_rfl) (by kernel_rfl) (fun _ _ _ h => h) ⟨Or.inl ⟨by rfl, fun w => by go_simp⟩, fun _ => rfl⟩ ?_
            refine wpAnyIn_ready (rs := [7]) (by kernel_rfl) (by simp) ?_
            refine AllReadyIn.cons rfl (fun K hK => ?_) AllReadyIn.nil
            go_simp
            refine ⟨trivial, fun h => (by simp [Fence.wide] at h), (callsIn_wide.2 (HP.out _)).mono ?_⟩
            rintro e w5 ⟨rfl, rfl⟩
            refine hK _ _ ?_
            clear hK K
            refine wpAnyIn_take (i := 8) (v := .bool true) rfl rfl (by kernel_rfl) (by kernel_rfl) (by kernel_rfl) (fun _ _ _ h => h) ⟨Or.inl ⟨by rfl, fun w => by go_simp⟩, fun _ => rfl⟩ ?_
            refine wpAnyIn_take (i := 9) (v := .bool true) rfl rfl (by kernel_rfl) (by kernel_rfl) (by kernel_rfl) (fun _ _ _ h => h) ⟨Or.inl ⟨by rfl, fun w => by go_simp⟩, fun _ => rfl⟩ ?_
            refine wpAnyIn_take (i := 10) (v := undef) rfl rfl (by kernel_rfl) (by kernel_rfl) (by kernel_rfl) (fun _ _ _ h => h) ⟨Or.inr ⟨by rfl, rfl⟩, fun _ => rfl⟩ ?_
            refine wpAnyIn_take (i := 11) (v := undef) rfl rfl (by kernel_rfl) (by kernel_rfl) (by kernel_rfl) (fun _ _ _ h => h) ⟨Or.inr ⟨by rfl, rfl⟩, fun _ => rfl⟩ ?_
            refine wpAnyIn_take (i := 12) (v := undef) rfl rfl (by kernel_rfl) (by kernel_rfl) (by kernel_rfl) (fun _ _ _ h => h) ⟨Or.inr ⟨by rfl, rfl⟩, fun _ => rfl⟩ ?_
            refine wpAnyIn_ready (rs := [13]) (by kernel_rfl) (by simp) ?_
            refine AllReadyIn.cons rfl (fun K hK => ?_) AllReadyIn.nil
            go_simp
            first | refine hK _ _ ?_ | refine ⟨fun _ _ => trivial, hK _ _ ?_⟩
            clear hK K
            refine wpAnyIn_take (i := 14) (v := undef) rfl rfl (by kernel_rfl) (by kernel_rfl) (by kernel_rfl) (fun _ _ _ h => h) ⟨Or.inr ⟨by rfl, rfl⟩, fun _ => rfl⟩ ?_
            refine wpAnyIn_ready (rs := [15]) (by kernel_rfl) (by simp) ?_
            refine AllReadyIn.cons rfl (fun K hK => ?_) AllReadyIn.nil
            go_simp
            refine hK _ _ ?_
            clear hK K
            refine wpAnyIn_done (by kernel_rfl) ?_ _
            gi_wp2_with fail
            refine bodyPost_ret (results_none rfl _ _ _) rfl ?_
            exact ⟨⟨_, rfl⟩, .inl ⟨_, rfl, HLAST.out _⟩⟩
        · go_simp
          refine hK _ _ ?_
          clear hK K
          refine wpAnyIn_ready (rs := [1]) (by kernel_rfl) (by simp) ?_
          refine AllReadyIn.cons rfl (fun K hK => ?_) AllReadyIn.nil
          go_simp
          refine hK _ _ ?_
          clear hK K
          refine wpAnyIn_take (i := 2) (v := .pointer (some ⟨b, 0, none⟩)) rfl rfl (by kernel_rfl) (by kernel_rfl) (by kernel_rfl) (fun _ _ _ h => h) ⟨Or.inl ⟨by rfl, fun w => by go_simp⟩, fun _ => rfl⟩ ?_
          refine wpAnyIn_take (i := 3) (v := .pointer (some ⟨b, 1, none⟩)) rfl rfl (by kernel_rfl) (by kernel_rfl) (by kernel_rfl) (fun _ _ _ h => h) ⟨Or.inl ⟨by rfl, fun w => by go_simp⟩, fun _ => rfl⟩ ?_
          refine wpAnyIn_ready (rs := [4]) (by kernel_rfl) (by simp) ?_
          refine AllReadyIn.cons rfl (fun K hK => ?_) AllReadyIn.nil
          go_simp
          refine hK _ _ ?_
          clear hK K
          refine wpAnyIn_take (i := 5) (v := .string (r.extract 0 K)) rfl rfl (by kernel_rfl) (by kernel_rfl) (by kernel_rfl) (fun _ _ _ h => h) ⟨Or.inl ⟨by rfl, fun w => by go_simp⟩, fun _ => rfl⟩ ?_
          refine wpAnyIn_ready (rs := [7]) (by kernel_rfl) (by simp) ?_
          refine AllReadyIn.cons rfl (fun K hK => ?_) AllReadyIn.nil
          go_simp
          refine ⟨trivial, fun h => (by simp [Fence.wide] at h), (callsIn_wide.2 (HP.out _)).mono ?_⟩
          rintro e w5 ⟨rfl, rfl⟩
          refine hK _ _ ?_
          clear hK K
          refine wpAnyIn_take (i := 8) (v := .bool true) rfl rfl (by kernel_rfl) (by kernel_rfl) (by kernel_rfl) (fun _ _ _ h => h) ⟨Or.inl ⟨by rfl, fun w => by go_simp⟩, fun _ => rfl⟩ ?_
          refine wpAnyIn_take (i := 9) (v := .bool true) rfl rfl (by kernel_rfl) (by kernel_rfl) (by kernel_rfl) (fun _ _ _ h => h) ⟨Or.inl ⟨by rfl, fun w => by go_simp⟩, fun _ => rfl⟩ ?_
          refine wpAnyIn_take (i := 10) (v := undef) rfl rfl (by kernel_rfl) (by kernel_rfl) (by kernel_rfl) (fun _ _ _ h => h) ⟨Or.inr ⟨by rfl, rfl⟩, fun _ => rfl⟩ ?_
          refine wpAnyIn_take (i := 11) (v := undef) rfl rfl (by kernel_rfl) (by kernel_rfl) (by kernel_rfl) (fun _ _ _ h => h) ⟨Or.inr ⟨by rfl, rfl⟩, fun _ => rfl⟩ ?_
          refine wpAnyIn_take (i := 12) (v := undef) rfl rfl (by kernel_rfl) (by kernel_rfl) (by kernel_rfl) (fun _ _ _ h => h) ⟨Or.inr ⟨by rfl, rfl⟩, fun _ => rfl⟩ ?_
          refine wpAnyIn_ready (rs := [13]) (by kernel_rfl) (by simp) ?_
          refine AllReadyIn.cons rfl (fun K hK => ?_) AllReadyIn.nil
          go_simp
          first | refine hK _ _ ?_ | refine ⟨fun _ _ => trivial, hK _ _ ?_⟩
          clear hK K
          refine wpAnyIn_take (i := 14) (v := undef) rfl rfl (by kernel_rfl) (by kernel_rfl) (by kernel_rfl) (fun _ _ _ h => h) ⟨Or.inr ⟨by rfl, rfl⟩, fun _ => rfl⟩ ?_
          refine wpAnyIn_ready (rs := [15]) (by kernel_rfl) (by simp) ?_
          refine AllReadyIn.cons rfl (fun K hK => ?_) AllReadyIn.nil
          go_simp
          refine hK _ _ ?_
          clear hK K
          refine wpAnyIn_done (by kernel_rfl) ?_ _
          gi_wp2_with fail
          refine bodyPost_ret (results_none rfl _ _ _) rfl ?_
          exact ⟨⟨_, rfl⟩, .inl ⟨_, rfl, HLAST.out _⟩⟩
        -- END miss

theorem prefix_seq {fr : Obj → Bool} {b B1 B2 W K : Nat} {s key : ByteArray} {w : World} {q : Nat → Prop} (hw : Wid W K s) (hm : MonoW K (rowsW W s) key) (hq : q b ∧ q B1 ∧ q B2) (h : SeqAt b B1 B2 W K s key w) :
    SeqQ Tryz.prog 144 #[.pointer (some ⟨B1, 0, none⟩), .pointer (some ⟨B2, 0, none⟩)] (fun x : Nat × ByteArray => #[.int .i64 x.1, .string x.2]) q fr (fun ys => ys = prefixW K (rowsW W s) key) (fun pre => pre <+: prefixW K (rowsW W s) key) w := fun n l J Jx W' hW hJ _ hY h0 =>
  prefix_in n l b B1 B2 W K W'.heap.size q fr s key hw hm hq _ J Jx hJ hY W' (h.below hW) h0
end Go.Proofs.YtbafmnafhaoggaaGreatDoor

/-! A region in a round, without a defer: as in no round. No program is named here. -/
namespace Go.Proofs.YtbafmnafhaoggaaGreatDoor
open Go Go.RowKit

/-! A region in a round, without a defer: as in no round. -/
def noDefer (o : Oper) : Bool := match o.op with
  | .defer _ => false
  | _ => true
theorem wpIn_round {n l : Nat} {P : Program} {o : Oper} {a : Act} {w : World} {K : Act → World → Prop} {Q : Exit → Act → World → Prop} (hnd : noDefer o = true) (h : o.wpIn Fence.wide n P a w K Q) : o.wpIn (Fence.wide.inRound l) n P a w K Q := by
  have hd : ∀ c, o.op ≠ .defer c := fun c e => by unfold noDefer at hnd; rw [e] at hnd; cases hnd
  refine ⟨fun _ _ => trivial, ?_⟩
  have h2 := h.2
  rw [Oper.semAt_eq _ _ _ hd] at h2 ⊢
  generalize (execOp a.eval o).run P w = r at *
  cases r with
  | ok x w' => cases x <;> exact h2
  | halt x w' => exact h2
theorem wpAnyIn_round {n l : Nat} {P : Program} {md : Region.Mode} {ops : Array Oper} {Q : Exit → Act → World → Prop} (hnd : ops.toList.all noDefer = true) : ∀ (fuel : Nat) (listed : Array Bool) (a : Act) (w : World), wpAnyIn Fence.wide n P md ops Q fuel listed a w → wpAnyIn (Fence.wide.inRound l) n P md ops Q fuel listed a w
  | 0, _, _, _, h => h
  | fuel + 1, listed, a, w, h => by
    refine ⟨h.1, fun i hi => ?_⟩
    have h1 := h.2 i hi
    unfold wpOpIn at h1 ⊢
    cases ho : ops[i]? with
    | none =>
      simp only [ho] at h1 ⊢
      exact wpAnyIn_round hnd fuel _ _ _ h1
    | some o =>
      simp only [ho] at h1 ⊢
      have hm : o ∈ ops.toList := by
        rw [← Array.getElem?_toList] at ho
        exact List.mem_of_getElem? ho
      split
      · rename_i hw
        rw [if_pos hw] at h1
        exact wpIn_round ((List.all_eq_true.1 hnd) o hm) (Oper.wpIn_mono (fun a' w' h' => wpAnyIn_round hnd fuel _ a' w' h') h1)
      · rename_i hw
        rw [if_neg hw] at h1
        exact ⟨fun _ _ => trivial, wpAnyIn_round hnd fuel _ _ _ h1.2⟩
end Go.Proofs.YtbafmnafhaoggaaGreatDoor

/-! A region that only reads, in whatever order, inside a round of a range over a function. No program is named here. -/
namespace Go.Proofs.YtbafmnafhaoggaaGreatDoor
open Go Go.RowKit

theorem wpIn_region_quiet_round {n l id : Nat} {P : Program} {Q : Exit → Act → World → Prop} {a : Act} {w : World} {ops : List Oper} (hm : P.follows .mixedOrders = true) (hnd : ops.all noDefer = true) (hB : Region.lexB .any ops.toArray = true)
    (h : wpQuietIn Fence.wide n P ops.toArray (fun w' => ∃ n, w' = w.drewN n) (fun a' => ∀ w', (∃ n, w' = w.drewN n) → Q .normal a' w') ops a) : (Code.region id ops.toArray true).wpIn (Fence.wide.inRound l) n P Q a w := by
  simp only [Region.lexB, Bool.and_eq_true] at hB
  refine wpIn_region_any hm (wpAnyIn_round (by simpa using hnd) _ _ _ _ (wpAnyIn_of_quiet (C := fun w' => ∃ n, w' = w.drewN n) (Q := fun a' => ∀ w', (∃ n, w' = w.drewN n) → Q .normal a' w') rfl (fun _ w' hw' h => h w' hw') _ _ _ _ ⟨1, rfl⟩ ?_))
  have := wpAnyQIn_lex (F := Fence.wide) (n := n) (C := fun w' => ∃ n, w' = w.drewN n) (md := .any) hB.1 ops 0 (Array.replicate ops.toArray.size false) a (by simp) (by simpa using hB.2) (by simpa using h)
  simpa using this
end Go.Proofs.YtbafmnafhaoggaaGreatDoor

/-! Package table: what may be a table, Find, Bytes, New. -/
namespace Go.Proofs.YtbafmnafhaoggaaGreatDoor
open Go Go.RowKit

attribute [local go_sem] Oper.semAt_some

/-- An error of this package, of a kind, at a place. -/
def FaultW (W : World) (v : Value) (k p : Int) : Prop := ∃ b, v = .iface 126 (.pointer (some ⟨b, 0, none⟩)) ∧ W.heap[b]? = some (faultObj p ⟨#[116, 97, 98, 108, 101]⟩ (.iface 63 (.int .i64 k)))
theorem FaultW.below {W W' : World} {v : Value} {k p : Int} (h : FaultW W v k p) (hb : Below W.heap.size W W') : FaultW W' v k p := by
  obtain ⟨b, rfl, h⟩ := h
  exact ⟨b, rfl, (hb.block b (lt_of_block h)).trans h⟩
theorem FaultW.grown {W W' : World} {v : Value} {k p : Int} {row : Option Nat} (h : FaultW W v k p) (hg : W.grownBy W' row) (hr : ∀ r, row = some r → ∃ o : Obj, W.heap[r]? = some o ∧ o.isCells = false) : FaultW W' v k p := by
  obtain ⟨b, rfl, h⟩ := h
  refine ⟨b, rfl, (hg.block b (lt_of_block h) (fun e => ?_)).trans h⟩
  obtain ⟨o, h1, h2⟩ := hr b e.symm
  rw [h] at h1
  cases h1
  cases h2
theorem FaultW.new (k p : Int) (w : World) : FaultW (w.alloc (faultObj p ⟨#[116, 97, 98, 108, 101]⟩ (.iface 63 (.int .i64 k)))) (.iface 126 (.pointer (some ⟨w.heap.size, 0, none⟩))) k p := ⟨_, rfl, World.alloc_heap_new _ _⟩
theorem newW_any (k p : Int) (w : World) (hk : (k == 0) = false) :
    Calls Tryz.prog 26 #[.int .i64 k, .int .i64 p, .string ⟨#[116, 97, 98, 108, 101]⟩] w fun e w' => ∃ v, e = .returned v ∧ (FaultW w' v k p ∧ Below w.heap.size w w') :=
  (new_any k p _ w hk).mono fun e w' ⟨h1, h2⟩ => ⟨_, h1, by rw [← h2]; exact ⟨FaultW.new k p w, (Below.refl _ w).alloc (Nat.le_refl _) _⟩⟩
theorem FaultW.iface {W : World} {v : Value} {k p : Int} (h : FaultW W v k p) : ∃ t u, v = .iface t u := by
  obtain ⟨b, rfl, _⟩ := h; exact ⟨_, _, rfl⟩

set_option maxRecDepth 100000 in
theorem sizesW_ok (W K : Nat) (w : World) (h1 : 0 < K) (h2 : K ≤ W) (h3 : W ≤ 255) : Calls Tryz.prog 88 #[.int .i64 (W : Int), .int .i64 (K : Int)] w fun e w' => e = .returned .nilIface ∧ w = w' := by
  have a1 : decide ((K : Int) < 1) = false := decide_eq_false (by omega)
  have a2 : decide (W < K) = false := decide_eq_false (by omega)
  have a3 : decide ((255 : Int) < (W : Int)) = false := decide_eq_false (by omega)
  clear h1 h2 h3
  go_enter Tryz.func88, Tryz.ntmps88
  go_wp2
  go_ret
  exact ⟨rfl, rfl⟩
set_option maxRecDepth 100000 in
theorem sizesW_bad (W K : Int) (w : World) (h : K < 1 ∨ W < K ∨ 255 < W) : Calls Tryz.prog 88 #[.int .i64 W, .int .i64 K] w fun e w' => ∃ v, e = .returned v ∧ (FaultW w' v 1 0 ∧ Below w.heap.size w w') := by
  have HN := Lib.hid (newW_any 1 0 w (by decide))
  by_cases h1 : K < 1
  · have a1 : decide (K < 1) = true := decide_eq_true h1
    clear h
    go_enter Tryz.func88, Tryz.ntmps88
    go_wp2_with (go_at_call 26; (with_reducible refine HN.out.mono ?_); rintro e w' ⟨v, rfl, hv⟩; obtain ⟨t, u, rfl⟩ := hv.1.iface; have HV := Lib.hid hv; clear hv)
    go_ret
    exact ⟨_, rfl, HV.out⟩
  · have a1 : decide (K < 1) = false := decide_eq_false h1
    by_cases h2 : W < K
    · have a2 : decide (W < K) = true := decide_eq_true h2
      clear h h1
      go_enter Tryz.func88, Tryz.ntmps88
      go_wp2_with (go_at_call 26; (with_reducible refine HN.out.mono ?_); rintro e w' ⟨v, rfl, hv⟩; obtain ⟨t, u, rfl⟩ := hv.1.iface; have HV := Lib.hid hv; clear hv)
      go_ret
      exact ⟨_, rfl, HV.out⟩
    · have a2 : decide (W < K) = false := decide_eq_false h2
      have a3 : decide (255 < W) = true := decide_eq_true (by omega)
      clear h h1 h2
      go_enter Tryz.func88, Tryz.ntmps88
      go_wp2_with (go_at_call 26; (with_reducible refine HN.out.mono ?_); rintro e w' ⟨v, rfl, hv⟩; obtain ⟨t, u, rfl⟩ := hv.1.iface; have HV := Lib.hid hv; clear hv)
      go_ret
      exact ⟨_, rfl, HV.out⟩

set_option maxRecDepth 100000 in
theorem bytesW_any {b W K : Nat} {s : ByteArray} (w : World) (h : w.heap[b]? = some (tabObj W K s)) : Calls Tryz.prog 58 #[.pointer (some ⟨b, 0, none⟩)] w fun e w' => e = .returned (.string s) ∧ w = w' := by
  obtain ⟨c0, c1, c2⟩ := tab_cells h
  clear h
  go_enter Tryz.func58, Tryz.ntmps58
  go_wp2
  go_ret
  exact ⟨rfl, rfl⟩

end Go.Proofs.YtbafmnafhaoggaaGreatDoor

/-! Package table: New, by the first row that does not stand in order. -/
namespace Go.Proofs.YtbafmnafhaoggaaGreatDoor
open Go Go.RowKit

attribute [local go_sem] Oper.semAt_some

theorem fromW_prefix {l : List ByteArray} {pre : List (Nat × ByteArray)} {x : Nat × ByteArray} (h : pre ++ [x] <+: fromW 0 l) : ∃ r, l[pre.length]? = some r ∧ x = (pre.length, r) := by
  obtain ⟨t, ht⟩ := h
  have h2 := congrArg (fun l => l[pre.length]?) ht
  rw [fromW_at] at h2
  simp at h2
  cases hr : l[pre.length]? with
  | none => rw [hr] at h2; simp at h2
  | some r => rw [hr] at h2; simp at h2; exact ⟨r, rfl, h2⟩
theorem drop_cons {l : List ByteArray} {n : Nat} {r : ByteArray} (h : l[n]? = some r) : l.drop n = r :: l.drop (n + 1) := by
  obtain ⟨hn, rfl⟩ := List.getElem?_eq_some_iff.1 h
  exact List.drop_eq_getElem_cons hn

/-- What a round of checkOrder finds: the key ahead, and how the keys that are left must be judged. -/
structure ChA (w : World) (b W K : Nat) (s : ByteArray) (ahead : ByteArray) (j : Nat) (W' : World) : Prop where
  bad : badW K (rowsW W s) = goK ahead j (((rowsW W s).map (keyW K)).drop j)
  c0 : W'.heap[w.heap.size]? = some (.cells #[.pointer (some ⟨b, 0, none⟩)] 109 (0, 0))
  c1 : W'.heap[w.heap.size + 1]? = some (.cells #[.nilIface] 31 (0, 0))
  c2 : W'.heap[w.heap.size + 1 + 1]? = some (.cells #[.string ahead] 9 (0, 0))
  below : Below w.heap.size w W'
def ChI (w : World) (b W K : Nat) (s : ByteArray) (pre : List (Nat × ByteArray)) (W' : World) : Prop := ∃ ahead, ChA w b W K s ahead pre.length W'
def ChX (w : World) (W K : Nat) (s : ByteArray) (c : Code) (_ : List (Nat × ByteArray)) (W' : World) : Prop :=
  c = .ret ∧ (∃ (i : Nat) (v : Value), badW K (rowsW W s) = some i ∧ W'.heap[w.heap.size + 1]? = some (.cells #[v] 31 (0, 0)) ∧ FaultW W' v 13 ((i * W : Nat) : Int)) ∧ Below w.heap.size w W'
/-- The blocks that a round leaves alone. -/
def qCh (n : Nat) (k : Nat) : Prop := k < n ∨ k = n + 1 + 1 + 1 ∨ k = n + 1 + 1 + 1 + 1

/-- What checkOrder tells. -/
def OrdW (W' : World) (v : Value) (W : Nat) : Option Nat → Prop
  | none => v = .nilIface
  | some i => FaultW W' v 13 ((i * W : Nat) : Int)

theorem ownFrom_belowW {β : Type} {B B0 : Nat} {W0 : World} (hB : B0 ≤ B) (hs0 : B0 ≤ W0.heap.size) : OwnFrom B (fun (_ : β) W => Below B0 W0 W) :=
  fun _ _ _ _ hs hg hr => hs.grown hg (Nat.le_trans hs0 hs.size) (fun r e => by have := (hr r e).1; omega)
theorem ch_end {w W' : World} {D W : Nat} {a : Act} {v : Value} {o : Option Nat} (hv : OrdW W' v W o)
    (hr : W'.heap[w.heap.size + 1]? = some (.cells #[v] 31 (0, 0))) (h1 : W'.heap[D]? = some (.deferred (some [])))
    (hw1 : w.heap.size + 1 < D) (hB : Below w.heap.size w W') (ha : a.defers = [{ target := .collected D, args := #[] }]) (ht : a.tmps.getD 2 undef = .pointer (some ⟨w.heap.size + 1, 0, none⟩)) :
    bodyPostM Fence.wide 0 Tryz.prog Tryz.f109 (fun e w' => ∃ v, e = .returned v ∧ (OrdW w' v W o ∧ Below w.heap.size w w')) .ret a W' := by
  have k1 : (W'.putObj D (.deferred none)).heap[w.heap.size + 1]? = some (.cells #[v] 31 (0, 0)) := (World.putObj_heap_other (by omega)).trans hr
  obtain ⟨tmps, defers⟩ := a
  dsimp only at ha ht
  subst ha
  rw [Array.getD_eq_getD_getElem?] at ht
  refine ⟨by simp, .inl ⟨_, _, rfl, run_takeDeferred h1, ?_⟩⟩
  refine ⟨v, by simp [results, Tryz.results109, go_sem, ht, cell_of_one k1], v, rfl, ?_, ?_⟩
  · cases o with
    | none => exact hv
    | some i => exact FaultW.grown hv (grownBy_putObj' W' D (.deferred none)) (fun r e => by cases e; exact ⟨_, h1, rfl⟩)
  · exact hB.trans (belowK_b (w := w) (Nat.le_refl _) _ D _ (.deferred none) (by omega) h1 rfl rfl)

set_option maxRecDepth 100000 in
set_option maxHeartbeats 4000000 in
theorem orderW_any {b W K : Nat} {s : ByteArray} (w : World) (h : w.heap[b]? = some (tabObj W K s)) (hw : Wid W K s) :
    Calls Tryz.prog 109 #[.pointer (some ⟨b, 0, none⟩)] w fun e w' => ∃ v, e = .returned v ∧ (OrdW w' v W (badW K (rowsW W s)) ∧ Below w.heap.size w w') := by
  have H := Lib.hid h
  have hbl := lt_of_block h
  clear h
  refine callsIn_wide (n := 0) |>.1 ?_
  refine callsIn_of_wp_marks Tryz.func109 rfl trivial ?_ rfl
  simp only [Tryz.ntmps109, List.size_toArray, List.length_cons, List.length_nil, Nat.reduceAdd, Nat.reduceSub, Array.replicate_succ, Array.replicate_zero, List.push_toArray, List.append_toArray, List.nil_append, List.cons_append]
  gi_wp2_with fail
  obtain ⟨W0, hW0⟩ : ∃ W0, (((w.alloc (.cells #[.pointer (some ⟨b, 0, none⟩)] 109)).alloc (.cells #[.nilIface] 31)).alloc (.cells #[.string ({ data := #[] } : ByteArray)] 9)) = W0 := ⟨_, rfl⟩
  have hb0 : Below w.heap.size w W0 := by rw [← hW0]; exact (((Below.refl _ w).alloc (Nat.le_refl _) _).alloc (by simp) _).alloc (by simp; omega) _
  have hs0 : W0.heap.size = w.heap.size + 1 + 1 + 1 := by rw [← hW0]; simp
  have hx0 : W0.heap[w.heap.size]? = some (.cells #[.pointer (some ⟨b, 0, none⟩)] 109 (0, 0)) := by
    rw [← hW0, Below.heap_alloc _ _ _ (by simp; omega), Below.heap_alloc _ _ _ (by simp)]; exact World.alloc_heap_new w _
  have hy0 : W0.heap[w.heap.size + 1]? = some (.cells #[.nilIface] 31 (0, 0)) := by
    rw [← hW0, Below.heap_alloc _ _ _ (by simp)]
    have := World.alloc_heap_new (w.alloc (.cells #[.pointer (some ⟨b, 0, none⟩)] 109)) (.cells #[.nilIface] 31)
    rwa [World.size_alloc] at this
  have hz0 : W0.heap[w.heap.size + 1 + 1]? = some (.cells #[.string ({ data := #[] } : ByteArray)] 9 (0, 0)) := by
    rw [← hW0]
    have := World.alloc_heap_new ((w.alloc (.cells #[.pointer (some ⟨b, 0, none⟩)] 109)).alloc (.cells #[.nilIface] 31)) (.cells #[.string ({ data := #[] } : ByteArray)] 9)
    rwa [World.size_alloc, World.size_alloc] at this
  rw [hW0]
  clear hW0
  have HX0 := Lib.hid hx0
  have HY0 := Lib.hid hy0
  have HZ0 := Lib.hid hz0
  have HB0 := Lib.hid hb0
  have HS0 := Lib.hid hs0
  have hl0 := (hb0.block b hbl).trans H.out
  clear hx0 hy0 hz0 hb0
  refine ⟨trivial, rfl, CallsIn.mono (callsIn_wide.2 (prefix_make (some ⟨b, 0, none⟩) ⟨#[]⟩ W0)) ?_⟩
  rintro e W1 ⟨rfl, hW1⟩
  rw [hs0]
  have hb1 : Below W0.heap.size W0 W1 := by rw [← hW1]; exact ((Below.refl _ W0).alloc (Nat.le_refl _) _).alloc (by simp) _
  have hs1 : W1.heap.size = w.heap.size + 1 + 1 + 1 + 1 + 1 := by rw [← hW1, ← hs0]; simp
  have hseq0 : SeqAt b (w.heap.size + 1 + 1 + 1) (w.heap.size + 1 + 1 + 1 + 1) W K s ⟨#[]⟩ W1 := by
    refine ⟨(hb1.block b (by omega)).trans hl0, ?_, ?_⟩
    · rw [← hW1, Below.heap_alloc _ _ _ (by simp; omega), ← hs0]; exact World.alloc_heap_new W0 _
    · rw [← hW1, ← hs0]
      have := World.alloc_heap_new (W0.alloc (.cells #[.pointer (some ⟨b, 0, none⟩)] 109)) (.cells #[.string ({ data := #[] } : ByteArray)] 9)
      rwa [World.size_alloc] at this
  have hseq := prefix_seq (fr := fun _ => false) (q := qCh w.heap.size) hw (mono_empty K (rowsW W s)) ⟨.inl hbl, .inr (.inl rfl), .inr (.inr rfl)⟩ hseq0
  rw [prefix_empty] at hseq
  have HB1 := Lib.hid (HB0.out.trans (hb1.mono (by omega)))
  have HX1 := Lib.hid ((hb1.block _ (by omega)).trans HX0.out)
  have HY1 := Lib.hid ((hb1.block _ (by omega)).trans HY0.out)
  have HZ1 := Lib.hid ((hb1.block _ (by omega)).trans HZ0.out)
  clear hb1 hs0 hW1 hl0 hseq0 HX0 HY0 HZ0 HB0 HS0
  have HS1 := Lib.hid hs1
  clear hs1
  gi_wp2_with fail
  refine rangeQ (gf := 144) (lb := #[.pointer (some ⟨w.heap.size + 1 + 1 + 1, 0, none⟩), .pointer (some ⟨w.heap.size + 1 + 1 + 1 + 1, 0, none⟩)]) rfl (Go.Proofs.enters_of Tryz.func144 (by kernel_rfl) rfl) hseq (fun _ h => by cases h) (fun j h => by unfold qCh at h; have := HS1.out; omega) (fun _ => rfl)
    (ChI w b W K s) (ChX w W K s)
    (fun s' A B row hs hg hr => by
      obtain ⟨ahead, h0, h1, h2, h3, h4⟩ := hs
      have hz := HS1.out
      exact ⟨ahead, h0, ownFrom_block (β := Unit) (by omega) () A B row h1 hg hr, ownFrom_block (β := Unit) (by omega) () A B row h2 hg hr, ownFrom_block (β := Unit) (by omega) () A B row h3 hg hr, ownFrom_belowW (β := Unit) (by omega) (Nat.le_refl _) () A B row h4 hg hr⟩)
    (fun c s' A B row hs hg hr => by
      obtain ⟨h0, ⟨i, v, h1, h2, h3⟩, h4⟩ := hs
      have hz := HS1.out
      exact ⟨h0, ⟨i, v, h1, ownFrom_block (β := Unit) (by omega) () A B row h2 hg hr, h3.grown hg (fun r e => (hr r e).2)⟩, ownFrom_belowW (β := Unit) (by omega) (Nat.le_refl _) () A B row h4 hg hr⟩)
    ⟨⟨#[]⟩, by rw [List.length_nil, List.drop_zero]; rfl, HX1.out, HY1.out, HZ1.out, HB1.out⟩
    (fun y => { tmps := #[.pointer (some ⟨b, 0, none⟩), .pointer (some ⟨w.heap.size, 0, none⟩), .pointer (some ⟨w.heap.size + 1, 0, none⟩), .pointer (some ⟨w.heap.size + 1 + 1, 0, none⟩), .int .i64 y.1, .string y.2, .pointer (some ⟨b, 0, none⟩), .func (.func 144) #[] #[.pointer (some ⟨w.heap.size + 1 + 1 + 1, 0, none⟩), .pointer (some ⟨w.heap.size + 1 + 1 + 1 + 1, 0, none⟩)], .int .i64 y.1, .string y.2, undef, undef, undef, undef, undef, undef, undef, undef, undef, undef, undef, undef, undef, undef, undef, undef, undef, undef, undef, undef, undef], defers := [] })
    ?assign ?body ?done ?stop
  case assign =>
    intro l' y W3 K' hK
    gi_wp2
    exact hK
  case body =>
    rintro l' pre x W3 ⟨ahead, hc⟩ hpre hsz3
    obtain ⟨r, hr, rfl⟩ := fromW_prefix hpre
    obtain ⟨hi, hrv⟩ := rowsW_get hr
    have hrs : r.size = W := by rw [hrv]; exact rowW_size hi
    have hn : s.size / W ≤ 1048576 := Nat.le_trans (Nat.div_le_self _ _) hw.sz
    obtain ⟨t0, t1, t2⟩ := tab_cells ((hc.below.block b hbl).trans H.out)
    have c0 := cell_of_one hc.c0
    have c1 := cell_of_one hc.c1
    have f1 := free_of_one hc.c1
    have c2 := cell_of_one hc.c2
    have f2 := free_of_one hc.c2
    have k1 : (K : Int) ≤ (r.size : Int) := by have := hw.kW; omega
    have k0 : (0 : Int) ≤ (K : Int) := by omega
    have HBAD := Lib.hid (show badW K (rowsW W s) = if ltW ahead (r.extract 0 K) = true then goK (r.extract 0 K) (pre.length + 1) (((rowsW W s).map (keyW K)).drop (pre.length + 1)) else some pre.length by
      rw [hc.bad, drop_cons (r := keyW K r) (by rw [List.getElem?_map, hr]; rfl)]; rfl)
    have HPL := Lib.hid (show (pre ++ [(pre.length, r)]).length = pre.length + 1 by simp)
    have HC := Lib.hid hc
    have HE := row_end hi
    have hwz := hw.sz
    have hwp := hw.pos
    clear hc hr hrv hpre hrs
    obtain ⟨n, hnn⟩ : ∃ n, pre.length = n := ⟨_, rfl⟩
    rw [hnn] at HBAD HPL hi HE ⊢
    dsimp only
    by_cases hlt : ltW ahead (r.extract 0 K) = true
    · have HB := Lib.hid (show badW K (rowsW W s) = goK (r.extract 0 K) (n + 1) (((rowsW W s).map (keyW K)).drop (n + 1)) by rw [HBAD.out, if_pos hlt])
      have e1 : Op.bytesLess (r.extract 0 K).toList ahead.toList = false := by rw [less_ltW]; exact ltW_asymm hlt
      have e2 : ((r.extract 0 K).toList == ahead.toList) = false := by rw [eql_W]; exact decide_eq_false (fun e => by rw [e, ltW_irrefl] at hlt; cases hlt)
      clear hlt HBAD HE hnn
      gi_wp2_with fail
      refine wpIn_region_quiet_round (by kernel_rfl) (by kernel_rfl) (by kernel_rfl) ?_
      repeat (quiet_step_in (fail))
      refine wpQuietIn_nil ?_
      rintro _ ⟨nq, rfl⟩
      gi_wp2_with fail
      have hz := HS1.out
      have hb := HC.out.below
      refine ⟨(KeepQ.of_below (A := W3) (below_drewN (Below.refl _ _) nq)).trans (KeepQ.setCell _ _ _ _ (p := ⟨w.heap.size + 1 + 1, 0, none⟩) _ (fun h => by unfold qCh at h; simp only at h; omega) (by show w.heap.size + 1 + 1 < W1.heap.size; omega)), r.extract 0 K, ?_⟩
      refine ⟨by rw [HPL.out]; exact HB.out, (Below.heap_setCell _ _ _ _ (by show w.heap.size ≠ w.heap.size + 1 + 1; omega)).trans HC.out.c0, (Below.heap_setCell _ _ _ _ (by show w.heap.size + 1 ≠ w.heap.size + 1 + 1; omega)).trans HC.out.c1, one_setCell (w := W3.drewN nq) HC.out.c2, (below_drewN hb nq).setCell (p := ⟨w.heap.size + 1 + 1, 0, none⟩) (by show w.heap.size ≤ w.heap.size + 1 + 1; omega) _⟩
    · have HB := Lib.hid (show badW K (rowsW W s) = some n by rw [HBAD.out, if_neg hlt])
      obtain ⟨z1, z2, e1, e2, e3⟩ : ∃ z1 z2, Op.bytesLess (r.extract 0 K).toList ahead.toList = z1 ∧ ((r.extract 0 K).toList == ahead.toList) = z2 ∧ (z1 || z2) = true := by
        refine ⟨_, _, rfl, rfl, ?_⟩
        rw [less_ltW, eql_W]
        cases h1 : ltW (r.extract 0 K) ahead with
        | true => rfl
        | false => rw [Bool.false_or, decide_eq_true_eq]; exact ltW_tri h1 (by simpa using hlt)
      have HM := Lib.hid (show wrap64 ((n : Int) * (W : Int)) = ((n * W : Nat) : Int) by
        have : (n + 1) * W = n * W + W := Nat.succ_mul n W
        rw [← Int.natCast_mul]; exact IntWalk.wrap64_in _ ⟨by omega, by omega⟩)
      clear hlt HBAD HE hnn
      gi_wp2_with fail
      refine wpIn_region_quiet_round (by kernel_rfl) (by kernel_rfl) (by kernel_rfl) ?_
      repeat (quiet_step_in (fail))
      refine wpQuietIn_nil ?_
      rintro _ ⟨nq, rfl⟩
      gi_wp2_with fail
      refine ⟨trivial, rfl, ((callsIn_wide.2 (newW_any 13 _ _ (by decide))).inRound l').mono ?_⟩
      rintro e W4 ⟨v, rfl, hv, hb4⟩
      rw [HM.out] at hv
      have d1 := (hb4.cell (p := ⟨w.heap.size + 1, 0, none⟩) (lt_of_cellW c1)).trans c1
      have g1 := (hb4.frozen (p := ⟨w.heap.size + 1, 0, none⟩) (lt_of_cellW c1)).trans f1
      obtain ⟨t, u, rfl⟩ := hv.iface
      have HV := Lib.hid hv
      have HB4 := Lib.hid hb4
      clear hv hb4
      gi_wp2_with fail
      have hz := HS1.out
      have hb := HC.out.below
      have hb5 : Below W3.heap.size W3 W4 := (below_drewN (Below.refl _ W3) nq).trans HB4.out
      refine ⟨(KeepQ.of_below hb5).trans (KeepQ.setCell _ _ _ _ (p := ⟨w.heap.size + 1, 0, none⟩) _ (fun h => by unfold qCh at h; simp only at h; omega) (by show w.heap.size + 1 < W1.heap.size; omega)), rfl, ⟨n, .iface t u, HB.out, one_setCell ((hb5.block _ (lt_of_block HC.out.c1)).trans HC.out.c1), ?_⟩, (hb.trans (hb5.mono hb.size)).setCell (p := ⟨w.heap.size + 1, 0, none⟩) (by show w.heap.size ≤ w.heap.size + 1; omega) _⟩
      obtain ⟨b', e', h'⟩ := HV.out
      refine ⟨b', e', (Below.heap_setCell _ _ _ _ (fun e => ?_)).trans h'⟩
      have h4 := (hb5.block _ (lt_of_block HC.out.c1)).trans HC.out.c1
      rw [show b' = w.heap.size + 1 from e, h4] at h'
      simp [faultObj] at h'
  case done =>
    rintro D ys W3 hD rfl ⟨ahead, hc⟩ hK
    have hz := HS1.out
    have HB := Lib.hid (show badW K (rowsW W s) = none by
      rw [hc.bad, fromW_len, List.drop_eq_nil_of_le (by rw [List.length_map]; exact Nat.le_refl _)]; rfl)
    have c1 := cell_of_one hc.c1
    have f1 := free_of_one hc.c1
    have HC := Lib.hid hc
    have HK := Lib.hid hK
    clear hc hK hseq
    gi_wp2_with fail
    have hb := HC.out.below
    refine ch_end (v := .nilIface) (by rw [HB.out]; rfl) (one_setCell HC.out.c1) ((Below.heap_setCell _ _ _ _ (by show D ≠ w.heap.size + 1; omega)).trans HK.out) (by omega) (hb.setCell (p := ⟨w.heap.size + 1, 0, none⟩) (by show w.heap.size ≤ w.heap.size + 1; omega) _) rfl rfl
  case stop =>
    rintro D c pre W3 hD hpre ⟨rfl, ⟨i, v, h1, h2, h3⟩, hbl3⟩ hK
    have hz := HS1.out
    clear hseq
    gi_wp2_with fail
    exact ch_end (v := v) (by rw [h1]; exact h3) h2 hK (by omega) hbl3 rfl rfl

/-- What New and Build tell: an error, by kind and place; or none. -/
def newE (w k : Int) (s : ByteArray) : Option (Int × Int) :=
  if k < 1 ∨ w < k ∨ 255 < w then some (1, 0)
  else if s.size % w.toNat ≠ 0 then some (12, (s.size : Int))
  else match badW k.toNat (rowsW w.toNat s) with
    | some i => some (13, ((i * w.toNat : Nat) : Int))
    | none => none
/-- A table and no error, or no table and an error. -/
def MadeW (W' : World) (t v : Value) (w k : Int) (s : ByteArray) : Option (Int × Int) → Prop
  | none => v = .nilIface ∧ ∃ b, t = .pointer (some ⟨b, 0, none⟩) ∧ W'.heap[b]? = some (tabObj w.toNat k.toNat s)
  | some (e, p) => t = .pointer none ∧ FaultW W' v e p
theorem newE_bad {w k : Int} {s : ByteArray} (h : k < 1 ∨ w < k ∨ 255 < w) : newE w k s = some (1, 0) := if_pos h
theorem newE_form {W K : Nat} {s : ByteArray} (h1 : 0 < K) (h2 : K ≤ W) (h3 : W ≤ 255) (h : s.size % W ≠ 0) : newE W K s = some (12, (s.size : Int)) := by
  unfold newE
  rw [if_neg (by omega), Int.toNat_natCast, if_pos h]
theorem newE_order {W K : Nat} {s : ByteArray} (h1 : 0 < K) (h2 : K ≤ W) (h3 : W ≤ 255) (h : s.size % W = 0) : newE W K s = match badW K (rowsW W s) with
    | some i => some (13, ((i * W : Nat) : Int))
    | none => none := by
  unfold newE
  rw [if_neg (by omega), Int.toNat_natCast, Int.toNat_natCast, if_neg (by simpa using h)]

set_option maxRecDepth 100000 in
set_option maxHeartbeats 1000000 in
theorem new_table (wi ki : Int) (s : ByteArray) (w : World) (hs : s.size ≤ 1048576) :
    Calls Tryz.prog 89 #[.int .i64 wi, .int .i64 ki, .string s] w fun e w' => ∃ t v, e = .returned (.tuple #[t, v]) ∧ (MadeW w' t v wi ki s (newE wi ki s) ∧ Below w.heap.size w w') := by
  by_cases hbad : ki < 1 ∨ wi < ki ∨ 255 < wi
  · have HC := Lib.hid (sizesW_bad wi ki w hbad)
    have HE := Lib.hid (newE_bad (s := s) hbad)
    clear hbad
    go_enter Tryz.func89, Tryz.ntmps89
    go_wp2_with (go_at_call 88; (with_reducible refine HC.out.mono ?_); rintro e w1 ⟨v, rfl, hv⟩; obtain ⟨t, u, rfl⟩ := hv.1.iface; have HV := Lib.hid hv; clear hv)
    go_ret2
    exact ⟨_, _, rfl, by rw [HE.out]; exact ⟨rfl, HV.out.1⟩, HV.out.2⟩
  · obtain ⟨W, rfl⟩ : ∃ W : Nat, wi = (W : Int) := ⟨wi.toNat, by omega⟩
    obtain ⟨K, rfl⟩ : ∃ K : Nat, ki = (K : Int) := ⟨ki.toNat, by omega⟩
    have h1 : 0 < K := by omega
    have h2 : K ≤ W := by omega
    have h3 : W ≤ 255 := by omega
    clear hbad
    have HC := Lib.hid (sizesW_ok W K w h1 h2 h3)
    have hW : 0 < W := by omega
    have w0 : ((W : Int) == 0) = false := by rw [beq_eq_false_iff_ne]; omega
    have w1 : (W : Int) ≠ 0 := by omega
    have hm : ((s.size : Int).tmod (W : Int)) = ((s.size % W : Nat) : Int) := by rw [Int.tmod_eq_emod_of_nonneg (by omega), ← Int.natCast_emod]
    have hm2 : ((s.size : Int) % (W : Int)) = ((s.size % W : Nat) : Int) := by rw [← Int.natCast_emod]
    by_cases hmod : s.size % W = 0
    · rw [hmod] at hm hm2
      have hwid : Wid W K s := ⟨h1, h2, h3, hs⟩
      have HN := Lib.hid (newE_order h1 h2 h3 hmod)
      have HO := Lib.hid (orderW_any (b := w.heap.size) (w.alloc (tabObj W K s)) (World.alloc_heap_new w _) hwid)
      have HT := Lib.hid (World.alloc_heap_new w (tabObj W K s))
      unfold tabObj at HO HT
      cases hb : badW K (rowsW W s) with
      | none =>
        rw [hb] at HN HO
        clear hb hmod hwid h1 h2 h3 hs
        go_enter Tryz.func89, Tryz.ntmps89
        go_wp2_with (first | (go_at_call 88; (with_reducible refine HC.out.mono ?_); rintro e w' ⟨rfl, rfl⟩) | (go_at_call 109; (with_reducible refine HO.out.mono ?_); rintro e w2 ⟨v, rfl, hv, hb2⟩; have hv' : v = .nilIface := hv; subst hv'; have HB2 := Lib.hid hb2; clear hb2 hv))
        go_ret2
        refine ⟨_, _, rfl, ?_, ((Below.refl _ w).alloc (Nat.le_refl _) _).trans (HB2.out.mono (by simp))⟩
        rw [HN.out]
        refine ⟨rfl, w.heap.size, rfl, ?_⟩
        rw [Int.toNat_natCast, Int.toNat_natCast]
        exact (HB2.out.block _ (by simp)).trans HT.out
      | some i =>
        rw [hb] at HN HO
        clear hb hmod hwid h1 h2 h3 hs
        go_enter Tryz.func89, Tryz.ntmps89
        go_wp2_with (first | (go_at_call 88; (with_reducible refine HC.out.mono ?_); rintro e w' ⟨rfl, rfl⟩) | (go_at_call 109; (with_reducible refine HO.out.mono ?_); rintro e w2 ⟨v, rfl, hv, hb2⟩; have hv' : FaultW w2 v 13 ((i * W : Nat) : Int) := hv; obtain ⟨t, u, rfl⟩ := hv'.iface; have HV := Lib.hid hv'; have HB2 := Lib.hid hb2; clear hb2 hv hv'))
        go_ret2
        refine ⟨_, _, rfl, ?_, ((Below.refl _ w).alloc (Nat.le_refl _) _).trans (HB2.out.mono (by simp))⟩
        rw [HN.out]
        exact ⟨rfl, HV.out⟩
    · have HN := Lib.hid (newE_form (s := s) h1 h2 h3 hmod)
      have HF := Lib.hid (newW_any 12 (s.size : Int) w (by decide))
      obtain ⟨z, hz⟩ : ∃ z, s.size % W = z := ⟨_, rfl⟩
      rw [hz] at hm hm2 hmod
      have hz1 : ((z : Int) == 0) = false := by rw [beq_eq_false_iff_ne]; omega
      clear hz h1 h2 h3 hs
      go_enter Tryz.func89, Tryz.ntmps89
      go_wp2_with (first | (go_at_call 88; (with_reducible refine HC.out.mono ?_); rintro e w' ⟨rfl, rfl⟩) | (go_at_call 26; (with_reducible refine HF.out.mono ?_); rintro e w1 ⟨v, rfl, hv⟩; obtain ⟨t, u, rfl⟩ := hv.1.iface; have HV := Lib.hid hv; clear hv))
      go_ret2
      exact ⟨_, _, rfl, by rw [HN.out]; exact ⟨rfl, HV.out.1⟩, HV.out.2⟩
end Go.Proofs.YtbafmnafhaoggaaGreatDoor

/-! Rows of texts in memory: wherever they lie; a call's own; those that an iterator looks at. -/
namespace Go.Proofs.YtbafmnafhaoggaaGreatDoor
open Go Go.RowKit

def strsW (l : List ByteArray) : List Value := l.map Value.string
theorem strsW_append (a b : List ByteArray) : strsW (a ++ b) = strsW a ++ strsW b := List.map_append ..
/-- A row of texts, wherever it lies. -/
def RowW (W : World) (v : Value) (l : List ByteArray) : Prop :=
  ∃ ao cap, v = .slice ao l.length cap ∧ ∀ i x, l[i]? = some x → ∃ g o, ao = some ⟨g, o, none⟩ ∧ W.cell? ⟨g, o + i, none⟩ = some (.string x)
theorem RowW.below {W W' : World} {v : Value} {l : List ByteArray} (h : RowW W v l) (hb : Below W.heap.size W W') : RowW W' v l := by
  obtain ⟨ao, cap, rfl, hc⟩ := h
  refine ⟨ao, cap, rfl, fun i x hx => ?_⟩
  obtain ⟨g, o, h1, h2⟩ := hc i x hx
  exact ⟨g, o, h1, (hb.cell (p := ⟨g, o + i, none⟩) (lt_of_cellW h2)).trans h2⟩
theorem RowW.slice {W : World} {v : Value} {l : List ByteArray} (h : RowW W v l) : ∃ ao cap, v = .slice ao l.length cap := by
  obtain ⟨ao, cap, h, _⟩ := h; exact ⟨ao, cap, h⟩
theorem RowW.nil (W : World) (n : Nat) : RowW W (.slice none 0 n) [] := ⟨none, n, rfl, fun i x hx => by simp at hx⟩
theorem owned_casesW {w : World} {B : Nat} {e : TypeId} {sz : Nat} {v : Value} {n : Nat} {xs : List Value} (h : w.ownsRow B e sz v n xs) : (v = .slice none 0 0 ∧ n = 0) ∨ ∃ g cap, v = .slice (some ⟨g, 0, none⟩) n cap := by
  rcases h.2 with ⟨hv, hn⟩ | ⟨g, cap, _, hv, _⟩
  · exact .inl ⟨hv, hn⟩
  · exact .inr ⟨g, cap, hv⟩
theorem RowW.of_own {w : World} {base : Nat} {u : Value} {l : List ByteArray} (h : w.ownsRow base 9 1 u l.length (strsW l)) : RowW w u l := by
  rcases owned_casesW h with ⟨rfl, h0⟩ | ⟨g, cap, rfl⟩
  · obtain rfl : l = [] := List.eq_nil_of_length_eq_zero h0
    exact RowW.nil w 0
  · refine ⟨some ⟨g, 0, none⟩, cap, rfl, fun i x hx => ⟨g, 0, rfl, ?_⟩⟩
    have := h.cells rfl i (.string x) (by simp [strsW, hx])
    rwa [Addr.add_lit] at this
theorem own_belowW {W W' : World} {base : Nat} {e : TypeId} {sz : Nat} {v : Value} {n : Nat} {xs : List Value} (h : W.ownsRow base e sz v n xs) (hb : Below W.heap.size W W') : W'.ownsRow base e sz v n xs :=
  h.kept (grown_of_below hb) (by cases v.ownBlock <;> simp)
theorem own_lowW {w : World} {B B' : Nat} {e : TypeId} {sz : Nat} {v : Value} {n : Nat} {xs : List Value} (h : w.ownsRow B e sz v n xs) (hB : B' ≤ B) : w.ownsRow B' e sz v n xs := by
  refine ⟨h.1, ?_⟩
  rcases h.2 with h | ⟨g, cap, cur, h1, h2, h3⟩
  · exact .inl h
  · exact .inr ⟨g, cap, cur, h1, by omega, h3⟩
/-- A row below block n. -/
def RowB (n : Nat) (W : World) (v : Value) (l : List ByteArray) : Prop :=
  ∃ ao cap, v = .slice ao l.length cap ∧ ∀ i x, l[i]? = some x → ∃ g o, ao = some ⟨g, o, none⟩ ∧ g < n ∧ W.cell? ⟨g, o + i, none⟩ = some (.string x)
theorem RowW.bound {W : World} {v : Value} {l : List ByteArray} {n : Nat} (h : RowW W v l) (hn : W.heap.size ≤ n) : RowB n W v l := by
  obtain ⟨ao, cap, rfl, hc⟩ := h
  refine ⟨ao, cap, rfl, fun i x hx => ?_⟩
  obtain ⟨g, o, h1, h2⟩ := hc i x hx
  exact ⟨g, o, h1, Nat.lt_of_lt_of_le (lt_of_cellW h2) hn, h2⟩
theorem RowB.same {W W' : World} {v : Value} {l : List ByteArray} {n : Nat} (h : RowB n W v l) (hb : ∀ k, k < n → k < W.heap.size → W'.heap[k]? = W.heap[k]?) : RowB n W' v l := by
  obtain ⟨ao, cap, rfl, hc⟩ := h
  refine ⟨ao, cap, rfl, fun i x hx => ?_⟩
  obtain ⟨g, o, h1, h2, h3⟩ := hc i x hx
  refine ⟨g, o, h1, h2, ?_⟩
  have := hb g h2 (lt_of_cellW h3)
  unfold World.cell? at h3 ⊢
  rwa [this]
theorem RowB.below {W W' : World} {v : Value} {l : List ByteArray} {n : Nat} (h : RowB n W v l) (hb : Below W.heap.size W W') : RowB n W' v l := h.same fun k _ hk => hb.block k hk
/-- A row that a loop fills. -/
def AccW (W0 : World) (L : List ByteArray) (v : Value) (wr : World) : Prop := wr.ownsRow W0.heap.size 9 1 v L.length (strsW L) ∧ Below W0.heap.size W0 wr
theorem AccW.start (W0 : World) : AccW W0 [] (.slice none 0 0) W0 := ⟨World.ownsRow_nil _ _ _ _, Below.refl _ _⟩
theorem AccW.push {W0 wr w2 : World} {L : List ByteArray} {v v' : Value} {x : ByteArray} {o : Obj} (h : AccW W0 L v wr)
    (h1 : w2.ownsRow W0.heap.size 9 1 v' (L.length + 1) (strsW L ++ [.string x])) (hg : (wr.alloc o).grownBy w2 v.ownBlock) : AccW W0 (L ++ [x]) v' w2 := by
  have hB := h.2
  refine ⟨?_, (hB.alloc hB.size o).grown hg (by simp; have := hB.size; omega) (fun r e => (h.1.lt r e).1)⟩
  rw [List.length_append, strsW_append]
  exact h1
theorem AccW.below {W0 W W' : World} {L : List ByteArray} {v : Value} (h : AccW W0 L v W) (hb : Below W.heap.size W W') : AccW W0 L v W' := ⟨own_belowW h.1 hb, h.2.trans (hb.mono h.2.size)⟩
theorem cell_oneW (W : World) (v : Value) (t : TypeId) : ∀ j u, [v][j]? = some u → (W.alloc (.cells #[v] t)).cell? ((⟨W.heap.size, 0, none⟩ : Addr).add j) = some u := by
  intro j u h
  have hj : j = 0 := by have := (List.getElem?_eq_some_iff.1 h).1; simpa using this
  subst hj
  simp at h
  subst h
  exact cell_of_one (World.alloc_heap_new W _)
theorem take_nextW {α : Type} {l : List α} {k : Nat} {x : α} (h : l[k]? = some x) : l.take (k + 1) = l.take k ++ [x] := by
  rw [List.take_add_one, h]; rfl
theorem mem_of_at {α : Type} {l : List α} {k : Nat} {x : α} (h : l[k]? = some x) : x ∈ l := List.mem_of_getElem? h

theorem joinW (l : List ByteArray) : (⟨(Lib.join (l.map (·.data.toList)) (⟨#[]⟩ : ByteArray).data.toList).toArray⟩ : ByteArray) = catW l := by
  unfold catW
  congr 2
  show Lib.join (l.map bL) [] = _
  cases l with
  | nil => rfl
  | cons a t =>
    rw [List.map_cons, Lib.join_cons, List.flatMap_cons]
    unfold Lib.joinTail
    rw [show (fun x : List UInt8 => [] ++ x) = id from funext fun _ => rfl, List.map_id]
    rfl
end Go.Proofs.YtbafmnafhaoggaaGreatDoor
