/-
  Likely subtags as mathematics: a tag's ladder, the first of its rows of which there is one, a tag in full. No program is named here.
-/
import Derived.Test.YthjfcfhibdpbnaaBMaths
import Derived.Test.YthjfcfhibdpbnaaFTag
namespace Go.Proofs.Ythjfcfhibdpbnaa
open Go Go.RowKit

theorem snoc_indT {α : Type} {P : List α → Prop} (h0 : P []) (h1 : ∀ l x, P l → P (l ++ [x])) (l : List α) : P l := by
  have : ∀ r : List α, P r.reverse := fun r => by
    induction r with
    | nil => exact h0
    | cons a r ih => rw [List.reverse_cons]; exact h1 _ _ ih
  have h := this l.reverse
  rwa [List.reverse_reverse] at h
abbrev KT := ByteArray × ByteArray × ByteArray
structure Lr where
  l : ByteArray
  s : ByteArray
  r : ByteArray
  tl : ByteArray
  ts : ByteArray
  tr : ByteArray
def lrC (x : Lr) : List Value := [.string x.l, .string x.s, .string x.r, .string x.tl, .string x.ts, .string x.tr]
def keyR (x : Lr) : KT := (x.l, x.s, x.r)
def undT : ByteArray := ⟨#[117, 110, 100]⟩
def rungsT (l s r : ByteArray) : List KT := [(l, s, r), (l, ⟨#[]⟩, r), (l, s, ⟨#[]⟩), (l, ⟨#[]⟩, ⟨#[]⟩), (undT, s, ⟨#[]⟩)]
def sizeT (l s : ByteArray) : Nat := if l.size = 0 then 0 else if s.size = 0 then 4 else 5
def hasD (acc : List KT) (x : KT) : Bool := acc.any fun y => decide (y = x)
theorem hasD_iff (acc : List KT) (x : KT) : hasD acc x = true ↔ x ∈ acc := by
  unfold hasD
  rw [List.any_eq_true]
  exact ⟨fun ⟨y, h1, h2⟩ => of_decide_eq_true h2 ▸ h1, fun h => ⟨x, h, decide_eq_true rfl⟩⟩
def addD (acc : List KT) (x : KT) : List KT := if hasD acc x = true then acc else acc ++ [x]
def ddT (l : List KT) : List KT := l.foldl addD []
def ladT (l s r : ByteArray) : List KT := ddT ((rungsT l s r).take (sizeT l s))
theorem sizeT_le (l s : ByteArray) : sizeT l s ≤ 5 := by
  unfold sizeT
  split
  · omega
  · split
    · omega
    · omega
theorem ddT_snoc (l : List KT) (x : KT) : ddT (l ++ [x]) = addD (ddT l) x := by
  unfold ddT
  rw [List.foldl_append]
  rfl
theorem mem_ddT (l : List KT) : ∀ k, k ∈ ddT l ↔ k ∈ l := by
  induction l using snoc_indT with
  | h0 => intro k; exact Iff.rfl
  | h1 l x ih =>
    intro k
    rw [ddT_snoc]
    unfold addD
    split
    · rename_i h
      rw [hasD_iff, ih x] at h
      rw [ih k, List.mem_append, List.mem_singleton]
      exact ⟨.inl, fun e => e.elim id (fun e => e ▸ h)⟩
    · rw [List.mem_append, List.mem_append, ih k]
theorem addD_prefix : ∀ (b acc : List KT), acc <+: b.foldl addD acc
  | [], _ => List.prefix_refl _
  | x :: r, acc => by
    rw [List.foldl_cons]
    refine List.IsPrefix.trans ?_ (addD_prefix r _)
    unfold addD
    split
    · exact List.prefix_refl _
    · exact List.prefix_append _ _
theorem ddT_prefix (l : List KT) (i : Nat) : ddT (l.take i) <+: ddT l := by
  have h := addD_prefix (l.drop i) (ddT (l.take i))
  have e : (l.drop i).foldl addD (ddT (l.take i)) = ddT l := by
    show (l.drop i).foldl addD ((l.take i).foldl addD []) = _
    rw [← List.foldl_append, List.take_append_drop]
    rfl
  rwa [e] at h
theorem ddT_len (l : List KT) : (ddT l).length ≤ l.length := by
  induction l using snoc_indT with
  | h0 => simp [ddT]
  | h1 l x ih =>
    rw [ddT_snoc, List.length_append]
    unfold addD
    split
    · simp; omega
    · rw [List.length_append]; simp; omega
theorem ladT_len (l s r : ByteArray) : (ladT l s r).length ≤ 5 := by
  have h := ddT_len ((rungsT l s r).take (sizeT l s))
  rw [List.length_take] at h
  exact Nat.le_trans h (Nat.le_trans (Nat.min_le_left _ _) (sizeT_le l s))
def KST (k : KT) : Prop := k.1.size ≤ 1048576 ∧ k.2.1.size ≤ 1048576 ∧ k.2.2.size ≤ 1048576
theorem ladT_small {l s r : ByteArray} (h : KST (l, s, r)) : ∀ k ∈ ladT l s r, KST k := by
  intro k hk
  have hk := List.mem_of_mem_take ((mem_ddT _ k).1 hk)
  obtain ⟨h1, h2, h3⟩ := h
  have h1 : l.size ≤ 1048576 := h1
  have h2 : s.size ≤ 1048576 := h2
  have h3 : r.size ≤ 1048576 := h3
  have h0 : (⟨#[]⟩ : ByteArray).size ≤ 1048576 := Nat.zero_le _
  have hu : undT.size ≤ 1048576 := by decide
  simp only [rungsT, List.mem_cons, List.not_mem_nil, or_false] at hk
  rcases hk with rfl | rfl | rfl | rfl | rfl
  · exact ⟨h1, h2, h3⟩
  · exact ⟨h1, h0, h3⟩
  · exact ⟨h1, h2, h0⟩
  · exact ⟨h1, h0, h0⟩
  · exact ⟨hu, h2, h0⟩

/-! The first row with a key. -/
def hitR (L : List Lr) (k : KT) : Option Lr := L.find? fun x => decide (keyR x = k)
def firstT (L : List Lr) (A : List KT) : Option Lr := A.findSome? (hitR L)
theorem hitR_none {L : List Lr} {k : KT} (h : ∀ (i : Nat) (x : Lr), L[i]? = some x → keyR x ≠ k) : hitR L k = none := by
  unfold hitR
  rw [List.find?_eq_none]
  intro x hx
  obtain ⟨i, hi⟩ := List.getElem?_of_mem hx
  simpa using h i x hi
theorem hitR_some : ∀ {L : List Lr} {k : KT} {p : Nat} {x : Lr}, L[p]? = some x → keyR x = k → (∀ (i : Nat) (y : Lr), i < p → L[i]? = some y → keyR y ≠ k) → hitR L k = some x
  | [], _, _, _, h, _, _ => by simp at h
  | a :: r, k, 0, x, h, hk, _ => by
    simp at h
    subst h
    simp [hitR, hk]
  | a :: r, k, p + 1, x, h, hk, hm => by
    have h1 : keyR a ≠ k := hm 0 a (Nat.zero_lt_succ _) rfl
    have h2 := hitR_some (L := r) (k := k) (p := p) (x := x) (by simpa using h) hk (fun i y hi hy => hm (i + 1) y (Nat.succ_lt_succ hi) (by simpa using hy))
    unfold hitR at h2 ⊢
    rw [List.find?_cons]
    simp [h1]
    exact h2
theorem firstT_none {L : List Lr} {A : List KT} (h : ∀ k ∈ A, hitR L k = none) : firstT L A = none := by
  unfold firstT
  rw [List.findSome?_eq_none_iff]
  exact h
theorem firstT_some {L : List Lr} {A pre : List KT} {k : KT} {x : Lr} (hp : pre ++ [k] <+: A) (h : ∀ y ∈ pre, hitR L y = none) (hk : hitR L k = some x) : firstT L A = some x := by
  obtain ⟨r, rfl⟩ := hp
  unfold firstT
  have h1 : pre.findSome? (hitR L) = none := by rw [List.findSome?_eq_none_iff]; exact h
  rw [List.append_assoc, List.findSome?_append, h1]
  simp [hk]

/-! The least place of a key, among so many rows. -/
def plN (L : List Lr) (k : KT) : Nat → Nat
  | 0 => L.length
  | n + 1 => match L[n]? with
    | some x => if keyR x = k then min (plN L k n) n else plN L k n
    | none => plN L k n
theorem plN_inv (L : List Lr) (k : KT) : ∀ n, n ≤ L.length → (plN L k n = L.length ∧ ∀ (i : Nat) (x : Lr), i < n → L[i]? = some x → keyR x ≠ k) ∨
    (plN L k n < n ∧ (∃ x, L[plN L k n]? = some x ∧ keyR x = k) ∧ ∀ (i : Nat) (x : Lr), i < plN L k n → L[i]? = some x → keyR x ≠ k)
  | 0, _ => .inl ⟨rfl, fun i _ h => absurd h (Nat.not_lt_zero _)⟩
  | n + 1, hn => by
    obtain ⟨x, hx⟩ : ∃ x, L[n]? = some x := ⟨_, List.getElem?_eq_getElem (by omega)⟩
    have ih := plN_inv L k n (by omega)
    have e : plN L k (n + 1) = if keyR x = k then min (plN L k n) n else plN L k n := by
      show (match L[n]? with | some x => if keyR x = k then min (plN L k n) n else plN L k n | none => plN L k n) = _
      rw [hx]
    by_cases hk : keyR x = k
    · rw [if_pos hk] at e
      rcases ih with ⟨h1, h2⟩ | ⟨h1, h2, h3⟩
      · have e2 : plN L k (n + 1) = n := by rw [e, h1]; omega
        rw [e2]
        exact .inr ⟨by omega, ⟨x, hx, hk⟩, h2⟩
      · have e2 : plN L k (n + 1) = plN L k n := by rw [e]; omega
        rw [e2]
        exact .inr ⟨by omega, h2, h3⟩
    · rw [if_neg hk] at e
      rcases ih with ⟨h1, h2⟩ | ⟨h1, h2, h3⟩
      · rw [e]
        refine .inl ⟨h1, fun i y hi hy => ?_⟩
        rcases Nat.lt_or_ge i n with h | h
        · exact h2 i y h hy
        · obtain rfl : i = n := by omega
          rw [hx] at hy
          cases hy
          exact hk
      · rw [e]
        exact .inr ⟨by omega, h2, h3⟩
theorem plN_le (L : List Lr) (k : KT) (n : Nat) (h : n ≤ L.length) : plN L k n ≤ L.length := by
  rcases plN_inv L k n h with ⟨h1, _⟩ | ⟨h1, _⟩ <;> omega
theorem plN_end (L : List Lr) (k : KT) : (plN L k L.length = L.length ∧ hitR L k = none) ∨ (plN L k L.length < L.length ∧ ∃ x, L[plN L k L.length]? = some x ∧ hitR L k = some x) := by
  rcases plN_inv L k L.length (Nat.le_refl _) with ⟨h1, h2⟩ | ⟨h1, ⟨x, h2, h4⟩, h3⟩
  · exact .inl ⟨h1, hitR_none fun i x hx => h2 i x (List.getElem?_eq_some_iff.1 hx).1 hx⟩
  · exact .inr ⟨h1, x, h2, hitR_some h2 h4 h3⟩
theorem plN_succ {L : List Lr} {n : Nat} {x : Lr} (k : KT) (hx : L[n]? = some x) : plN L k (n + 1) = if keyR x = k then min (plN L k n) n else plN L k n := by
  show (match L[n]? with | some x => if keyR x = k then min (plN L k n) n else plN L k n | none => plN L k n) = _
  rw [hx]

/-! A tag in full. -/
def orT (a b : ByteArray) : ByteArray := if a.size = 0 then b else a
def fillT (T : TagM) (x : Lr) : TagM := { T with lang := if T.lang = undT then x.tl else T.lang, script := orT T.script x.ts, region := orT T.region x.tr }
def maxT (L : List Lr) (T : TagM) : TagM × Bool :=
  match firstT L (ladT T.lang T.script T.region) with
  | some x => (fillT T x, true)
  | none => (T, false)

/-! Rows of them in memory. -/
def RowL (W : World) (v : Value) (L : List Lr) : Prop :=
  ∃ ao cap, v = .slice ao L.length cap ∧ ∀ i x, L[i]? = some x → ∃ g o, ao = some ⟨g, o, none⟩ ∧ W.cell? ⟨g, o + i * 6, none⟩ = some (.string x.l) ∧ W.cell? ⟨g, o + i * 6 + 1, none⟩ = some (.string x.s) ∧ W.cell? ⟨g, o + i * 6 + 2, none⟩ = some (.string x.r) ∧
    W.cell? ⟨g, o + i * 6 + 3, none⟩ = some (.string x.tl) ∧ W.cell? ⟨g, o + i * 6 + 4, none⟩ = some (.string x.ts) ∧ W.cell? ⟨g, o + i * 6 + 5, none⟩ = some (.string x.tr)
theorem lt_cellT {W : World} {a : Addr} {v : Value} (h : W.cell? a = some v) : a.block < W.heap.size := World.block_lt_of_cell? _ _ h
theorem RowL.open {W : World} {ao : Option Addr} {n cap : Nat} {L : List Lr} (h : RowL W (.slice ao n cap) L) : ∀ i x, L[i]? = some x → ∃ g o, ao = some ⟨g, o, none⟩ ∧ ∀ W', Below W.heap.size W W' → W'.cell? ⟨g, o + i * 6, none⟩ = some (.string x.l) ∧ W'.cell? ⟨g, o + i * 6 + 1, none⟩ = some (.string x.s) ∧ W'.cell? ⟨g, o + i * 6 + 2, none⟩ = some (.string x.r) ∧
    W'.cell? ⟨g, o + i * 6 + 3, none⟩ = some (.string x.tl) ∧ W'.cell? ⟨g, o + i * 6 + 4, none⟩ = some (.string x.ts) ∧ W'.cell? ⟨g, o + i * 6 + 5, none⟩ = some (.string x.tr) := by
  intro i x hx
  obtain ⟨ao', cap', e, hc⟩ := h
  injection e with e1 e2 e3
  subst e1
  obtain ⟨g, o, h1, c0, c1, c2, c3, c4, c5⟩ := hc i x hx
  refine ⟨g, o, h1, fun W' hb => ⟨?_, ?_, ?_, ?_, ?_, ?_⟩⟩
  · exact (hb.cell (p := ⟨g, o + i * 6, none⟩) (lt_cellT c0)).trans c0
  · exact (hb.cell (p := ⟨g, o + i * 6 + 1, none⟩) (lt_cellT c1)).trans c1
  · exact (hb.cell (p := ⟨g, o + i * 6 + 2, none⟩) (lt_cellT c2)).trans c2
  · exact (hb.cell (p := ⟨g, o + i * 6 + 3, none⟩) (lt_cellT c3)).trans c3
  · exact (hb.cell (p := ⟨g, o + i * 6 + 4, none⟩) (lt_cellT c4)).trans c4
  · exact (hb.cell (p := ⟨g, o + i * 6 + 5, none⟩) (lt_cellT c5)).trans c5
theorem RowL.below {W W' : World} {v : Value} {L : List Lr} (h : RowL W v L) (hb : Below W.heap.size W W') : RowL W' v L := by
  obtain ⟨ao, cap, rfl, hc⟩ := h
  have h : RowL W (.slice ao L.length cap) L := ⟨ao, cap, rfl, hc⟩
  refine ⟨ao, cap, rfl, fun i x hx => ?_⟩
  obtain ⟨g, o, h1, h2⟩ := h.open i x hx
  exact ⟨g, o, h1, h2 W' hb⟩
theorem RowL.shape {W : World} {v : Value} {L : List Lr} (h : RowL W v L) : ∃ ao cap, v = .slice ao L.length cap := by
  obtain ⟨ao, cap, rfl, _⟩ := h
  exact ⟨ao, cap, rfl⟩
def RowS (L : List Lr) : Prop := ∀ x ∈ L, KST (keyR x)
end Go.Proofs.Ythjfcfhibdpbnaa
