/-
  Tags field by field: what a tag's value holds; the document's Subtags.
-/
import Derived.Test.YthjfcfhibdpbnaaKinds
import Derived.Test.YthjfcfhibdpbnaaPieceR
import Derived.Deep.CutRange
namespace Go.Proofs.Ythjfcfhibdpbnaa
open Go Go.RowKit

/-- A row of texts, readable cell by cell. -/
def Row (W : World) (v : Value) (l : List ByteArray) : Prop :=
  ∃ ao cap, v = .slice ao l.length cap ∧ ∀ i x, l[i]? = some x → ∃ g, ao = some ⟨g, 0, none⟩ ∧ W.cell? ⟨g, i, none⟩ = some (.string x)
theorem Row.below {W W' : World} {v : Value} {l : List ByteArray} (h : Row W v l) (hb : Below W.heap.size W W') : Row W' v l := by
  obtain ⟨ao, cap, rfl, hc⟩ := h
  refine ⟨ao, cap, rfl, fun i x hx => ?_⟩
  obtain ⟨g, h1, h2⟩ := hc i x hx
  refine ⟨g, h1, ?_⟩
  have hg : g < W.heap.size := by
    rcases Nat.lt_or_ge g W.heap.size with h' | h'
    · exact h'
    · simp [World.cell?, Array.getElem?_eq_none h'] at h2
  exact (hb.cell (p := ⟨g, i, none⟩) hg).trans h2
/-- A row of extensions. -/
def ExtRow (W : World) (v : Value) (l : List (ByteArray × List ByteArray)) : Prop :=
  ∃ ao cap, v = .slice ao l.length cap ∧ ∀ i x, l[i]? = some x → ∃ g vs, ao = some ⟨g, 0, none⟩ ∧ W.cell? ⟨g, i * 2, none⟩ = some (.string x.1) ∧ W.cell? ⟨g, i * 2 + 1, none⟩ = some vs ∧ Row W vs x.2
theorem ExtRow.below {W W' : World} {v : Value} {l : List (ByteArray × List ByteArray)} (h : ExtRow W v l) (hb : Below W.heap.size W W') : ExtRow W' v l := by
  obtain ⟨ao, cap, rfl, hc⟩ := h
  refine ⟨ao, cap, rfl, fun i x hx => ?_⟩
  obtain ⟨g, vs, h1, h2, h3, h4⟩ := hc i x hx
  have hg : g < W.heap.size := by
    rcases Nat.lt_or_ge g W.heap.size with h' | h'
    · exact h'
    · simp [World.cell?, Array.getElem?_eq_none h'] at h2
  exact ⟨g, vs, h1, (hb.cell (p := ⟨g, i * 2, none⟩) hg).trans h2, (hb.cell (p := ⟨g, i * 2 + 1, none⟩) hg).trans h3, h4.below hb⟩

/-- A tag, field by field. -/
structure TagM where
  lang : ByteArray
  extl : List ByteArray
  script : ByteArray
  region : ByteArray
  vars : List ByteArray
  exts : List (ByteArray × List ByteArray)
  priv : List ByteArray
  grand : ByteArray
def TagIs (W : World) (v : Value) (T : TagM) : Prop :=
  ∃ ve vv vx vp, v = .agg #[.string T.lang, ve, .string T.script, .string T.region, vv, vx, vp, .string T.grand] ∧ Row W ve T.extl ∧ Row W vv T.vars ∧ ExtRow W vx T.exts ∧ Row W vp T.priv
theorem TagIs.below {W W' : World} {v : Value} {T : TagM} (h : TagIs W v T) (hb : Below W.heap.size W W') : TagIs W' v T := by
  obtain ⟨ve, vv, vx, vp, rfl, h1, h2, h3, h4⟩ := h
  exact ⟨ve, vv, vx, vp, rfl, h1.below hb, h2.below hb, h3.below hb, h4.below hb⟩
/-- How long its rows and texts may be. -/
def TagFits (T : TagM) : Prop := T.extl.length ≤ 100 ∧ T.vars.length ≤ 100 ∧ T.exts.length ≤ 100 ∧ (∀ x ∈ T.exts, x.2.length ≤ 100) ∧ T.priv.length ≤ 100 ∧ T.grand.size ≤ 100

/-- A text, if it is there. -/
def oneT (s : ByteArray) : List ByteArray := if s.size = 0 then [] else [s]
def extT (x : ByteArray × List ByteArray) : List ByteArray := x.1 :: x.2
def privT (l : List ByteArray) : List ByteArray := if l.length = 0 then [] else ⟨#[120]⟩ :: l
def preT (l : List ByteArray) : List ByteArray := if l.length = 0 then [] else [⟨#[120]⟩]
theorem privT_pre (l : List ByteArray) : privT l = preT l ++ l := by
  unfold privT preT
  split
  · rename_i h; rw [List.eq_nil_of_length_eq_zero h]; rfl
  · rfl
/-- A tag's subtags. -/
def subtagsT (T : TagM) : List ByteArray :=
  if T.grand.size = 0 then oneT T.lang ++ T.extl ++ oneT T.script ++ oneT T.region ++ T.vars ++ T.exts.flatMap extT ++ privT T.priv else splS T.grand
theorem oneT_len (s : ByteArray) : (oneT s).length ≤ 1 := by unfold oneT; split <;> simp

/-- The row made so far. -/
def Acc (W0 : World) (L : List ByteArray) (v : Value) (wr : World) : Prop :=
  wr.ownsRow W0.heap.size 9 1 v L.length (strs L) ∧ Below W0.heap.size W0 wr
theorem Acc.start (W0 : World) : Acc W0 [] (.slice none 0 0) W0 := ⟨World.ownsRow_nil _ _ _ _, Below.refl _ _⟩
theorem Acc.push {W0 wr w2 : World} {L : List ByteArray} {v v' : Value} {x : ByteArray} {o : Obj} (h : Acc W0 L v wr)
    (h1 : w2.ownsRow W0.heap.size 9 1 v' (L.length + 1) (strs L ++ [.string x])) (hg : (wr.alloc o).grownBy w2 v.ownBlock) : Acc W0 (L ++ [x]) v' w2 := by
  have hB := h.2
  refine ⟨?_, (hB.alloc hB.size o).grown hg (by simp; have := hB.size; omega) (fun r e => (h.1.lt r e).1)⟩
  rw [List.length_append, strs_append]
  exact h1
theorem tag_cells {W : World} {B : Nat} {a b c d e f g h : Value} {t : TypeId} (hb : W.heap[B]? = some (.cells #[a, b, c, d, e, f, g, h] t (0, 0))) :
    W.cell? ⟨B, 0, none⟩ = some a ∧ W.cell? ⟨B, 1, none⟩ = some b ∧ W.cell? ⟨B, 2, none⟩ = some c ∧ W.cell? ⟨B, 3, none⟩ = some d ∧ W.cell? ⟨B, 4, none⟩ = some e ∧ W.cell? ⟨B, 5, none⟩ = some f ∧ W.cell? ⟨B, 6, none⟩ = some g ∧ W.cell? ⟨B, 7, none⟩ = some h := by
  simp [World.cell?, hb]

theorem lt_of_cellF {W : World} {a : Addr} {v : Value} (h : W.cell? a = some v) : a.block < W.heap.size := by
  rcases Nat.lt_or_ge a.block W.heap.size with h' | h'
  · exact h'
  · simp [World.cell?, Array.getElem?_eq_none h'] at h
theorem flat_len (l : List (ByteArray × List ByteArray)) (h : ∀ x ∈ l, x.2.length ≤ 100) (k : Nat) : ((l.take k).flatMap extT).length ≤ 101 * k := by
  induction k generalizing l with
  | zero => simp
  | succ k ih =>
    cases l with
    | nil => simp
    | cons a r =>
      rw [List.take_succ_cons, List.flatMap_cons, List.length_append]
      have h1 := ih r (fun x hx => h x (List.mem_cons_of_mem _ hx))
      have h2 := h a (List.mem_cons_self ..)
      have h3 : (extT a).length = a.2.length + 1 := rfl
      omega
theorem take_next {α : Type} {l : List α} {k : Nat} {x : α} (h : l[k]? = some x) : l.take (k + 1) = l.take k ++ [x] := by
  rw [List.take_add_one, h]
  rfl

end Go.Proofs.Ythjfcfhibdpbnaa
