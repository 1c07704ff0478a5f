import Derived.Test.YtaiailcimpgmaaaBase
import Derived.Test.YtaiailcimpgmaaaSeqs
import Derived.Test.YtaiailcimpgmaaaAImg
namespace Go.Proofs.Ytaiailcimpgmaaa
open Go Go.RowKit
def strs (l : List ByteArray) : List Value := l.map Value.string
theorem strs_length (l : List ByteArray) : (strs l).length = l.length := List.length_map ..
theorem strs_get {l : List ByteArray} {k : Nat} {p : ByteArray} (h : l[k]? = some p) : (strs l)[k]? = some (.string p) := by
  unfold strs; rw [List.getElem?_map, h]; rfl
theorem own_cell {w : World} {base g cap n : Nat} {l : List ByteArray} (h : w.ownsRow base 9 1 (.slice (some ⟨g, 0, none⟩) n cap) n (strs l)) : ∀ i p, l[i]? = some p → w.cell? ⟨g, i, none⟩ = some (.string p) := fun i p hp => by
  have hl : l.length = n := by have := h.1; rw [strs_length] at this; omega
  have hi := (List.getElem?_eq_some_iff.1 hp).1
  exact (h.cellAt i (by omega)).trans (strs_get hp)
theorem strs_one (l : List ByteArray) : ∀ u ∈ strs l, u.oneCell' = true := by
  intro u hu
  obtain ⟨p, _, rfl⟩ := List.mem_map.1 hu
  rfl
theorem strs_append (a b : List ByteArray) : strs (a ++ b) = strs a ++ strs b := List.map_append ..
def Row (W : World) (v : Value) (l : List ByteArray) : Prop :=
  ∃ ao cap, v = .slice ao l.length cap ∧ ∀ i x, l[i]? = some x → ∃ g, ao = some ⟨g, 0, none⟩ ∧ W.cell? ⟨g, i, none⟩ = some (.string x)
theorem Row.below {W W' : World} {v : Value} {l : List ByteArray} (h : Row W v l) (hb : Below W.heap.size W W') : Row W' v l := by
  obtain ⟨ao, cap, rfl, hc⟩ := h
  refine ⟨ao, cap, rfl, fun i x hx => ?_⟩
  obtain ⟨g, h1, h2⟩ := hc i x hx
  refine ⟨g, h1, ?_⟩
  have hg : g < W.heap.size := by
    rcases Nat.lt_or_ge g W.heap.size with h' | h'
    · exact h'
    · simp [World.cell?, Array.getElem?_eq_none h'] at h2
  exact (hb.cell (p := ⟨g, i, none⟩) hg).trans h2
def ExtRow (W : World) (v : Value) (l : List (ByteArray × List ByteArray)) : Prop :=
  ∃ ao cap, v = .slice ao l.length cap ∧ ∀ i x, l[i]? = some x → ∃ g vs, ao = some ⟨g, 0, none⟩ ∧ W.cell? ⟨g, i * 2, none⟩ = some (.string x.1) ∧ W.cell? ⟨g, i * 2 + 1, none⟩ = some vs ∧ Row W vs x.2
theorem ExtRow.below {W W' : World} {v : Value} {l : List (ByteArray × List ByteArray)} (h : ExtRow W v l) (hb : Below W.heap.size W W') : ExtRow W' v l := by
  obtain ⟨ao, cap, rfl, hc⟩ := h
  refine ⟨ao, cap, rfl, fun i x hx => ?_⟩
  obtain ⟨g, vs, h1, h2, h3, h4⟩ := hc i x hx
  have hg : g < W.heap.size := by
    rcases Nat.lt_or_ge g W.heap.size with h' | h'
    · exact h'
    · simp [World.cell?, Array.getElem?_eq_none h'] at h2
  exact ⟨g, vs, h1, (hb.cell (p := ⟨g, i * 2, none⟩) hg).trans h2, (hb.cell (p := ⟨g, i * 2 + 1, none⟩) hg).trans h3, h4.below hb⟩
structure TagM where
  lang : ByteArray
  extl : List ByteArray
  script : ByteArray
  region : ByteArray
  vars : List ByteArray
  exts : List (ByteArray × List ByteArray)
  priv : List ByteArray
  grand : ByteArray
def TagIs (W : World) (v : Value) (T : TagM) : Prop :=
  ∃ ve vv vx vp, v = .agg #[.string T.lang, ve, .string T.script, .string T.region, vv, vx, vp, .string T.grand] ∧ Row W ve T.extl ∧ Row W vv T.vars ∧ ExtRow W vx T.exts ∧ Row W vp T.priv
theorem TagIs.below {W W' : World} {v : Value} {T : TagM} (h : TagIs W v T) (hb : Below W.heap.size W W') : TagIs W' v T := by
  obtain ⟨ve, vv, vx, vp, rfl, h1, h2, h3, h4⟩ := h
  exact ⟨ve, vv, vx, vp, rfl, h1.below hb, h2.below hb, h3.below hb, h4.below hb⟩
def TagFits (T : TagM) : Prop := T.extl.length ≤ 100 ∧ T.vars.length ≤ 100 ∧ T.exts.length ≤ 100 ∧ (∀ x ∈ T.exts, x.2.length ≤ 100) ∧ T.priv.length ≤ 100 ∧ T.grand.size ≤ 100
theorem tag_cells {W : World} {B : Nat} {a b c d e f g h : Value} {t : TypeId} (hb : W.heap[B]? = some (.cells #[a, b, c, d, e, f, g, h] t (0, 0))) :
    W.cell? ⟨B, 0, none⟩ = some a ∧ W.cell? ⟨B, 1, none⟩ = some b ∧ W.cell? ⟨B, 2, none⟩ = some c ∧ W.cell? ⟨B, 3, none⟩ = some d ∧ W.cell? ⟨B, 4, none⟩ = some e ∧ W.cell? ⟨B, 5, none⟩ = some f ∧ W.cell? ⟨B, 6, none⟩ = some g ∧ W.cell? ⟨B, 7, none⟩ = some h := by
  simp [World.cell?, hb]
theorem lt_of_cellF {W : World} {a : Addr} {v : Value} (h : W.cell? a = some v) : a.block < W.heap.size := by
  rcases Nat.lt_or_ge a.block W.heap.size with h' | h'
  · exact h'
  · simp [World.cell?, Array.getElem?_eq_none h'] at h
theorem take_next {α : Type} {l : List α} {k : Nat} {x : α} (h : l[k]? = some x) : l.take (k + 1) = l.take k ++ [x] := by
  rw [List.take_add_one, h]
  rfl
def extCells (L : List (ByteArray × List ByteArray)) (us : List Value) : List Value := (L.zip us).flatMap fun p => [.string p.1.1, p.2]
theorem extCells_length {L : List (ByteArray × List ByteArray)} {us : List Value} (h : us.length = L.length) : (extCells L us).length = L.length * 2 := by
  induction L generalizing us with
  | nil => simp [extCells]
  | cons a r ih =>
    cases us with
    | nil => simp at h
    | cons u us =>
      have := ih (us := us) (by simpa using h)
      unfold extCells at *
      rw [List.zip_cons_cons, List.flatMap_cons, List.length_append, this]
      simp
      omega
end Go.Proofs.Ytaiailcimpgmaaa
