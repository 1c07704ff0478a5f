/-
  Rows of extensions that a call has made; tags written cell by cell.
-/
import Derived.Test.YthjfcfhibdpbnaaFFew
namespace Go.Proofs.Ythjfcfhibdpbnaa
open Go Go.RowKit

theorem ownsRow_belowF {w w' : World} {base : Nat} {e : TypeId} {size : Nat} {v : Value} {n : Nat} {xs : List Value} (h : w.ownsRow base e size v n xs) (hb : Below w.heap.size w w') : w'.ownsRow base e size v n xs :=
  h.kept (row := none) ⟨hb.os, hb.tape, hb.output, hb.size, fun k hk _ => hb.block k hk⟩ (by cases hv : v.ownBlock <;> simp)
theorem own_slice {w : World} {base : Nat} {e : TypeId} {size : Nat} {v : Value} {n : Nat} {xs : List Value} (h : w.ownsRow base e size v n xs) : ∃ ao n' c, v = .slice ao n' c := by
  rcases owned_cases h with ⟨h, _⟩ | ⟨g, c, h⟩
  · exact ⟨_, _, _, h⟩
  · exact ⟨_, _, _, h⟩
theorem cells_set {w : World} {B k : Nat} {cs : Array Value} {t : TypeId} (h : w.heap[B]? = some (.cells cs t (0, 0))) (v : Value) : (w.setCell ⟨B, k, none⟩ v).heap[B]? = some (.cells (cs.setIfInBounds k v) t (0, 0)) := by
  simp [World.setCell, Array.getElem?_modify, h]
theorem cells_frozen {w : World} {B : Nat} (k : Nat) {cs : Array Value} {t : TypeId} (h : w.heap[B]? = some (.cells cs t (0, 0))) : w.frozen? ⟨B, k, none⟩ = false := by
  simp [World.frozen?, h]
theorem grown_setF {A W : World} {B : Nat} (h : A.grownBy W (some B)) (k : Nat) (v : Value) : A.grownBy (W.setCell ⟨B, k, none⟩ v) (some B) :=
  ⟨h.os, h.tape, h.output, by rw [show (W.setCell ⟨B, k, none⟩ v).heap.size = W.heap.size by simp [World.setCell]]; exact h.size, fun j hj hne => (Below.heap_setCell W ⟨B, k, none⟩ v j (fun e => hne (by rw [e]))).trans (h.block j hj hne)⟩
theorem tag_store {w : World} {B : Nat} {t : TypeId} {a0 a1 a2 a3 a4 a5 a6 a7 : Value} (h : w.heap[B]? = some (.cells #[a0, a1, a2, a3, a4, a5, a6, a7] t (0, 0))) (b0 b1 b2 b3 b4 b5 b6 b7 : Value) :
    ((((((((w.setCell ⟨B, 0, none⟩ b0).setCell ⟨B, 1, none⟩ b1).setCell ⟨B, 2, none⟩ b2).setCell ⟨B, 3, none⟩ b3).setCell ⟨B, 4, none⟩ b4).setCell ⟨B, 5, none⟩ b5).setCell ⟨B, 6, none⟩ b6).setCell ⟨B, 7, none⟩ b7).heap[B]? = some (.cells #[b0, b1, b2, b3, b4, b5, b6, b7] t (0, 0)) ∧
    w.grownBy ((((((((w.setCell ⟨B, 0, none⟩ b0).setCell ⟨B, 1, none⟩ b1).setCell ⟨B, 2, none⟩ b2).setCell ⟨B, 3, none⟩ b3).setCell ⟨B, 4, none⟩ b4).setCell ⟨B, 5, none⟩ b5).setCell ⟨B, 6, none⟩ b6).setCell ⟨B, 7, none⟩ b7) (some B) := by
  have e0 : (w.setCell ⟨B, 0, none⟩ b0).heap[B]? = some (.cells #[b0, a1, a2, a3, a4, a5, a6, a7] t (0, 0)) := cells_set h b0
  have e1 : ((w.setCell ⟨B, 0, none⟩ b0).setCell ⟨B, 1, none⟩ b1).heap[B]? = some (.cells #[b0, b1, a2, a3, a4, a5, a6, a7] t (0, 0)) := cells_set e0 b1
  have e2 : (((w.setCell ⟨B, 0, none⟩ b0).setCell ⟨B, 1, none⟩ b1).setCell ⟨B, 2, none⟩ b2).heap[B]? = some (.cells #[b0, b1, b2, a3, a4, a5, a6, a7] t (0, 0)) := cells_set e1 b2
  have e3 : ((((w.setCell ⟨B, 0, none⟩ b0).setCell ⟨B, 1, none⟩ b1).setCell ⟨B, 2, none⟩ b2).setCell ⟨B, 3, none⟩ b3).heap[B]? = some (.cells #[b0, b1, b2, b3, a4, a5, a6, a7] t (0, 0)) := cells_set e2 b3
  have e4 : (((((w.setCell ⟨B, 0, none⟩ b0).setCell ⟨B, 1, none⟩ b1).setCell ⟨B, 2, none⟩ b2).setCell ⟨B, 3, none⟩ b3).setCell ⟨B, 4, none⟩ b4).heap[B]? = some (.cells #[b0, b1, b2, b3, b4, a5, a6, a7] t (0, 0)) := cells_set e3 b4
  have e5 : ((((((w.setCell ⟨B, 0, none⟩ b0).setCell ⟨B, 1, none⟩ b1).setCell ⟨B, 2, none⟩ b2).setCell ⟨B, 3, none⟩ b3).setCell ⟨B, 4, none⟩ b4).setCell ⟨B, 5, none⟩ b5).heap[B]? = some (.cells #[b0, b1, b2, b3, b4, b5, a6, a7] t (0, 0)) := cells_set e4 b5
  have e6 : (((((((w.setCell ⟨B, 0, none⟩ b0).setCell ⟨B, 1, none⟩ b1).setCell ⟨B, 2, none⟩ b2).setCell ⟨B, 3, none⟩ b3).setCell ⟨B, 4, none⟩ b4).setCell ⟨B, 5, none⟩ b5).setCell ⟨B, 6, none⟩ b6).heap[B]? = some (.cells #[b0, b1, b2, b3, b4, b5, b6, a7] t (0, 0)) := cells_set e5 b6
  have e7 : ((((((((w.setCell ⟨B, 0, none⟩ b0).setCell ⟨B, 1, none⟩ b1).setCell ⟨B, 2, none⟩ b2).setCell ⟨B, 3, none⟩ b3).setCell ⟨B, 4, none⟩ b4).setCell ⟨B, 5, none⟩ b5).setCell ⟨B, 6, none⟩ b6).setCell ⟨B, 7, none⟩ b7).heap[B]? = some (.cells #[b0, b1, b2, b3, b4, b5, b6, b7] t (0, 0)) := cells_set e6 b7
  have g0 := grown_setF (World.grownBy.refl w (some B)) 0 b0
  have g1 := grown_setF g0 1 b1
  have g2 := grown_setF g1 2 b2
  have g3 := grown_setF g2 3 b3
  have g4 := grown_setF g3 4 b4
  have g5 := grown_setF g4 5 b5
  have g6 := grown_setF g5 6 b6
  exact ⟨e7, grown_setF g6 7 b7⟩
theorem own_not_tag {w : World} {base B : Nat} {v : Value} {n : Nat} {xs : List Value} {cs : Array Value} (h : w.ownsRow base 9 1 v n xs) (hB : w.heap[B]? = some (.cells cs 40 (0, 0))) : v.ownBlock ≠ some B := by
  rcases h.2 with ⟨rfl, _⟩ | ⟨g, c, cur, rfl, _, hg, _⟩
  · simp [Value.ownBlock]
  · intro e
    have e : g = B := by simpa [Value.ownBlock] using e
    subst e
    rw [hB] at hg
    simp at hg
theorem lt_of_heap {w : World} {k : Nat} {o : Obj} (h : w.heap[k]? = some o) : k < w.heap.size := (Array.getElem?_eq_some_iff.1 h).1

theorem own_types_ne {w : World} {b1 b2 s1 s2 n1 n2 : Nat} {e1 e2 : TypeId} {v1 v2 : Value} {x1 x2 : List Value} (h1 : w.ownsRow b1 e1 s1 v1 n1 x1) (h2 : w.ownsRow b2 e2 s2 v2 n2 x2) (hne : e1 ≠ e2) : v1.ownBlock = none ∨ v1.ownBlock ≠ v2.ownBlock := by
  rcases h1.2 with ⟨rfl, _⟩ | ⟨g, c, cur, rfl, _, hg, _⟩
  · exact .inl rfl
  · right
    rcases h2.2 with ⟨rfl, _⟩ | ⟨g', c', cur', rfl, _, hg', _⟩
    · simp [Value.ownBlock]
    · intro e
      have e : g = g' := by simpa [Value.ownBlock] using e
      subst e
      rw [hg] at hg'
      simp at hg'
      exact hne hg'.2

/-- A row of extensions that the call itself has made, with rows of its own. -/
def extCells (L : List (ByteArray × List ByteArray)) (us : List Value) : List Value := (L.zip us).flatMap fun p => [.string p.1.1, p.2]
def ExtO (W : World) (base : Nat) (v : Value) (L : List (ByteArray × List ByteArray)) : Prop :=
  ∃ us : List Value, us.length = L.length ∧ W.ownsRow base 72 2 v L.length (extCells L us) ∧ ∀ (i : Nat) (u : Value) (x : ByteArray × List ByteArray), us[i]? = some u → L[i]? = some x → W.ownsRow base 9 1 u x.2.length (strs x.2)
theorem extCells_length {L : List (ByteArray × List ByteArray)} {us : List Value} (h : us.length = L.length) : (extCells L us).length = L.length * 2 := by
  induction L generalizing us with
  | nil => simp [extCells]
  | cons a r ih =>
    cases us with
    | nil => simp at h
    | cons u us =>
      have := ih (us := us) (by simpa using h)
      unfold extCells at *
      rw [List.zip_cons_cons, List.flatMap_cons, List.length_append, this]
      simp
      omega
theorem extCells_get {L : List (ByteArray × List ByteArray)} {us : List Value} (h : us.length = L.length) {i : Nat} {x : ByteArray × List ByteArray} {u : Value} (hx : L[i]? = some x) (hu : us[i]? = some u) : (extCells L us)[i * 2]? = some (.string x.1) ∧ (extCells L us)[i * 2 + 1]? = some u := by
  induction L generalizing us i with
  | nil => simp at hx
  | cons a r ih =>
    cases us with
    | nil => simp at h
    | cons u' us =>
      cases i with
      | zero =>
        simp at hx hu
        subst hx hu
        simp [extCells]
      | succ i =>
        have := ih (us := us) (by simpa using h) (by simpa using hx) (by simpa using hu)
        unfold extCells at *
        rw [List.zip_cons_cons, List.flatMap_cons]
        have e1 : (i + 1) * 2 = i * 2 + 2 := by omega
        rw [e1]
        simpa using this
theorem ExtO.nil (W : World) (base : Nat) : ExtO W base (.slice none 0 0) [] := ⟨[], rfl, World.ownsRow_nil _ _ _ _, fun i u x hu => by simp at hu⟩
theorem ExtO.kept {W W' : World} {base : Nat} {v : Value} {L : List (ByteArray × List ByteArray)} {row : Option Nat} (h : ExtO W base v L) (hg : W.grownBy W' row) (hr : ∀ g, row = some g → g < base ∨ ∃ cs, W.heap[g]? = some (.cells cs 40 (0, 0))) : ExtO W' base v L := by
  obtain ⟨us, h1, h2, h3⟩ := h
  have ne : ∀ {e : TypeId} {s n : Nat} {u : Value} {xs : List Value}, e ≠ 40 → W.ownsRow base e s u n xs → u.ownBlock = none ∨ u.ownBlock ≠ row := by
    intro e s n u xs hne ho
    cases hb : u.ownBlock with
    | none => exact .inl rfl
    | some g =>
      right
      intro hrow
      rcases hr g hrow.symm with hlt | ⟨cs, hcs⟩
      · have := (ho.lt g hb).1
        omega
      · rcases ho.2 with ⟨rfl, _⟩ | ⟨g', c, cur, rfl, _, hg', _⟩
        · simp [Value.ownBlock] at hb
        · have e : g' = g := by simpa [Value.ownBlock] using hb
          subst e
          rw [hcs] at hg'
          simp at hg'
          exact hne hg'.2.symm
  exact ⟨us, h1, h2.kept hg (ne (by decide) h2), fun i u x hu hx => (h3 i u x hu hx).kept hg (ne (by decide) (h3 i u x hu hx))⟩
theorem ExtO.below {W W' : World} {base : Nat} {v : Value} {L : List (ByteArray × List ByteArray)} (h : ExtO W base v L) (hb : Below W.heap.size W W') : ExtO W' base v L :=
  h.kept (row := none) ⟨hb.os, hb.tape, hb.output, hb.size, fun k hk _ => hb.block k hk⟩ (fun g hg => by cases hg)
theorem ExtO.snoc {W : World} {base : Nat} {v' u : Value} {L : List (ByteArray × List ByteArray)} {x : ByteArray × List ByteArray} {us : List Value} (h1 : us.length = L.length)
    (h3 : ∀ (i : Nat) (u : Value) (x : ByteArray × List ByteArray), us[i]? = some u → L[i]? = some x → W.ownsRow base 9 1 u x.2.length (strs x.2))
    (hu : W.ownsRow base 9 1 u x.2.length (strs x.2)) (ho : W.ownsRow base 72 2 v' (L.length + 1) (extCells L us ++ [.string x.1, u])) : ExtO W base v' (L ++ [x]) := by
  refine ⟨us ++ [u], by simp [h1], ?_, fun i u' y hu' hy => ?_⟩
  · have e : extCells (L ++ [x]) (us ++ [u]) = extCells L us ++ [.string x.1, u] := by
      unfold extCells
      rw [List.zip_append h1.symm, List.flatMap_append]
      rfl
    rw [e, List.length_append]
    exact ho
  · rcases Nat.lt_or_ge i us.length with hi | hi
    · rw [List.getElem?_append_left hi] at hu'
      rw [List.getElem?_append_left (by omega)] at hy
      exact h3 i u' y hu' hy
    · rw [List.getElem?_append_right hi] at hu'
      rw [List.getElem?_append_right (by omega), ← h1] at hy
      have hi0 : i - us.length = 0 := by
        rcases Nat.eq_zero_or_pos (i - us.length) with h0 | h0
        · exact h0
        · rw [List.getElem?_eq_none (by simp; omega)] at hu'; cases hu'
      rw [hi0] at hu' hy
      simp at hu' hy
      subst hu' hy
      exact hu
theorem ExtO.row {W : World} {base : Nat} {v : Value} {L : List (ByteArray × List ByteArray)} (h : ExtO W base v L) : ExtRow W v L := by
  obtain ⟨us, h1, h2, h3⟩ := h
  rcases owned_cases h2 with ⟨rfl, h0⟩ | ⟨g, cap, rfl⟩
  · obtain rfl : L = [] := List.eq_nil_of_length_eq_zero h0
    exact ⟨none, 0, rfl, fun i x hx => by simp at hx⟩
  · refine ⟨some ⟨g, 0, none⟩, cap, rfl, fun i x hx => ?_⟩
    have hi : i < L.length := (List.getElem?_eq_some_iff.1 hx).1
    obtain ⟨u, hu⟩ : ∃ u, us[i]? = some u := ⟨_, List.getElem?_eq_getElem (by omega)⟩
    obtain ⟨c1, c2⟩ := extCells_get h1 hx hu
    have k1 := h2.cells rfl _ _ c1
    have k2 := h2.cells rfl _ _ c2
    rw [Addr.add_lit, Nat.zero_add] at k1 k2
    exact ⟨g, u, rfl, k1, k2, Row.of_own (h3 i u x hu hx)⟩
/-- A row of extensions that came in. -/
def ExtA (W : World) (v : Value) (l : List (ByteArray × List ByteArray)) : Prop :=
  ∃ ao cap, v = .slice ao l.length cap ∧ l.length ≤ maxLen ∧ ∀ i x, l[i]? = some x → ∃ b o vs, ao = some ⟨b, o, none⟩ ∧ W.cell? ⟨b, o + i * 2, none⟩ = some (.string x.1) ∧ W.cell? ⟨b, o + i * 2 + 1, none⟩ = some vs ∧ x.1.size ≤ maxLen ∧ RowA W vs x.2
theorem ExtA.below {W W' : World} {v : Value} {l : List (ByteArray × List ByteArray)} (h : ExtA W v l) (hb : Below W.heap.size W W') : ExtA W' v l := by
  obtain ⟨ao, cap, rfl, hl, hc⟩ := h
  refine ⟨ao, cap, rfl, hl, fun i x hx => ?_⟩
  obtain ⟨b, o, vs, h1, h2, h3, h4, h5⟩ := hc i x hx
  exact ⟨b, o, vs, h1, (hb.cell (p := ⟨b, o + i * 2, none⟩) (lt_of_cellF h2)).trans h2, (hb.cell (p := ⟨b, o + i * 2 + 1, none⟩) (lt_of_cellF h3)).trans h3, h4, h5.below hb⟩
end Go.Proofs.Ythjfcfhibdpbnaa
