/-
  Package likely: clone. (Printed by wip/gen_tclone.py.)
-/
import Derived.Test.YthjfcfhibdpbnaaTCopy
namespace Go.Proofs.Ythjfcfhibdpbnaa
open Go Go.RowKit

theorem own_sliceT {w : World} {base : Nat} {e : TypeId} {sz : Nat} {v : Value} {n : Nat} {xs : List Value} (h : w.ownsRow base e sz v n xs) : ∃ ao m cap, v = .slice ao m cap := by
  rcases h.2 with ⟨rfl, _⟩ | ⟨g, cap, cur, rfl, _⟩
  · exact ⟨_, _, _, rfl⟩
  · exact ⟨_, _, _, rfl⟩
theorem own_lenT {w : World} {base : Nat} {e : TypeId} {sz : Nat} {ao : Option Addr} {m cap : Nat} {n : Nat} {xs : List Value} (h : w.ownsRow base e sz (.slice ao m cap) n xs) : m = n := by
  rcases h.2 with ⟨h, h2⟩ | ⟨g, cap, cur, h, _⟩
  · injection h with _ h _; omega
  · injection h with _ h _
theorem frozenT {w : World} {B : Nat} {cs : Array Value} {t : TypeId} (i : Nat) (h : w.heap[B]? = some (.cells cs t (0, 0))) : w.frozen? ⟨B, i, none⟩ = false := by simp [World.frozen?, h]
theorem cells_setT {w : World} {B k : Nat} {cs : Array Value} {t : TypeId} (h : w.heap[B]? = some (.cells cs t (0, 0))) (v : Value) : (w.setCell ⟨B, k, none⟩ v).heap[B]? = some (.cells (cs.setIfInBounds k v) t (0, 0)) := heap_setCell_same w B k cs t v h
theorem grown_setT {A W : World} {B : Nat} (h : A.grownBy W (some B)) (k : Nat) (v : Value) : A.grownBy (W.setCell ⟨B, k, none⟩ v) (some B) :=
  h.trans ⟨rfl, rfl, rfl, by simp, fun j _ hj => heap_setCell_other W ⟨B, k, none⟩ j v (fun e => hj (by simp [e]))⟩
/-- An own row is a row. -/
theorem row_of_own {W : World} {base : Nat} {u : Value} {l : List ByteArray} (h : W.ownsRow base 9 1 u l.length (strs l)) : Row W u l := by
  rcases h.2 with ⟨rfl, h0⟩ | ⟨g, cap, cur, rfl, _, hg, _, _, _, ht⟩
  · have : l = [] := List.eq_nil_of_length_eq_zero h0
    subst this
    exact ⟨none, 0, rfl, fun i x hx => by simp at hx⟩
  · refine ⟨_, cap, rfl, fun i x hx => ⟨g, rfl, ?_⟩⟩
    have h2 := h.cellAt i (by have := (List.getElem?_eq_some_iff.1 hx).1; omega)
    rw [h2, strs_get hx]
/-- A row in none of some blocks. -/
def RowNe (p : Nat → Prop) (W : World) (v : Value) (l : List ByteArray) : Prop :=
  ∃ ao cap, v = .slice ao l.length cap ∧ ∀ i x, l[i]? = some x → ∃ g, ¬ p g ∧ ao = some ⟨g, 0, none⟩ ∧ W.cell? ⟨g, i, none⟩ = some (.string x)
theorem RowNe.row {p : Nat → Prop} {W : World} {v : Value} {l : List ByteArray} (h : RowNe p W v l) : Row W v l := by
  obtain ⟨ao, cap, rfl, hc⟩ := h
  exact ⟨ao, cap, rfl, fun i x hx => by obtain ⟨g, _, h1, h2⟩ := hc i x hx; exact ⟨g, h1, h2⟩⟩
theorem RowNe.of_lt {p : Nat → Prop} {W : World} {v : Value} {l : List ByteArray} (h : Row W v l) (hX : ∀ k, p k → W.heap.size ≤ k) : RowNe p W v l := by
  obtain ⟨ao, cap, rfl, hc⟩ := h
  exact ⟨ao, cap, rfl, fun i x hx => by obtain ⟨g, h1, h2⟩ := hc i x hx; exact ⟨g, fun hp => by have : g < W.heap.size := lt_cellT h2; have := hX g hp; omega, h1, h2⟩⟩
theorem RowNe.of_own {p : Nat → Prop} {base : Nat} {W : World} {u : Value} {l : List ByteArray} (h : W.ownsRow base 9 1 u l.length (strs l)) (hX : ∀ k, p k → k < base) : RowNe p W u l := by
  have hr := row_of_own h
  obtain ⟨ao, cap, rfl, hc⟩ := hr
  exact ⟨ao, cap, rfl, fun i x hx => by obtain ⟨g, rfl, h2⟩ := hc i x hx; exact ⟨g, fun hp => by have := (h.lt g rfl).1; have := hX g hp; omega, rfl, h2⟩⟩
theorem RowNe.below {p : Nat → Prop} {W W' : World} {v : Value} {l : List ByteArray} (h : RowNe p W v l) (hb : Below W.heap.size W W') : RowNe p W' v l := by
  obtain ⟨ao, cap, rfl, hc⟩ := h
  exact ⟨ao, cap, rfl, fun i x hx => by obtain ⟨g, h0, h1, h2⟩ := hc i x hx; exact ⟨g, h0, h1, (hb.cell (p := ⟨g, i, none⟩) (lt_cellT h2)).trans h2⟩⟩
theorem RowNe.grown {p : Nat → Prop} {X : Nat} {W W' : World} {v : Value} {l : List ByteArray} (h : RowNe p W v l) (hg : W.grownBy W' (some X)) (hX : p X) : RowNe p W' v l := by
  obtain ⟨ao, cap, rfl, hc⟩ := h
  exact ⟨ao, cap, rfl, fun i x hx => by
    obtain ⟨g, h0, h1, h2⟩ := hc i x hx
    exact ⟨g, h0, h1, hg.cell (a := ⟨g, i, none⟩) h2 (fun e => h0 (by have e2 : g = X := Option.some.inj e; rw [e2]; exact hX))⟩⟩

theorem RowNe.weaken {p q : Nat → Prop} {W : World} {v : Value} {l : List ByteArray} (h : RowNe p W v l) (hq : ∀ k, q k → p k) : RowNe q W v l := by
  obtain ⟨ao, cap, rfl, hc⟩ := h
  exact ⟨ao, cap, rfl, fun i x hx => by obtain ⟨g, h0, h1, h2⟩ := hc i x hx; exact ⟨g, fun hg => h0 (hq g hg), h1, h2⟩⟩
theorem RowNe.more {p : Nat → Prop} {W : World} {v : Value} {l : List ByteArray} (h : RowNe p W v l) : RowNe (fun k => p k ∨ W.heap.size ≤ k) W v l := by
  obtain ⟨ao, cap, rfl, hc⟩ := h
  exact ⟨ao, cap, rfl, fun i x hx => by
    obtain ⟨g, h0, h1, h2⟩ := hc i x hx
    exact ⟨g, fun hg => hg.elim h0 (fun hg => by have : g < W.heap.size := lt_cellT h2; omega), h1, h2⟩⟩
def ExtNe (p : Nat → Prop) (W : World) (v : Value) (l : List (ByteArray × List ByteArray)) : Prop :=
  ∃ ao cap, v = .slice ao l.length cap ∧ ∀ i x, l[i]? = some x → ∃ g vs, ¬ p g ∧ ao = some ⟨g, 0, none⟩ ∧ W.cell? ⟨g, i * 2, none⟩ = some (.string x.1) ∧ W.cell? ⟨g, i * 2 + 1, none⟩ = some vs ∧ RowNe p W vs x.2
theorem ExtNe.row {p : Nat → Prop} {W : World} {v : Value} {l : List (ByteArray × List ByteArray)} (h : ExtNe p W v l) : ExtRow W v l := by
  obtain ⟨ao, cap, rfl, hc⟩ := h
  exact ⟨ao, cap, rfl, fun i x hx => by obtain ⟨g, vs, _, h1, h2, h3, h4⟩ := hc i x hx; exact ⟨g, vs, h1, h2, h3, h4.row⟩⟩
theorem ExtNe.below {p : Nat → Prop} {W W' : World} {v : Value} {l : List (ByteArray × List ByteArray)} (h : ExtNe p W v l) (hb : Below W.heap.size W W') : ExtNe p W' v l := by
  obtain ⟨ao, cap, rfl, hc⟩ := h
  exact ⟨ao, cap, rfl, fun i x hx => by obtain ⟨g, vs, h0, h1, h2, h3, h4⟩ := hc i x hx; exact ⟨g, vs, h0, h1, (hb.cell (p := ⟨g, i * 2, none⟩) (lt_cellT h2)).trans h2, (hb.cell (p := ⟨g, i * 2 + 1, none⟩) (lt_cellT h3)).trans h3, h4.below hb⟩⟩
theorem ExtNe.grown {p : Nat → Prop} {X : Nat} {W W' : World} {v : Value} {l : List (ByteArray × List ByteArray)} (h : ExtNe p W v l) (hg : W.grownBy W' (some X)) (hX : p X) : ExtNe p W' v l := by
  obtain ⟨ao, cap, rfl, hc⟩ := h
  exact ⟨ao, cap, rfl, fun i x hx => by
    obtain ⟨g, vs, h0, h1, h2, h3, h4⟩ := hc i x hx
    have hne : some g ≠ some X := fun e => h0 (by have e2 : g = X := Option.some.inj e; rw [e2]; exact hX)
    exact ⟨g, vs, h0, h1, hg.cell (a := ⟨g, i * 2, none⟩) h2 hne, hg.cell (a := ⟨g, i * 2 + 1, none⟩) h3 hne, h4.grown hg hX⟩⟩
theorem ExtNe.more {p : Nat → Prop} {W : World} {v : Value} {l : List (ByteArray × List ByteArray)} (h : ExtNe p W v l) : ExtNe (fun k => p k ∨ W.heap.size ≤ k) W v l := by
  obtain ⟨ao, cap, rfl, hc⟩ := h
  exact ⟨ao, cap, rfl, fun i x hx => by
    obtain ⟨g, vs, h0, h1, h2, h3, h4⟩ := hc i x hx
    exact ⟨g, vs, fun hg => hg.elim h0 (fun hg => by have : g < W.heap.size := lt_cellT h2; omega), h1, h2, h3, h4.more⟩⟩
/-- A tag whose rows lie in none of some blocks. -/
def TagNe (p : Nat → Prop) (W : World) (v : Value) (T : TagM) : Prop :=
  ∃ ve vv vx vp, v = .agg #[.string T.lang, ve, .string T.script, .string T.region, vv, vx, vp, .string T.grand] ∧ RowNe p W ve T.extl ∧ RowNe p W vv T.vars ∧ ExtNe p W vx T.exts ∧ RowNe p W vp T.priv
theorem TagNe.is {p : Nat → Prop} {W : World} {v : Value} {T : TagM} (h : TagNe p W v T) : TagIs W v T := by
  obtain ⟨ve, vv, vx, vp, rfl, h1, h2, h3, h4⟩ := h
  exact ⟨ve, vv, vx, vp, rfl, h1.row, h2.row, h3.row, h4.row⟩
theorem TagNe.below {p : Nat → Prop} {W W' : World} {v : Value} {T : TagM} (h : TagNe p W v T) (hb : Below W.heap.size W W') : TagNe p W' v T := by
  obtain ⟨ve, vv, vx, vp, rfl, h1, h2, h3, h4⟩ := h
  exact ⟨ve, vv, vx, vp, rfl, h1.below hb, h2.below hb, h3.below hb, h4.below hb⟩
theorem TagNe.grown {p : Nat → Prop} {X : Nat} {W W' : World} {v : Value} {T : TagM} (h : TagNe p W v T) (hg : W.grownBy W' (some X)) (hX : p X) : TagNe p W' v T := by
  obtain ⟨ve, vv, vx, vp, rfl, h1, h2, h3, h4⟩ := h
  exact ⟨ve, vv, vx, vp, rfl, h1.grown hg hX, h2.grown hg hX, h3.grown hg hX, h4.grown hg hX⟩
theorem TagNe.more {p : Nat → Prop} {W : World} {v : Value} {T : TagM} (h : TagNe p W v T) : TagNe (fun k => p k ∨ W.heap.size ≤ k) W v T := by
  obtain ⟨ve, vv, vx, vp, rfl, h1, h2, h3, h4⟩ := h
  exact ⟨ve, vv, vx, vp, rfl, h1.more, h2.more, h3.more, h4.more⟩
theorem TagNe.shape {p : Nat → Prop} {W : World} {v : Value} {T : TagM} (h : TagNe p W v T) : ∃ ae ac av vc ax xc ap pc, v = .agg #[.string T.lang, .slice ae T.extl.length ac, .string T.script, .string T.region, .slice av T.vars.length vc, .slice ax T.exts.length xc, .slice ap T.priv.length pc, .string T.grand] := by
  obtain ⟨ve, vv, vx, vp, rfl, ⟨a1, c1, rfl, _⟩, ⟨a2, c2, rfl, _⟩, ⟨a3, c3, rfl, _⟩, ⟨a4, c4, rfl, _⟩⟩ := h
  exact ⟨_, _, _, _, _, _, _, _, rfl⟩
theorem TagNe.turn {p : Nat → Prop} {W : World} {ve vv vx vp : Value} {T : TagM} (h : TagNe p W (.agg #[.string T.lang, ve, .string T.script, .string T.region, vv, vx, vp, .string T.grand]) T) (l s r : ByteArray) : TagNe p W (.agg #[.string l, ve, .string s, .string r, vv, vx, vp, .string T.grand]) { T with lang := l, script := s, region := r } := by
  obtain ⟨ve', vv', vx', vp', e, h1, h2, h3, h4⟩ := h
  injection e with e
  injection e with e
  injection e with _ e
  injection e with e1 e
  injection e with _ e
  injection e with _ e
  injection e with e2 e
  injection e with e3 e
  injection e with e4 _
  subst e1 e2 e3 e4
  exact ⟨_, _, _, _, rfl, h1, h2, h3, h4⟩
set_option maxRecDepth 100000 in
theorem sizeTagT : (Try.prog.info? 40).map (·.size) = some 8 := by kernel_rfl
theorem grown_of_belowT {W W' : World} {row : Option Nat} (h : Below W.heap.size W W') : W.grownBy W' row := ⟨h.os, h.tape, h.output, h.size, fun j hj _ => h.block j hj⟩
set_option maxRecDepth 100000 in
set_option maxHeartbeats 4000000 in
theorem clone_t (v : Value) (T : TagM) (w : World) (hT : TagIs w v T) (hF : TagFits T) :
    Calls Try.prog 40 #[v] w fun e w' => ∃ u, e = .returned u ∧ TagNe (fun k => k < w.heap.size) w' u T ∧ Below w.heap.size w w' := by
  obtain ⟨F1, F2, F3, F4, F5, F6⟩ := hF
  obtain ⟨ve, vv, vx, vp, rfl, R1, R2, R3, R4⟩ := hT
  obtain ⟨W0, hW0⟩ : ∃ W0, (w.alloc (.cells #[.string T.lang, ve, .string T.script, .string T.region, vv, vx, vp, .string T.grand] 40)).alloc (.cells #[.string ⟨#[]⟩, .slice none 0 0, .string ⟨#[]⟩, .string ⟨#[]⟩, .slice none 0 0, .slice none 0 0, .slice none 0 0, .string ⟨#[]⟩] 40) = W0 := ⟨_, rfl⟩
  have hb0 : Below w.heap.size w W0 := by rw [← hW0]; exact ((Below.refl _ w).alloc (Nat.le_refl _) _).alloc (by simp) _
  have hz0 : W0.heap.size = w.heap.size + 2 := by rw [← hW0]; simp
  have hA0 : W0.heap[w.heap.size]? = some (.cells #[.string T.lang, ve, .string T.script, .string T.region, vv, vx, vp, .string T.grand] 40 (0, 0)) := by rw [← hW0]; exact (Below.heap_alloc _ _ _ (by simp)).trans (World.alloc_heap_new w _)
  have hR0 : W0.heap[w.heap.size + 1]? = some (.cells #[.string ⟨#[]⟩, .slice none 0 0, .string ⟨#[]⟩, .string ⟨#[]⟩, .slice none 0 0, .slice none 0 0, .slice none 0 0, .string ⟨#[]⟩] 40 (0, 0)) := by
    have := World.alloc_heap_new (w.alloc (.cells #[.string T.lang, ve, .string T.script, .string T.region, vv, vx, vp, .string T.grand] 40)) (.cells #[.string ⟨#[]⟩, .slice none 0 0, .string ⟨#[]⟩, .string ⟨#[]⟩, .slice none 0 0, .slice none 0 0, .slice none 0 0, .string ⟨#[]⟩] 40)
    rw [World.size_alloc] at this
    rw [← hW0]
    exact this
  have HB0 := Lib.hid hb0
  have C1 := Lib.hid (fun w5 (hb : Below W0.heap.size W0 w5) => clone_row ve T.extl w5 (R1.below (HB0.out.trans (hb.mono HB0.out.size))) (by omega))
  have C2 := Lib.hid (fun w5 (hb : Below W0.heap.size W0 w5) => clone_row vv T.vars w5 (R2.below (HB0.out.trans (hb.mono HB0.out.size))) (by omega))
  have C3 := Lib.hid (fun w5 (hb : Below W0.heap.size W0 w5) => clone_row vp T.priv w5 (R4.below (HB0.out.trans (hb.mono HB0.out.size))) (by omega))
  have CX := Lib.hid (fun w5 (hb : Below w.heap.size w w5) => clone_ext vx T.exts w w5 hb R3 (by omega))
  have HX3 := Lib.hid F4
  have HXL := Lib.hid F3
  obtain ⟨a1, p1, rfl, -⟩ := R1
  obtain ⟨a2, p2, rfl, -⟩ := R2
  obtain ⟨a3, p3, rfl, -⟩ := R3
  obtain ⟨a4, p4, rfl, -⟩ := R4
  have HZ := Lib.hid hz0
  have HR0 := Lib.hid hR0
  have HA0 := Lib.hid hA0
  have HL := Lib.hid (lt_blockT hA0)
  have HC := Lib.hid (fun (w' : World) (hb : Below W0.heap.size W0 w') => show w'.cell? ⟨w.heap.size, 1, none⟩ = some (.slice a1 T.extl.length p1) ∧ w'.cell? ⟨w.heap.size, 4, none⟩ = some (.slice a2 T.vars.length p2) ∧ w'.cell? ⟨w.heap.size, 6, none⟩ = some (.slice a4 T.priv.length p4) from
    ⟨cell_rowT 1 ((hb.block _ HL.out).trans HA0.out) rfl, cell_rowT 4 ((hb.block _ HL.out).trans HA0.out) rfl, cell_rowT 6 ((hb.block _ HL.out).trans HA0.out) rfl⟩)
  have HW0 := Lib.hid hW0
  clear hz0 hb0 hR0 hA0 F1 F2 F3 F4 F5 F6 hW0
  go_enter Try.func40, Try.ntmps40
  go_upto_region 1 with fail
  rw [HW0.out]
  refine wp_region_late_drew (S := fun w' => Below W0.heap.size W0 w') (k := 10) (by kernel_rfl) (Below.drew (Below.refl W0.heap.size W0)) (fun hHeld => ?_)
  refine late_shell (fun _ _ d _ _ h => by cases d <;> exact h) ?_
  intro KK hKp hfin
  refine wpAnyZ_take (i := 0) (v := .pointer (some ⟨w.heap.size, 1, none⟩)) rfl (by kernel_rfl) (by kernel_rfl) (by kernel_rfl) (by kernel_rfl) (by kernel_rfl) (by kernel_rfl) (fun c a w h => hKp c a _ _ w h) (Or.inl ⟨by kernel_rfl, fun w hSw => by obtain ⟨c1, c4, c6⟩ := HC.out w hSw; go_simp⟩) hHeld ?_
  simp only [Act.put, List.getElem_toArray, List.getElem_cons_zero, List.setIfInBounds_toArray, List.set_cons_zero, List.set_cons_succ]
  refine wpAnyZ_take (i := 1) (v := .slice a1 T.extl.length p1) rfl (by kernel_rfl) (by kernel_rfl) (by kernel_rfl) (by kernel_rfl) (by kernel_rfl) (by kernel_rfl) (fun c a w h => hKp c a _ _ w h) (Or.inl ⟨by kernel_rfl, fun w hSw => by obtain ⟨c1, c4, c6⟩ := HC.out w hSw; go_simp⟩) hHeld ?_
  simp only [Act.put, List.getElem_toArray, List.getElem_cons_zero, List.getElem_cons_succ, List.setIfInBounds_toArray, List.set_cons_zero, List.set_cons_succ]
  refine wpAnyZ_take (i := 3) (v := .pointer (some ⟨w.heap.size, 4, none⟩)) rfl (by kernel_rfl) (by kernel_rfl) (by kernel_rfl) (by kernel_rfl) (by kernel_rfl) (by kernel_rfl) (fun c a w h => hKp c a _ _ w h) (Or.inl ⟨by kernel_rfl, fun w hSw => by obtain ⟨c1, c4, c6⟩ := HC.out w hSw; go_simp⟩) hHeld ?_
  simp only [Act.put, List.getElem_toArray, List.getElem_cons_zero, List.getElem_cons_succ, List.setIfInBounds_toArray, List.set_cons_zero, List.set_cons_succ]
  refine wpAnyZ_take (i := 4) (v := .slice a2 T.vars.length p2) rfl (by kernel_rfl) (by kernel_rfl) (by kernel_rfl) (by kernel_rfl) (by kernel_rfl) (by kernel_rfl) (fun c a w h => hKp c a _ _ w h) (Or.inl ⟨by kernel_rfl, fun w hSw => by obtain ⟨c1, c4, c6⟩ := HC.out w hSw; go_simp⟩) hHeld ?_
  simp only [Act.put, List.getElem_toArray, List.getElem_cons_zero, List.getElem_cons_succ, List.setIfInBounds_toArray, List.set_cons_zero, List.set_cons_succ]
  refine wpAnyZ_take (i := 6) (v := .pointer (some ⟨w.heap.size, 6, none⟩)) rfl (by kernel_rfl) (by kernel_rfl) (by kernel_rfl) (by kernel_rfl) (by kernel_rfl) (by kernel_rfl) (fun c a w h => hKp c a _ _ w h) (Or.inl ⟨by kernel_rfl, fun w hSw => by obtain ⟨c1, c4, c6⟩ := HC.out w hSw; go_simp⟩) hHeld ?_
  simp only [Act.put, List.getElem_toArray, List.getElem_cons_zero, List.getElem_cons_succ, List.setIfInBounds_toArray, List.set_cons_zero, List.set_cons_succ]
  refine wpAnyZ_take (i := 7) (v := .slice a4 T.priv.length p4) rfl (by kernel_rfl) (by kernel_rfl) (by kernel_rfl) (by kernel_rfl) (by kernel_rfl) (by kernel_rfl) (fun c a w h => hKp c a _ _ w h) (Or.inl ⟨by kernel_rfl, fun w hSw => by obtain ⟨c1, c4, c6⟩ := HC.out w hSw; go_simp⟩) hHeld ?_
  simp only [Act.put, List.getElem_toArray, List.getElem_cons_zero, List.getElem_cons_succ, List.setIfInBounds_toArray, List.set_cons_zero, List.set_cons_succ]
  refine wpAnyZ_ready (rs := [2]) (by kernel_rfl) (by simp) ?_
  refine AllReadyZ.cons rfl (fun Kx hKx => ?_) AllReadyZ.nil
  rw [if_pos (by kernel_rfl)]
  go_simp
  refine (C1.out _ hHeld).mono ?_
  rintro e w1 ⟨u1, rfl, ho1, hb1⟩
  obtain ⟨ua1, un1, uc1, rfl⟩ := own_sliceT ho1
  have HO1 := Lib.hid ho1
  have HB1 := Lib.hid hb1
  have HH1 := Lib.hid hHeld
  clear ho1 hb1
  refine hKx.out _ _ (HH1.out.trans (HB1.out.mono HH1.out.size)) (fun hHeld => ?_)
  clear hKx Kx
  try simp only [Act.put, List.getElem_toArray, List.getElem_cons_zero, List.getElem_cons_succ, List.setIfInBounds_toArray, List.set_cons_zero, List.set_cons_succ]
  refine wpAnyZ_take (i := 9) (v := .pointer (some ⟨w.heap.size, 1, none⟩)) rfl (by kernel_rfl) (by kernel_rfl) (by kernel_rfl) (by kernel_rfl) (by kernel_rfl) (by kernel_rfl) (fun c a w h => hKp c a _ _ w h) (Or.inl ⟨by kernel_rfl, fun w hSw => by obtain ⟨c1, c4, c6⟩ := HC.out w hSw; go_simp⟩) hHeld ?_
  simp only [Act.put, List.getElem_toArray, List.getElem_cons_zero, List.getElem_cons_succ, List.setIfInBounds_toArray, List.set_cons_zero, List.set_cons_succ]
  refine wpAnyZ_ready (rs := [5]) (by kernel_rfl) (by simp) ?_
  refine AllReadyZ.cons rfl (fun Kx hKx => ?_) AllReadyZ.nil
  rw [if_pos (by kernel_rfl)]
  go_simp
  refine (C2.out _ hHeld).mono ?_
  rintro e w2 ⟨u2, rfl, ho2, hb2⟩
  obtain ⟨ua2, un2, uc2, rfl⟩ := own_sliceT ho2
  have HO2 := Lib.hid ho2
  have HB2 := Lib.hid hb2
  have HH2 := Lib.hid hHeld
  clear ho2 hb2
  refine hKx.out _ _ (HH2.out.trans (HB2.out.mono HH2.out.size)) (fun hHeld => ?_)
  clear hKx Kx
  try simp only [Act.put, List.getElem_toArray, List.getElem_cons_zero, List.getElem_cons_succ, List.setIfInBounds_toArray, List.set_cons_zero, List.set_cons_succ]
  refine wpAnyZ_ready (rs := [8]) (by kernel_rfl) (by simp) ?_
  refine AllReadyZ.cons rfl (fun Kx hKx => ?_) AllReadyZ.nil
  rw [if_pos (by kernel_rfl)]
  go_simp
  refine (C3.out _ hHeld).mono ?_
  rintro e w3 ⟨u3, rfl, ho3, hb3⟩
  obtain ⟨ua3, un3, uc3, rfl⟩ := own_sliceT ho3
  have HO3 := Lib.hid ho3
  have HB3 := Lib.hid hb3
  have HH3 := Lib.hid hHeld
  clear ho3 hb3
  refine hKx.out _ _ (HH3.out.trans (HB3.out.mono HH3.out.size)) (fun hHeld => ?_)
  clear hKx Kx
  try simp only [Act.put, List.getElem_toArray, List.getElem_cons_zero, List.getElem_cons_succ, List.setIfInBounds_toArray, List.set_cons_zero, List.set_cons_succ]
  have HA3 := Lib.hid ((hHeld.block _ HL.out).trans HA0.out)
  have g1 := cell_rowT 1 HA3.out rfl
  have f1 := frozenT 1 HA3.out
  refine wpAnyZ_ready (rs := [10]) (by kernel_rfl) (by simp) ?_
  refine AllReadyZ.late rfl (by decide) (fun Kx hKx => ?_) AllReadyZ.nil
  rw [if_pos (by kernel_rfl)]
  go_simp
  refine hKx.out _ _ ?_
  clear hKx Kx
  try simp only [Act.put, List.getElem_toArray, List.getElem_cons_zero, List.getElem_cons_succ, List.setIfInBounds_toArray, List.set_cons_zero, List.set_cons_succ]
  obtain ⟨W4, hW4⟩ : ∃ W4, w3.setCell ⟨w.heap.size, 1, none⟩ (.slice ua1 un1 uc1) = W4 := ⟨_, rfl⟩
  rw [hW4]
  have HA4 := Lib.hid (show W4.heap[w.heap.size]? = some (.cells #[.string T.lang, .slice ua1 un1 uc1, .string T.script, .string T.region, .slice a2 T.vars.length p2, .slice a3 T.exts.length p3, .slice a4 T.priv.length p4, .string T.grand] 40 (0, 0)) by rw [← hW4]; exact cells_setT HA3.out _)
  have HG4 := Lib.hid (show w3.grownBy W4 (some w.heap.size) by rw [← hW4]; exact grown_setT (World.grownBy.refl w3 (some w.heap.size)) 1 _)
  clear hW4 g1 f1
  refine wpAnyZ_ready (rs := [11]) (by kernel_rfl) (by simp) ?_
  refine AllReadyZ.late rfl (by decide) (fun Kx hKx => ?_) AllReadyZ.nil
  rw [if_pos (by kernel_rfl)]
  go_simp
  refine hKx.out _ _ ?_
  clear hKx Kx
  try simp only [Act.put, List.getElem_toArray, List.getElem_cons_zero, List.getElem_cons_succ, List.setIfInBounds_toArray, List.set_cons_zero, List.set_cons_succ]
  have g1 := cell_rowT 4 HA4.out rfl
  have f1 := frozenT 4 HA4.out
  refine wpAnyZ_ready (rs := [12]) (by kernel_rfl) (by simp) ?_
  refine AllReadyZ.late rfl (by decide) (fun Kx hKx => ?_) AllReadyZ.nil
  rw [if_pos (by kernel_rfl)]
  go_simp
  refine hKx.out _ _ ?_
  clear hKx Kx
  try simp only [Act.put, List.getElem_toArray, List.getElem_cons_zero, List.getElem_cons_succ, List.setIfInBounds_toArray, List.set_cons_zero, List.set_cons_succ]
  obtain ⟨W5, hW5⟩ : ∃ W5, W4.setCell ⟨w.heap.size, 4, none⟩ (.slice ua2 un2 uc2) = W5 := ⟨_, rfl⟩
  rw [hW5]
  have HA5 := Lib.hid (show W5.heap[w.heap.size]? = some (.cells #[.string T.lang, .slice ua1 un1 uc1, .string T.script, .string T.region, .slice ua2 un2 uc2, .slice a3 T.exts.length p3, .slice a4 T.priv.length p4, .string T.grand] 40 (0, 0)) by rw [← hW5]; exact cells_setT HA4.out _)
  have HG5 := Lib.hid (show w3.grownBy W5 (some w.heap.size) by rw [← hW5]; exact grown_setT HG4.out 4 _)
  clear hW5 g1 f1
  refine wpAnyZ_ready (rs := [13]) (by kernel_rfl) (by simp) ?_
  refine AllReadyZ.late rfl (by decide) (fun Kx hKx => ?_) AllReadyZ.nil
  rw [if_pos (by kernel_rfl)]
  go_simp
  refine hKx.out _ _ ?_
  clear hKx Kx
  try simp only [Act.put, List.getElem_toArray, List.getElem_cons_zero, List.getElem_cons_succ, List.setIfInBounds_toArray, List.set_cons_zero, List.set_cons_succ]
  have g1 := cell_rowT 6 HA5.out rfl
  have f1 := frozenT 6 HA5.out
  refine wpAnyZ_ready (rs := [14]) (by kernel_rfl) (by simp) ?_
  refine AllReadyZ.late rfl (by decide) (fun Kx hKx => ?_) AllReadyZ.nil
  rw [if_pos (by kernel_rfl)]
  go_simp
  refine hKx.out _ _ ?_
  clear hKx Kx
  try simp only [Act.put, List.getElem_toArray, List.getElem_cons_zero, List.getElem_cons_succ, List.setIfInBounds_toArray, List.set_cons_zero, List.set_cons_succ]
  obtain ⟨W6, hW6⟩ : ∃ W6, W5.setCell ⟨w.heap.size, 6, none⟩ (.slice ua3 un3 uc3) = W6 := ⟨_, rfl⟩
  rw [hW6]
  have HA6 := Lib.hid (show W6.heap[w.heap.size]? = some (.cells #[.string T.lang, .slice ua1 un1 uc1, .string T.script, .string T.region, .slice ua2 un2 uc2, .slice a3 T.exts.length p3, .slice ua3 un3 uc3, .string T.grand] 40 (0, 0)) by rw [← hW6]; exact cells_setT HA5.out _)
  have HG6 := Lib.hid (show w3.grownBy W6 (some w.heap.size) by rw [← hW6]; exact grown_setT HG5.out 6 _)
  clear hW6 g1 f1
  refine wpAnyZ_done (by kernel_rfl) ?_ _
  refine hfin _ _ ?_
  clear hfin hKp KK
  have HB3' := Lib.hid hHeld
  clear hHeld
  have hB6 : Below w.heap.size w W6 := (HB0.out.trans (HB3'.out.mono HB0.out.size)).grown HG6.out (Nat.le_trans HB0.out.size HB3'.out.size) (fun g hg => by cases hg; exact Nat.le_refl _)
  have hp0 : w.heap.size < W0.heap.size ∧ w.heap.size + 1 < W0.heap.size := by have := HZ.out; omega
  have HR1 := Lib.hid ((((RowNe.of_own HO1.out (p := fun k => k < W0.heap.size) (fun k hk => hk)).below HB2.out).below HB3.out).grown HG6.out hp0.1)
  have HR2 := Lib.hid (((RowNe.of_own HO2.out (p := fun k => k < W0.heap.size) (fun k hk => by have := HH2.out.size; omega)).below HB3.out).grown HG6.out hp0.1)
  have HR3 := Lib.hid ((RowNe.of_own HO3.out (p := fun k => k < W0.heap.size) (fun k hk => by have := HH3.out.size; omega)).grown HG6.out hp0.1)
  have HRR := Lib.hid ((HB3'.out.block (w.heap.size + 1) (by have := HZ.out; omega)).trans HR0.out)
  have HRR6 := Lib.hid ((HG6.out.block (w.heap.size + 1) (by have := HZ.out; have := HB3'.out.size; omega) (fun e => by have := Option.some.inj e; omega)).trans HRR.out)
  have HBB6 := Lib.hid hB6
  have HL6 := Lib.hid (show w.heap.size + 2 ≤ W6.heap.size by have := HZ.out; have := HB3'.out.size; have := HG6.out.size; omega)
  clear hB6
  obtain ⟨t0, t1, t2, t3, t4, t5, t6, t7⟩ := tag_cells HA6.out
  go_wp2_with fail
  refine (CX.out _ HBB6.out).mono ?_
  rintro e w7 ⟨u4, rfl, hx7, hb7⟩
  obtain ⟨us0, hus0, hox0, hrow0⟩ := hx7
  obtain ⟨ax, xn, xc, rfl⟩ := own_sliceT hox0
  obtain rfl := own_lenT hox0
  have HA7 := Lib.hid ((hb7.block _ (lt_blockT HA6.out)).trans HA6.out)
  have g1 := cell_rowT 5 HA7.out rfl
  have f1 := frozenT 5 HA7.out
  obtain ⟨W8, hW8⟩ : ∃ W8, w7.setCell ⟨w.heap.size, 5, none⟩ (.slice ax T.exts.length xc) = W8 := ⟨_, rfl⟩
  have HA8 := Lib.hid (show W8.heap[w.heap.size]? = some (.cells #[.string T.lang, .slice ua1 un1 uc1, .string T.script, .string T.region, .slice ua2 un2 uc2, .slice ax T.exts.length xc, .slice ua3 un3 uc3, .string T.grand] 40 (0, 0)) by rw [← hW8]; exact cells_setT HA7.out _)
  have HG8 := Lib.hid (show w7.grownBy W8 (some w.heap.size) by rw [← hW8]; exact grown_setT (World.grownBy.refl w7 (some w.heap.size)) 5 _)
  obtain ⟨X, hX, hXle⟩ : ∃ X, (ax = none ∨ ax = some ⟨X, 0, none⟩) ∧ W6.heap.size ≤ X := by
    rcases hox0.2 with ⟨h, _⟩ | ⟨g, cap, cur, h, hg, _⟩
    · injection h with h _ _; exact ⟨_, .inl h, Nat.le_refl _⟩
    · injection h with h _ _; exact ⟨g, .inr h, hg⟩
  have HOX8 := Lib.hid (hox0.kept HG8.out (by
    rcases hX with rfl | rfl
    · exact .inl rfl
    · exact .inr (fun e => by have := Option.some.inj e; have : X = w.heap.size := this; have := HL6.out; omega)))
  have HB7 := Lib.hid hb7
  have HB8 := Lib.hid (show Below w.heap.size w W8 from (HBB6.out.trans (HB7.out.mono (by have := HL6.out; omega))).grown HG8.out (Nat.le_trans HBB6.out.size HB7.out.size) (fun g hg => by cases hg; exact Nat.le_refl _))
  have HRR8 := Lib.hid (((HG8.out.block (w.heap.size + 1) (by have := HL6.out; have := HB7.out.size; omega) (fun e => by have := Option.some.inj e; omega)).trans ((HB7.out.block _ (by have := HL6.out; omega)).trans HRR6.out)))
  have HG68 := Lib.hid (show W6.grownBy W8 (some w.heap.size) from (World.grownBy.trans (grown_of_belowT HB7.out) HG8.out))
  have HXW := Lib.hid (show X ≠ w.heap.size ∧ X ≠ w.heap.size + 1 ∧ w.heap.size ≤ X ∧ W6.heap.size ≤ X by have := HL6.out; omega)
  have HROW := Lib.hid (show ∀ (i : Nat) (x : ByteArray × List ByteArray), T.exts[i]? = some x → ∃ z, us0[i]? = some z ∧ RowNe (fun j => j = X ∨ j = w.heap.size + 1 ∨ (i < 0 ∧ j < w.heap.size)) W8 z x.2 from fun i x hx => by
    obtain ⟨z, h1, h2⟩ := hrow0 i x hx
    exact ⟨z, h1, (RowNe.of_lt h2 (fun k hk => by have := HXW.out; omega)).below HB8.out⟩)
  have HUS0 := Lib.hid hus0
  have HXX := Lib.hid hX
  clear hrow0 hus0 hox0 hb7 hX hXle t0 t1 t2 t3 t4 t5 t6 t7
  obtain ⟨t0, t1, t2, t3, t4, t5, t6, t7⟩ := tag_cells HA8.out
  go_wp2_with fail
  clear g1 f1 t0 t1 t2 t3 t4 t5 t6 t7
  go_loopw [24] (fun i wr => ∃ (k : Nat) (us : List Value), k ≤ T.exts.length ∧ i = .int .i64 (k : Int) ∧ Hid (us.length = T.exts.length) ∧ Hid (wr.ownsRow W6.heap.size 72 2 (.slice ax T.exts.length xc) T.exts.length (extCells T.exts us)) ∧
      Hid (∀ (i : Nat) (x : ByteArray × List ByteArray), T.exts[i]? = some x → ∃ z, us[i]? = some z ∧ RowNe (fun j => j = X ∨ j = w.heap.size + 1 ∨ (i < k ∧ j < w.heap.size)) wr z x.2) ∧ Hid (W6.grownBy wr (some w.heap.size)) ∧
      Hid (wr.heap[w.heap.size]? = some (.cells #[.string T.lang, .slice ua1 un1 uc1, .string T.script, .string T.region, .slice ua2 un2 uc2, .slice ax T.exts.length xc, .slice ua3 un3 uc3, .string T.grand] 40 (0, 0)))) (fun i _ => T.exts.length - (intOf i).toNat)
  case atStart => exact ⟨0, us0, Nat.zero_le _, rfl, HUS0, HOX8, HROW, HG68, HA8⟩
  case round =>
    obtain ⟨k, us, hk, rfl, HUL, HOX, HRW, HGW, HAW⟩ := hrel
    by_cases hlt : k < T.exts.length
    · have hki : (k : Int) < (T.exts.length : Int) := by omega
      have hk0 : (0 : Int) ≤ (k : Int) := by omega
      have hkb : (k : Int) ≤ 100 := by have := HXL.out; omega
      obtain ⟨x, hx⟩ : ∃ x, T.exts[k]? = some x := ⟨_, List.getElem?_eq_getElem hlt⟩
      obtain ⟨z, hz, hrz⟩ := HRW.out k x hx
      have HX := Lib.hid hx
      have HZU := Lib.hid hz
      have hxl := HX3.out x (List.mem_of_getElem? hx)
      have hax : ax = some ⟨X, 0, none⟩ := by
        rcases HXX.out with h | h
        · subst h
          exfalso
          rcases HOX.out.2 with ⟨_, h⟩ | ⟨g, cap, cur, h, _⟩
          · omega
          · injection h with h _ _; cases h
        · exact h
      subst hax
      have e1 := HOX.out.cellAt (k * 2) (by omega)
      have e2 := HOX.out.cellAt (k * 2 + 1) (by omega)
      rw [(ext_get hx hz).1] at e1
      rw [(ext_get hx hz).2] at e2
      have HRZ := Lib.hid hrz
      obtain ⟨za, zc, rfl, -⟩ := hrz
      obtain ⟨We, hWe⟩ : ∃ We, wr.alloc (.cells #[.string x.1, .slice za x.2.length zc] 72) = We := ⟨_, rfl⟩
      have HBE := Lib.hid (show Below wr.heap.size wr We by rw [← hWe]; exact (Below.refl _ wr).alloc (Nat.le_refl _) _)
      have HEE := Lib.hid (show We.heap[wr.heap.size]? = some (.cells #[.string x.1, .slice za x.2.length zc] 72 (0, 0)) by rw [← hWe]; exact World.alloc_heap_new wr _)
      have HOXE := Lib.hid (show We.ownsRow W6.heap.size 72 2 (.slice (some ⟨X, 0, none⟩) T.exts.length xc) T.exts.length (extCells T.exts us) by rw [← hWe]; exact HOX.out.alloc _)
      have HCE := Lib.hid (fun (w' : World) (hb : Below We.heap.size We w') => show w'.cell? ⟨w.heap.size, 5, none⟩ = some (.slice (some ⟨X, 0, none⟩) T.exts.length xc) ∧ w'.cell? ⟨wr.heap.size, 1, none⟩ = some (.slice za x.2.length zc) from
        ⟨cell_rowT 5 ((hb.block _ (Nat.lt_of_lt_of_le (lt_blockT HAW.out) HBE.out.size)).trans ((HBE.out.block _ (lt_blockT HAW.out)).trans HAW.out)) rfl, cell_rowT 1 ((hb.block _ (lt_blockT HEE.out)).trans HEE.out) rfl⟩)
      have CE := Lib.hid (fun w5 (hb : Below We.heap.size We w5) => clone_row (.slice za x.2.length zc) x.2 w5 (((HRZ.out.below HBE.out).row).below hb) (by omega))
      have HWe := Lib.hid hWe
      clear hx hz hxl hWe hlt
      go_upto_region 6 with fail
      rw [HWe.out]
      refine wp_region_late_drew (S := fun w' => Below We.heap.size We w') (k := 6) (by kernel_rfl) (Below.drew (Below.refl We.heap.size We)) (fun hHeld => ?_)
      refine late_shell (fun _ _ d _ _ h => by cases d <;> exact h) ?_
      intro KK hKp hfin
      refine wpAnyZ_take (i := 0) (v := .pointer (some ⟨w.heap.size, 5, none⟩)) rfl (by kernel_rfl) (by kernel_rfl) (by kernel_rfl) (by kernel_rfl) (by kernel_rfl) (by kernel_rfl) (fun c a w h => hKp c a _ _ w h) (Or.inl ⟨by kernel_rfl, fun w hSw => by obtain ⟨d0, d1⟩ := HCE.out w hSw; go_simp⟩) hHeld ?_
      simp only [Act.put, List.getElem_toArray, List.getElem_cons_zero, List.setIfInBounds_toArray, List.set_cons_zero, List.set_cons_succ]
      refine wpAnyZ_take (i := 1) (v := .slice (some ⟨X, 0, none⟩) T.exts.length xc) rfl (by kernel_rfl) (by kernel_rfl) (by kernel_rfl) (by kernel_rfl) (by kernel_rfl) (by kernel_rfl) (fun c a w h => hKp c a _ _ w h) (Or.inl ⟨by kernel_rfl, fun w hSw => by obtain ⟨d0, d1⟩ := HCE.out w hSw; go_simp⟩) hHeld ?_
      simp only [Act.put, List.getElem_toArray, List.getElem_cons_zero, List.getElem_cons_succ, List.setIfInBounds_toArray, List.set_cons_zero, List.set_cons_succ]
      refine wpAnyZ_take (i := 2) (v := .int .i64 (k : Int)) rfl (by kernel_rfl) (by kernel_rfl) (by kernel_rfl) (by kernel_rfl) (by kernel_rfl) (by kernel_rfl) (fun c a w h => hKp c a _ _ w h) (Or.inl ⟨by kernel_rfl, fun w hSw => by obtain ⟨d0, d1⟩ := HCE.out w hSw; go_simp⟩) hHeld ?_
      simp only [Act.put, List.getElem_toArray, List.getElem_cons_zero, List.getElem_cons_succ, List.setIfInBounds_toArray, List.set_cons_zero, List.set_cons_succ]
      refine wpAnyZ_take (i := 3) (v := .pointer (some ⟨wr.heap.size, 1, none⟩)) rfl (by kernel_rfl) (by kernel_rfl) (by kernel_rfl) (by kernel_rfl) (by kernel_rfl) (by kernel_rfl) (fun c a w h => hKp c a _ _ w h) (Or.inl ⟨by kernel_rfl, fun w hSw => by obtain ⟨d0, d1⟩ := HCE.out w hSw; go_simp⟩) hHeld ?_
      simp only [Act.put, List.getElem_toArray, List.getElem_cons_zero, List.getElem_cons_succ, List.setIfInBounds_toArray, List.set_cons_zero, List.set_cons_succ]
      refine wpAnyZ_take (i := 4) (v := .slice za x.2.length zc) rfl (by kernel_rfl) (by kernel_rfl) (by kernel_rfl) (by kernel_rfl) (by kernel_rfl) (by kernel_rfl) (fun c a w h => hKp c a _ _ w h) (Or.inl ⟨by kernel_rfl, fun w hSw => by obtain ⟨d0, d1⟩ := HCE.out w hSw; go_simp⟩) hHeld ?_
      simp only [Act.put, List.getElem_toArray, List.getElem_cons_zero, List.getElem_cons_succ, List.setIfInBounds_toArray, List.set_cons_zero, List.set_cons_succ]
      refine wpAnyZ_ready (rs := [5]) (by kernel_rfl) (by simp) ?_
      refine AllReadyZ.cons rfl (fun Kx hKx => ?_) AllReadyZ.nil
      rw [if_pos (by kernel_rfl)]
      go_simp
      refine (CE.out _ hHeld).mono ?_
      rintro e w9 ⟨u, rfl, ho9, hb9⟩
      obtain ⟨ua, un, uc, rfl⟩ := own_sliceT ho9
      have HO9 := Lib.hid ho9
      have HB9 := Lib.hid hb9
      have HH9 := Lib.hid hHeld
      clear ho9 hb9
      refine hKx.out _ _ (HH9.out.trans (HB9.out.mono HH9.out.size)) (fun hHeld => ?_)
      clear hKx Kx
      try simp only [Act.put, List.getElem_toArray, List.getElem_cons_zero, List.getElem_cons_succ, List.setIfInBounds_toArray, List.set_cons_zero, List.set_cons_succ]
      refine wpAnyZ_ready (rs := [6]) (by kernel_rfl) (by simp) ?_
      refine AllReadyZ.late rfl (by decide) (fun Kx hKx => ?_) AllReadyZ.nil
      rw [if_pos (by kernel_rfl)]
      go_simp
      refine hKx.out _ _ ?_
      clear hKx Kx
      try simp only [Act.put, List.getElem_toArray, List.getElem_cons_zero, List.getElem_cons_succ, List.setIfInBounds_toArray, List.set_cons_zero, List.set_cons_succ]
      refine wpAnyZ_ready (rs := [7]) (by kernel_rfl) (by simp) ?_
      refine AllReadyZ.late rfl (by decide) (fun Kx hKx => ?_) AllReadyZ.nil
      rw [if_pos (by kernel_rfl)]
      go_simp
      refine hKx.out _ _ ?_
      clear hKx Kx
      try simp only [Act.put, List.getElem_toArray, List.getElem_cons_zero, List.getElem_cons_succ, List.setIfInBounds_toArray, List.set_cons_zero, List.set_cons_succ]
      have HOX9 := Lib.hid (HOXE.out.kept (grown_of_below hHeld) (.inr (fun e => by cases e)))
      have s2 := HOX9.out.cellAt (k * 2 + 1) (by omega)
      rw [(ext_get HX.out HZU.out).2] at s2
      have s4 := HOX9.out.frozenAt (k * 2 + 1)
      refine wpAnyZ_ready (rs := [8]) (by kernel_rfl) (by simp) ?_
      refine AllReadyZ.late rfl (by decide) (fun Kx hKx => ?_) AllReadyZ.nil
      rw [if_pos (by kernel_rfl)]
      go_simp
      refine hKx.out _ _ ?_
      clear hKx Kx
      try simp only [Act.put, List.getElem_toArray, List.getElem_cons_zero, List.getElem_cons_succ, List.setIfInBounds_toArray, List.set_cons_zero, List.set_cons_succ]
      have HT := Lib.hid (HOX9.out.stored (k * 2 + 1) (.slice ua un uc))
      rw [ext_setT k _ HUL.out] at HT
      clear s2 s4
      refine wpAnyZ_done (by kernel_rfl) ?_ _
      refine hfin _ _ ?_
      clear hfin hKp KK
      have HB99 := Lib.hid hHeld
      clear hHeld
      obtain ⟨W10, hW10⟩ : ∃ W10, w9.setCell ⟨X, k * 2 + 1, none⟩ (.slice ua un uc) = W10 := ⟨_, rfl⟩
      rw [hW10] at HT ⊢
      have hbw9 : Below wr.heap.size wr w9 := HBE.out.trans (HB99.out.mono HBE.out.size)
      have HRW' := Lib.hid (show ∀ (i : Nat) (y : ByteArray × List ByteArray), T.exts[i]? = some y → ∃ z, (us.set k (.slice ua un uc))[i]? = some z ∧ RowNe (fun j => j = X ∨ j = w.heap.size + 1 ∨ (i < (k + 1) ∧ j < w.heap.size)) W10 z y.2 from fun i y hy => by
        by_cases hik : i = k
        · subst hik
          have := HX.out
          rw [hy] at this
          cases this
          refine ⟨.slice ua un uc, ?_, ?_⟩
          · rw [List.getElem?_set_self (by rw [HUL.out]; exact (List.getElem?_eq_some_iff.1 hy).1)]
          · refine (RowNe.of_own HO9.out ?_).grown HT.out.2 (.inl rfl)
            intro j hj
            have h1 := (HOX.out.lt X rfl).2
            have h2 := HBE.out.size
            have h3 := HH9.out.size
            have h4 := HXW.out
            have h5 := lt_blockT HAW.out
            have h6 := HL6.out
            have h7 := HGW.out.size
            omega
        · obtain ⟨z, h1, h2⟩ := HRW.out i y hy
          exact ⟨z, by rw [List.getElem?_set_ne (Ne.symm hik)]; exact h1, ((h2.below hbw9).grown HT.out.2 (.inl rfl)).weaken (fun j hj => by omega)⟩)
      have HGW' := Lib.hid (show W6.grownBy W10 (some w.heap.size) from by
        refine ⟨HT.out.2.os.trans (hbw9.os.trans HGW.out.os), HT.out.2.tape.trans (hbw9.tape.trans HGW.out.tape), HT.out.2.output.trans (hbw9.output.trans HGW.out.output), Nat.le_trans HGW.out.size (Nat.le_trans hbw9.size HT.out.2.size), fun j hj hne => ?_⟩
        rw [HT.out.2.block j (Nat.lt_of_lt_of_le hj (Nat.le_trans HGW.out.size hbw9.size)) (fun e => by have := Option.some.inj e; have := HXW.out.2.2.2; omega), hbw9.block j (Nat.lt_of_lt_of_le hj HGW.out.size)]
        exact HGW.out.block j hj hne)
      have HAW' := Lib.hid (show W10.heap[w.heap.size]? = some (.cells #[.string T.lang, .slice ua1 un1 uc1, .string T.script, .string T.region, .slice ua2 un2 uc2, .slice (some ⟨X, 0, none⟩) T.exts.length xc, .slice ua3 un3 uc3, .string T.grand] 40 (0, 0)) by
        rw [HT.out.2.block w.heap.size (Nat.lt_of_lt_of_le (lt_blockT HAW.out) hbw9.size) (fun e => HXW.out.1 (Option.some.inj e).symm), hbw9.block _ (lt_blockT HAW.out)]
        exact HAW.out)
      clear hW10 hbw9 e1 e2
      go_wp2_with fail
      go_roundw
      case rel => exact ⟨k + 1, us.set k (.slice ua un uc), by omega, by go_num, Lib.hid (by rw [List.length_set]; exact HUL.out), Lib.hid HT.out.1, HRW', HGW', HAW'⟩
      case measure => simp [intOf]; omega
    · obtain rfl : k = T.exts.length := by omega
      have hki : ¬ (T.exts.length : Int) < (T.exts.length : Int) := by omega
      have hRE := (HGW.out.block (w.heap.size + 1) (by have := HL6.out; omega) (fun e => by have := Option.some.inj e; omega)).trans HRR6.out
      obtain ⟨t0, t1, t2, t3, t4, t5, t6, t7⟩ := tag_cells HAW.out
      have HRE := Lib.hid hRE
      clear hRE
      clear hlt hk
      go_wp2_with (refine wpList_store_row rfl _ _ _ rfl _ _ rfl rfl _ _ HRE.out sizeTagT rfl (by simp [Value.oneCell']) ?_)
      have HGE := Lib.hid (show wr.grownBy (wr.setRow (w.heap.size + 1) #[.string T.lang, .slice ua1 un1 uc1, .string T.script, .string T.region, .slice ua2 un2 uc2, .slice ax T.exts.length xc, .slice ua3 un3 uc3, .string T.grand]) (some (w.heap.size + 1)) from ⟨rfl, rfl, rfl, by simp, fun j _ hj => setRow_other _ _ _ _ (fun e => hj (by rw [e]))⟩)
      refine bodyPost_ret (results_cell_row rfl _ _ (w.heap.size + 1) 40 #[.string T.lang, .slice ua1 un1 uc1, .string T.script, .string T.region, .slice ua2 un2 uc2, .slice ax T.exts.length xc, .slice ua3 un3 uc3, .string T.grand] (0, 0) _ rfl (setRow_heap _ _ _ _ _ _ HRE.out) Try.underlying40 rfl sizeTagT) rfl ?_
      have hl1 := own_lenT HO1.out
      have hl2 := own_lenT HO2.out
      have hl3 := own_lenT HO3.out
      refine ⟨_, rfl, ⟨_, _, _, _, rfl, ?_, ?_, ?_, ?_⟩, ?_⟩
      · exact ((HR1.out.grown HGW.out hp0.1).grown HGE.out hp0.2).weaken (fun k hk => by omega)
      · exact ((HR2.out.grown HGW.out hp0.1).grown HGE.out hp0.2).weaken (fun k hk => by omega)
      · have hO := HOX.out.kept HGE.out (by
          rcases HXX.out with rfl | rfl
          · exact .inl rfl
          · exact .inr (fun e => HXW.out.2.1 (Option.some.inj e)))
        refine ⟨ax, xc, rfl, fun i x hx => ?_⟩
        obtain ⟨z, h1, h2⟩ := HRW.out i x hx
        have hi := (List.getElem?_eq_some_iff.1 hx).1
        have hax : ax = some ⟨X, 0, none⟩ := by
          rcases HXX.out with h | h
          · subst h
            exfalso
            rcases hO.2 with ⟨_, h⟩ | ⟨g, cap, cur, h, _⟩
            · omega
            · injection h with h _ _; cases h
          · exact h
        subst hax
        refine ⟨X, z, by have := HXW.out; omega, rfl, ?_, ?_, (h2.grown HGE.out (.inr (.inl rfl))).weaken (fun j hj => .inr (.inr ⟨hi, hj⟩))⟩
        · rw [hO.cellAt (i * 2) (by omega), (ext_get hx h1).1]
        · rw [hO.cellAt (i * 2 + 1) (by omega), (ext_get hx h1).2]
      · exact ((HR3.out.grown HGW.out hp0.1).grown HGE.out hp0.2).weaken (fun k hk => by omega)
      · refine Below.grown ?_ HGE.out ?_ (fun g hg => by cases hg; omega)
        · exact HBB6.out.grown HGW.out (by have := HL6.out; omega) (fun g hg => by cases hg; exact Nat.le_refl _)
        · have := HL6.out; have := HGW.out.size; omega
end Go.Proofs.Ythjfcfhibdpbnaa
