/-
  Images that are made: rows of things of the call's own, told by one block. (Printed by wip/gen_zmk.py.)
-/
import Derived.Test.YthjfcfhibdpbnaaZMany
namespace Go.Proofs.Ythjfcfhibdpbnaa
open Go Go.RowKit

theorem own_typesZ {w : World} {b1 b2 s1 s2 n1 n2 : Nat} {e1 e2 : TypeId} {v1 v2 : Value} {x1 x2 : List Value} (h1 : w.ownsRow b1 e1 s1 v1 n1 x1) (h2 : w.ownsRow b2 e2 s2 v2 n2 x2) (he : e1 ≠ e2) : v1.ownBlock = none ∨ v1.ownBlock ≠ v2.ownBlock := by
  rcases h1.2 with ⟨rfl, _⟩ | ⟨g1, c1, cur1, rfl, _, hg1, _⟩
  · exact .inl rfl
  · refine .inr fun e => ?_
    rcases h2.2 with ⟨rfl, _⟩ | ⟨g2, c2, cur2, rfl, _, hg2, _⟩
    · simp [Value.ownBlock] at e
    · have e : g1 = g2 := by simpa [Value.ownBlock] using e
      subst e
      rw [hg1] at hg2
      injection hg2 with hg2
      injection hg2 with _ ht _
      exact he ht
theorem own_setZ {w : World} {B : Nat} {e : TypeId} {sz : Nat} {v : Value} {n : Nat} {xs : List Value} (h : w.ownsRow (B + 1) e sz v n xs) (k : Nat) (u : Value) : (w.setCell ⟨B, k, none⟩ u).ownsRow (B + 1) e sz v n xs :=
  ownsRow_setCell_below h (a := ⟨B, k, none⟩) (Nat.lt_succ_self B) u
structure MkI (W0 wr : World) (B : Nat) (im : Im) (va vl vr vm : Value) : Prop where
  blk : wr.heap[B]? = some (.cells #[va, vl, vr, vm, .int .i64 im.th, .int .i64 im.de] 35 (0, 0))
  a : wr.ownsRow (B + 1) 54 6 va im.als.length ((im.als.map alC).flatMap id)
  l : wr.ownsRow (B + 1) 61 6 vl im.lks.length ((im.lks.map lkC).flatMap id)
  r : wr.ownsRow (B + 1) 64 9 vr im.rls.length ((im.rls.map rlC).flatMap id)
  m : wr.ownsRow (B + 1) 67 2 vm im.mbs.length ((im.mbs.map mbC).flatMap id)
  bel : Below W0.heap.size W0 wr
  low : W0.heap.size ≤ B
  s : ImS im
theorem MkI.below {W0 wr wr' : World} {B : Nat} {im : Im} {va vl vr vm : Value} (h : MkI W0 wr B im va vl vr vm) (hb : Below wr.heap.size wr wr') : MkI W0 wr' B im va vl vr vm :=
  ⟨(hb.block _ (lt_of_block h.blk)).trans h.blk, own_belowW h.a hb, own_belowW h.l hb, own_belowW h.r hb, own_belowW h.m hb, h.bel.trans (hb.mono h.bel.size), h.low, h.s⟩
theorem MkI.start {W0 w : World} (th de : Int) (hb : Below W0.heap.size W0 w) : MkI W0 (w.alloc (.cells #[.slice none 0 0, .slice none 0 0, .slice none 0 0, .slice none 0 0, .int .i64 th, .int .i64 de] 35)) w.heap.size (imR [] th de) (.slice none 0 0) (.slice none 0 0) (.slice none 0 0) (.slice none 0 0) :=
  ⟨World.alloc_heap_new _ _, World.ownsRow_nil _ _ _ _, World.ownsRow_nil _ _ _ _, World.ownsRow_nil _ _ _ _, World.ownsRow_nil _ _ _ _, hb.alloc hb.size _, hb.size, imS_nil th de⟩
theorem alC_all (l : List Al) : ∀ c ∈ l.map alC, c.length = 6 := by intro c hc; obtain ⟨x, -, rfl⟩ := List.mem_map.1 hc; rfl
theorem lkC_all (l : List Lk) : ∀ c ∈ l.map lkC, c.length = 6 := by intro c hc; obtain ⟨x, -, rfl⟩ := List.mem_map.1 hc; rfl
theorem mbC_all (l : List Mb) : ∀ c ∈ l.map mbC, c.length = 2 := by intro c hc; obtain ⟨x, -, rfl⟩ := List.mem_map.1 hc; rfl
theorem MkI.rows {W0 wr : World} {B : Nat} {im : Im} {va vl vr vm : Value} (h : MkI W0 wr B im va vl vr vm) : ImR wr va vl vr vm im :=
  ⟨rowC_own (by rw [List.length_map]; exact h.a) (alC_all _), rowC_own (by rw [List.length_map]; exact h.l) (lkC_all _), rowC_own (by rw [List.length_map]; exact h.r) (rlC_all _), rowC_own (by rw [List.length_map]; exact h.m) (mbC_all _)⟩
theorem MkI.grownA {W0 wr w2 : World} {B : Nat} {im : Im} {va vl vr vm : Value} {o : Obj} (h : MkI W0 wr B im va vl vr vm) (hg : (wr.alloc o).grownBy w2 va.ownBlock) : w2.heap[B]? = some (.cells #[va, vl, vr, vm, .int .i64 im.th, .int .i64 im.de] 35 (0, 0)) ∧ Below W0.heap.size W0 w2 := by
  have hl := lt_of_block h.blk
  have hlow := h.low
  have hlt : ∀ r, va.ownBlock = some r → B + 1 ≤ r := fun r e => (h.a.lt r e).1
  exact ⟨(hg.block _ (by simp; omega) (fun e => by have := hlt B e.symm; omega)).trans ((Below.heap_alloc _ _ _ hl).trans h.blk), (h.bel.alloc h.bel.size o).grown hg (by simp; omega) (fun r e => by have := hlt r e; omega)⟩
theorem MkI.pushA {W0 wr w2 : World} {B : Nat} {im : Im} {va vl vr vm v' : Value} {o : Obj} {n : Nat} {xs : List Al} (h : MkI W0 wr B im va vl vr vm) (hg : (wr.alloc o).grownBy w2 va.ownBlock)
    (h1 : w2.ownsRow (B + 1) 54 6 v' n ((im.als.map alC).flatMap id ++ (xs.map alC).flatMap id)) (hn : n = im.als.length + xs.length) (hx : ∀ x ∈ xs, AlS x) : MkI W0 (w2.setCell ⟨B, 0, none⟩ v') B { im with als := im.als ++ xs } v' vl vr vm := by
  obtain ⟨g1, g2⟩ := h.grownA hg
  subst hn
  refine { blk := setY g1 v', a := own_setZ ?_ _ _, l := own_setZ ((h.l.alloc o).kept hg (own_typesZ (h.l.alloc o) (h.a.alloc o) (by decide))) _ _, r := own_setZ ((h.r.alloc o).kept hg (own_typesZ (h.r.alloc o) (h.a.alloc o) (by decide))) _ _, m := own_setZ ((h.m.alloc o).kept hg (own_typesZ (h.m.alloc o) (h.a.alloc o) (by decide))) _ _, bel := g2.setCell (p := ⟨B, 0, none⟩) h.low v', low := h.low, s := { h.s with als := fun x hm => ?_ } }
  · show w2.ownsRow (B + 1) 54 6 v' (im.als ++ xs).length (((im.als ++ xs).map alC).flatMap id)
    rw [List.length_append, List.map_append, List.flatMap_append]
    exact h1
  · rcases List.mem_append.1 hm with hm | hm
    · exact h.s.als x hm
    · exact hx x hm
theorem MkI.grownL {W0 wr w2 : World} {B : Nat} {im : Im} {va vl vr vm : Value} {o : Obj} (h : MkI W0 wr B im va vl vr vm) (hg : (wr.alloc o).grownBy w2 vl.ownBlock) : w2.heap[B]? = some (.cells #[va, vl, vr, vm, .int .i64 im.th, .int .i64 im.de] 35 (0, 0)) ∧ Below W0.heap.size W0 w2 := by
  have hl := lt_of_block h.blk
  have hlow := h.low
  have hlt : ∀ r, vl.ownBlock = some r → B + 1 ≤ r := fun r e => (h.l.lt r e).1
  exact ⟨(hg.block _ (by simp; omega) (fun e => by have := hlt B e.symm; omega)).trans ((Below.heap_alloc _ _ _ hl).trans h.blk), (h.bel.alloc h.bel.size o).grown hg (by simp; omega) (fun r e => by have := hlt r e; omega)⟩
theorem MkI.pushL {W0 wr w2 : World} {B : Nat} {im : Im} {va vl vr vm v' : Value} {o : Obj} {n : Nat} {xs : List Lk} (h : MkI W0 wr B im va vl vr vm) (hg : (wr.alloc o).grownBy w2 vl.ownBlock)
    (h1 : w2.ownsRow (B + 1) 61 6 v' n ((im.lks.map lkC).flatMap id ++ (xs.map lkC).flatMap id)) (hn : n = im.lks.length + xs.length) (hx : ∀ x ∈ xs, LkS x) : MkI W0 (w2.setCell ⟨B, 1, none⟩ v') B { im with lks := im.lks ++ xs } va v' vr vm := by
  obtain ⟨g1, g2⟩ := h.grownL hg
  subst hn
  refine { blk := setY g1 v', l := own_setZ ?_ _ _, a := own_setZ ((h.a.alloc o).kept hg (own_typesZ (h.a.alloc o) (h.l.alloc o) (by decide))) _ _, r := own_setZ ((h.r.alloc o).kept hg (own_typesZ (h.r.alloc o) (h.l.alloc o) (by decide))) _ _, m := own_setZ ((h.m.alloc o).kept hg (own_typesZ (h.m.alloc o) (h.l.alloc o) (by decide))) _ _, bel := g2.setCell (p := ⟨B, 1, none⟩) h.low v', low := h.low, s := { h.s with lks := fun x hm => ?_ } }
  · show w2.ownsRow (B + 1) 61 6 v' (im.lks ++ xs).length (((im.lks ++ xs).map lkC).flatMap id)
    rw [List.length_append, List.map_append, List.flatMap_append]
    exact h1
  · rcases List.mem_append.1 hm with hm | hm
    · exact h.s.lks x hm
    · exact hx x hm
theorem MkI.grownR {W0 wr w2 : World} {B : Nat} {im : Im} {va vl vr vm : Value} {o : Obj} (h : MkI W0 wr B im va vl vr vm) (hg : (wr.alloc o).grownBy w2 vr.ownBlock) : w2.heap[B]? = some (.cells #[va, vl, vr, vm, .int .i64 im.th, .int .i64 im.de] 35 (0, 0)) ∧ Below W0.heap.size W0 w2 := by
  have hl := lt_of_block h.blk
  have hlow := h.low
  have hlt : ∀ r, vr.ownBlock = some r → B + 1 ≤ r := fun r e => (h.r.lt r e).1
  exact ⟨(hg.block _ (by simp; omega) (fun e => by have := hlt B e.symm; omega)).trans ((Below.heap_alloc _ _ _ hl).trans h.blk), (h.bel.alloc h.bel.size o).grown hg (by simp; omega) (fun r e => by have := hlt r e; omega)⟩
theorem MkI.pushR {W0 wr w2 : World} {B : Nat} {im : Im} {va vl vr vm v' : Value} {o : Obj} {n : Nat} {xs : List Rl} (h : MkI W0 wr B im va vl vr vm) (hg : (wr.alloc o).grownBy w2 vr.ownBlock)
    (h1 : w2.ownsRow (B + 1) 64 9 v' n ((im.rls.map rlC).flatMap id ++ (xs.map rlC).flatMap id)) (hn : n = im.rls.length + xs.length) (hx : ∀ x ∈ xs, RlS x) : MkI W0 (w2.setCell ⟨B, 2, none⟩ v') B { im with rls := im.rls ++ xs } va vl v' vm := by
  obtain ⟨g1, g2⟩ := h.grownR hg
  subst hn
  refine { blk := setY g1 v', r := own_setZ ?_ _ _, a := own_setZ ((h.a.alloc o).kept hg (own_typesZ (h.a.alloc o) (h.r.alloc o) (by decide))) _ _, l := own_setZ ((h.l.alloc o).kept hg (own_typesZ (h.l.alloc o) (h.r.alloc o) (by decide))) _ _, m := own_setZ ((h.m.alloc o).kept hg (own_typesZ (h.m.alloc o) (h.r.alloc o) (by decide))) _ _, bel := g2.setCell (p := ⟨B, 2, none⟩) h.low v', low := h.low, s := { h.s with rls := fun x hm => ?_ } }
  · show w2.ownsRow (B + 1) 64 9 v' (im.rls ++ xs).length (((im.rls ++ xs).map rlC).flatMap id)
    rw [List.length_append, List.map_append, List.flatMap_append]
    exact h1
  · rcases List.mem_append.1 hm with hm | hm
    · exact h.s.rls x hm
    · exact hx x hm
theorem MkI.grownM {W0 wr w2 : World} {B : Nat} {im : Im} {va vl vr vm : Value} {o : Obj} (h : MkI W0 wr B im va vl vr vm) (hg : (wr.alloc o).grownBy w2 vm.ownBlock) : w2.heap[B]? = some (.cells #[va, vl, vr, vm, .int .i64 im.th, .int .i64 im.de] 35 (0, 0)) ∧ Below W0.heap.size W0 w2 := by
  have hl := lt_of_block h.blk
  have hlow := h.low
  have hlt : ∀ r, vm.ownBlock = some r → B + 1 ≤ r := fun r e => (h.m.lt r e).1
  exact ⟨(hg.block _ (by simp; omega) (fun e => by have := hlt B e.symm; omega)).trans ((Below.heap_alloc _ _ _ hl).trans h.blk), (h.bel.alloc h.bel.size o).grown hg (by simp; omega) (fun r e => by have := hlt r e; omega)⟩
theorem MkI.pushM {W0 wr w2 : World} {B : Nat} {im : Im} {va vl vr vm v' : Value} {o : Obj} {n : Nat} {xs : List Mb} (h : MkI W0 wr B im va vl vr vm) (hg : (wr.alloc o).grownBy w2 vm.ownBlock)
    (h1 : w2.ownsRow (B + 1) 67 2 v' n ((im.mbs.map mbC).flatMap id ++ (xs.map mbC).flatMap id)) (hn : n = im.mbs.length + xs.length) (hx : ∀ x ∈ xs, MbS x) : MkI W0 (w2.setCell ⟨B, 3, none⟩ v') B { im with mbs := im.mbs ++ xs } va vl vr v' := by
  obtain ⟨g1, g2⟩ := h.grownM hg
  subst hn
  refine { blk := setY g1 v', m := own_setZ ?_ _ _, a := own_setZ ((h.a.alloc o).kept hg (own_typesZ (h.a.alloc o) (h.m.alloc o) (by decide))) _ _, l := own_setZ ((h.l.alloc o).kept hg (own_typesZ (h.l.alloc o) (h.m.alloc o) (by decide))) _ _, r := own_setZ ((h.r.alloc o).kept hg (own_typesZ (h.r.alloc o) (h.m.alloc o) (by decide))) _ _, bel := g2.setCell (p := ⟨B, 3, none⟩) h.low v', low := h.low, s := { h.s with mbs := fun x hm => ?_ } }
  · show w2.ownsRow (B + 1) 67 2 v' (im.mbs ++ xs).length (((im.mbs ++ xs).map mbC).flatMap id)
    rw [List.length_append, List.map_append, List.flatMap_append]
    exact h1
  · rcases List.mem_append.1 hm with hm | hm
    · exact h.s.mbs x hm
    · exact hx x hm
end Go.Proofs.Ythjfcfhibdpbnaa
