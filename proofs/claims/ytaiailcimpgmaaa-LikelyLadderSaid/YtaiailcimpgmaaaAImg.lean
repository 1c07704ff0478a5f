/-
  Layer 15's image in memory: what Image of the program, and of the chapter's own answer, tells.
-/
import Derived.Test.YtaiailcimpgmaaaAData
import Derived.RangeFuncRecord
namespace Go.Proofs.Ytaiailcimpgmaaa
open Go Go.RowKit

/-- A row of literals, new, in memory. -/
def Row15 (w : World) (n : Nat) (cells : List Value) (t : TypeId) (e : Ending) (w' : World) : Prop := ∃ g, e = .returned (.slice (some ⟨g, 0, none⟩) n n) ∧ w.heap.size ≤ g ∧ w'.heap[g]? = some (.cells cells.toArray t (0, 0)) ∧ Below w.heap.size w w'
theorem Row15.of {w w' : World} {n : Nat} {cells : List Value} {t : TypeId} {e : Ending} (h : e = .returned (.slice (some ⟨w.heap.size, 0, none⟩) n n) ∧ w' = w.alloc (.cells cells.toArray t)) : Row15 w n cells t e w' := by
  obtain ⟨rfl, rfl⟩ := h
  exact ⟨_, rfl, Nat.le_refl _, World.alloc_heap_new w _, (Below.refl _ w).alloc (Nat.le_refl _) _⟩
/-- The image of layer 15 in memory: its four rows, one behind the other. -/
structure Im15 (W : World) (b g1 g2 g3 g4 : Nat) : Prop where
  a : W.heap[g1]? = some (.cells (als15.flatMap axC).toArray 62 (0, 0))
  l : W.heap[g2]? = some (.cells (lks15.flatMap lxC).toArray 56 (0, 0))
  r : W.heap[g3]? = some (.cells (rls15.flatMap rxC).toArray 64 (0, 0))
  m : W.heap[g4]? = some (.cells (mbs15.flatMap mxC).toArray 66 (0, 0))
  o1 : b ≤ g1
  o2 : g1 < g2
  o3 : g2 < g3
  o4 : g3 < g4
theorem Im15.below {W W' : World} {b g1 g2 g3 g4 : Nat} (h : Im15 W b g1 g2 g3 g4) (hb : Below W.heap.size W W') : Im15 W' b g1 g2 g3 g4 :=
  ⟨(hb.block _ (lt_of_block h.a)).trans h.a, (hb.block _ (lt_of_block h.l)).trans h.l, (hb.block _ (lt_of_block h.r)).trans h.r, (hb.block _ (lt_of_block h.m)).trans h.m, h.o1, h.o2, h.o3, h.o4⟩
def Image15 (w : World) (e : Ending) (w' : World) : Prop := ∃ g1 g2 g3 g4, e = .returned (.agg #[.slice (some ⟨g1, 0, none⟩) 54 54, .slice (some ⟨g2, 0, none⟩) 32 32, .slice (some ⟨g3, 0, none⟩) 15 15, .slice (some ⟨g4, 0, none⟩) 7 7, .int .i64 40, .int .i64 5]) ∧ Im15 w' w.heap.size g1 g2 g3 g4 ∧ Below w.heap.size w w'
theorem sizeIm15 : (Try.prog.info? 41).map (·.size) = some 6 := by kernel_rfl
theorem belowA_setRow {n g : Nat} {W W' : World} (h : Below n W W') (hg : n ≤ g) (cs : Array Value) : Below n W (W'.setRow g cs) :=
  h.trans ⟨rfl, rfl, rfl, by simp [World.setRow], fun k hk => setRow_other W' g k cs (by omega)⟩
set_option maxRecDepth 100000 in
set_option maxHeartbeats 2000000 in
theorem image_15 (w : World) : Calls Try.prog 8 #[] w (Image15 w) := by
  obtain ⟨W0, hW0⟩ : ∃ W0, w.alloc (.cells #[.slice none 0 0, .slice none 0 0, .slice none 0 0, .slice none 0 0, .int .i64 0, .int .i64 0] 41) = W0 := ⟨_, rfl⟩
  have hb0 : Below w.heap.size w W0 := by rw [← hW0]; exact (Below.refl _ w).alloc (Nat.le_refl _) _
  have hA0 : W0.heap[w.heap.size]? = some (.cells #[.slice none 0 0, .slice none 0 0, .slice none 0 0, .slice none 0 0, .int .i64 0, .int .i64 0] 41 (0, 0)) := by rw [← hW0]; exact World.alloc_heap_new w _
  have HA := Lib.hid (fun w' => (aliases_15 w').mono (R' := Row15 w' 54 (als15.flatMap axC) 62) fun _ _ h => Row15.of h)
  have HL := Lib.hid (fun w' => (likelies_15 w').mono (R' := Row15 w' 32 (lks15.flatMap lxC) 56) fun _ _ h => Row15.of h)
  have HR := Lib.hid (fun w' => (rules_15 w').mono (R' := Row15 w' 15 (rls15.flatMap rxC) 64) fun _ _ h => Row15.of h)
  have HM := Lib.hid (fun w' => (members_15 w').mono (R' := Row15 w' 7 (mbs15.flatMap mxC) 66) fun _ _ h => Row15.of h)
  have HW0 := Lib.hid hW0
  clear hW0
  unfold Image15
  have HB0 := Lib.hid hb0
  have HA0 := Lib.hid hA0
  clear hb0 hA0
  go_enter Try.func8, Try.ntmps8
  go_upto_region 1 with fail
  try rw [HW0.out]
  go_wp2_with (first
    | (go_at_call 13; (with_reducible refine (HA.out _).mono ?_); rintro e w1 ⟨g1, rfl, hg1, hc1, hb1⟩; have H1 := Lib.hid (And.intro hg1 (And.intro hc1 hb1)); clear hg1 hc1 hb1)
    | (go_at_call 14; (with_reducible refine (HL.out _).mono ?_); rintro e w2 ⟨g2, rfl, hg2, hc2, hb2⟩; have H2 := Lib.hid (And.intro hg2 (And.intro hc2 hb2)); clear hg2 hc2 hb2)
    | (go_at_call 15; (with_reducible refine (HR.out _).mono ?_); rintro e w3 ⟨g3, rfl, hg3, hc3, hb3⟩; have H3 := Lib.hid (And.intro hg3 (And.intro hc3 hb3)); clear hg3 hc3 hb3)
    | (go_at_call 16; (with_reducible refine (HM.out _).mono ?_); rintro e w4 ⟨g4, rfl, hg4, hc4, hb4⟩; obtain ⟨hg1, hc1, hb1⟩ := H1.out; obtain ⟨hg2, hc2, hb2⟩ := H2.out; obtain ⟨hg3, hc3, hb3⟩ := H3.out; have hb12 := hb1.trans (hb2.mono hb1.size); have hb13 := hb12.trans (hb3.mono hb12.size); have hb14 := hb13.trans (hb4.mono hb13.size); have hI := (hb14.block _ (lt_of_block HA0.out)).trans HA0.out; have q1 := lt_of_block hc1; have q2 := lt_of_block hc2; have q3 := lt_of_block hc3; have q0 := lt_of_block HA0.out; have HIM := Lib.hid (show Im15 w4 w.heap.size g1 g2 g3 g4 from ⟨((hb2.trans ((hb3.mono hb2.size).trans (hb4.mono (Nat.le_trans hb2.size hb3.size)))).block _ q1).trans hc1, ((hb3.trans (hb4.mono hb3.size)).block _ q2).trans hc2, (hb4.block _ q3).trans hc3, hc4, by omega, by omega, by omega, by omega⟩); have HBE := Lib.hid (HB0.out.trans (hb14.mono HB0.out.size)); have HNE := Lib.hid (show w.heap.size < g1 by omega); have HI := Lib.hid hI; clear hg1 hc1 hb1 hg2 hc2 hb2 hg3 hc3 hb3 hg4 hc4 hb4 hb12 hb13 hb14 H1 H2 H3 q0 q1 q2 q3 hI)
    | (refine wpList_store_row rfl _ _ _ rfl _ _ rfl rfl _ _ HI.out sizeIm15 rfl (by simp [Value.oneCell']) ?_))
  have hM := HIM.out
  have hne := HNE.out
  refine bodyPost_ret (results_cell_row rfl _ _ w.heap.size 41 #[.slice (some ⟨g1, 0, none⟩) 54 54, .slice (some ⟨g2, 0, none⟩) 32 32, .slice (some ⟨g3, 0, none⟩) 15 15, .slice (some ⟨g4, 0, none⟩) 7 7, .int .i64 40, .int .i64 5] (0, 0) _ rfl (setRow_heap _ _ _ _ _ _ HI.out) Try.underlying41 rfl sizeIm15) rfl ?_
  refine ⟨g1, g2, g3, g4, rfl, ⟨?_, ?_, ?_, ?_, hM.o1, hM.o2, hM.o3, hM.o4⟩, belowA_setRow HBE.out (Nat.le_refl _) _⟩
  · rw [setRow_other _ _ _ _ (by omega)]; exact hM.a
  · rw [setRow_other _ _ _ _ (by have := hM.o2; omega)]; exact hM.l
  · rw [setRow_other _ _ _ _ (by have := hM.o2; have := hM.o3; omega)]; exact hM.r
  · rw [setRow_other _ _ _ _ (by have := hM.o2; have := hM.o3; have := hM.o4; omega)]; exact hM.m
end Go.Proofs.Ytaiailcimpgmaaa
