/-
  The document's spoilt of layer 13: the ways 7. (Printed by wip/gen_zspoilt.py.)
-/
import Derived.Test.YthjfcfhibdpbnaaZOwn4
namespace Go.Proofs.Ythjfcfhibdpbnaa
open Go Go.RowKit

set_option maxRecDepth 1000000 in
set_option maxHeartbeats 16000000 in
theorem spoilt_w7 (im : Im) (va vl vr vm : Value) (b : Nat) (W0 w : World) (h : Own4 w b im va vl vr vm) (hb : Below W0.heap.size W0 w) (hb0 : W0.heap.size ≤ b) (hbw : b ≤ w.heap.size) (l1 : im.als.length ≤ 50) (l2 : im.lks.length ≤ 50) (l3 : im.rls.length ≤ 50) (l4 : im.mbs.length ≤ 50) (l5 : 2 ≤ im.rls.length) :
    Calls Try.prog 21 #[.agg #[va, vl, vr, vm, .int .i64 im.th, .int .i64 im.de], .int .i64 7] w (SpE W0 b ({ im with rls := im.rls.take (im.rls.length - 1) })) := by
  have hall := And.intro hb0 (And.intro hbw (And.intro l1 (And.intro l2 (And.intro l3 (And.intro l4 l5)))))
  clear hall
  obtain ⟨a1, n1, c1, rfl⟩ := own_sliceZ h.a
  obtain ⟨a2, n2, c2, rfl⟩ := own_sliceZ h.l
  obtain ⟨a3, n3, c3, rfl⟩ := own_sliceZ h.r
  obtain ⟨a4, n4, c4, rfl⟩ := own_sliceZ h.m
  obtain ⟨W1, hW1⟩ : ∃ W1, (w.alloc (.cells #[.slice a1 n1 c1, .slice a2 n2 c2, .slice a3 n3 c3, .slice a4 n4 c4, .int .i64 im.th, .int .i64 im.de] 35)).alloc (.cells #[.slice none 0 0, .slice none 0 0, .slice none 0 0, .slice none 0 0, .int .i64 0, .int .i64 0] 35) = W1 := ⟨_, rfl⟩
  have hww : Below w.heap.size w W1 := by rw [← hW1]; exact ((Below.refl _ w).alloc (Nat.le_refl _) _).alloc (by simp) _
  have hX0 : W1.heap[w.heap.size]? = some (.cells #[.slice a1 n1 c1, .slice a2 n2 c2, .slice a3 n3 c3, .slice a4 n4 c4, .int .i64 im.th, .int .i64 im.de] 35 (0, 0)) := by rw [← hW1]; exact (Below.heap_alloc _ _ _ (by simp)).trans (World.alloc_heap_new w _)
  have hR0 : W1.heap[w.heap.size + 1]? = some (.cells #[.slice none 0 0, .slice none 0 0, .slice none 0 0, .slice none 0 0, .int .i64 0, .int .i64 0] 35 (0, 0)) := by rw [← hW1]; exact heap_alloc2_new w _ _
  have hO0 := h.below hww
  have hB0 : Below W0.heap.size W0 W1 := hb.trans (hww.mono hb.size)
  have hW0 : W0.heap.size ≤ w.heap.size := hb.size
  have hw1 : w.heap.size + 1 < W1.heap.size := lt_of_block hR0
  have HW1 := Lib.hid hW1
  have hcb := cells6 hX0
  obtain ⟨d0, d1, d2, d3, d4, d5⟩ := hcb
  clear hW1 h hb hww
  go_enter Try.func21, Try.ntmps21
  go_upto_region 1 with fail
  rw [HW1.out]
  clear HW1
  obtain ⟨e3, e3c, g3, rfl⟩ := own_infoZ hO0.r (by omega)
  obtain ⟨m, rfl⟩ : ∃ m, n3 = m + 1 := ⟨n3 - 1, by omega⟩
  obtain ⟨q0, q1, q2, q3, q4, q5⟩ := cells6 hX0
  have f2 := frozenY hX0 2
  have hm0 : (0 : Int) ≤ (m : Int) := by omega
  have hmc : (m : Int) ≤ (c3 : Int) := by omega
  have hw : IntKind.i64.wrap ((m : Int) + 1 - 1) = (m : Int) := by rw [Int.add_sub_cancel]; exact IntWalk.i64_in _ ⟨by omega, by omega⟩
  have hw2 : wrap64 (m : Int) = (m : Int) := IntWalk.wrap64_in _ ⟨by omega, by omega⟩
  have hO7 : Own4 W1 b { im with rls := im.rls.take (im.rls.length - 1) } _ _ (.slice (some ⟨g3, 0, none⟩) m c3) _ := own_cutZ hO0 e3
  have E3 := Lib.hid e3
  have HO7 := Lib.hid hO7
  have HX0 := Lib.hid hX0
  have HO0 := Lib.hid hO0
  have HB0 := Lib.hid hB0
  have HR0 := Lib.hid hR0
  clear e3 hO7 hX0 hO0 hB0 hR0
  go_upto_region 18 with fail
  have e3 := E3.out
  have hX0 := HX0.out
  have hR0 := HR0.out
  have hB0 := HB0.out
  have hO7 := HO7.out
  have hX := setY hX0 (k := 2) (.slice (some ⟨g3, 0, none⟩) m c3)
  have hR := (heap_setCellZ (g := w.heap.size) (k := 2) (v := .slice (some ⟨g3, 0, none⟩) m c3) (show w.heap.size + 1 ≠ w.heap.size by omega)).trans hR0
  have hO := hO7.kept (gr_setZ gr_reflZ 2 (.slice (some ⟨g3, 0, none⟩) m c3)) hX0
  have hB : Below W0.heap.size W0 (W1.setCell ⟨w.heap.size, 2, none⟩ (.slice (some ⟨g3, 0, none⟩) m c3)) := hB0.setCell (p := ⟨w.heap.size, 2, none⟩) (by omega) _
  clear q0 q1 q2 q3 q4 q5 f2
  generalize W1.setCell ⟨w.heap.size, 2, none⟩ (.slice (some ⟨g3, 0, none⟩) m c3) = Y at *
  have HX := Lib.hid hX
  have HR := Lib.hid hR
  have HO := Lib.hid hO
  have HB := Lib.hid hB
  obtain ⟨z0, z1, z2, z3, z4, z5⟩ := cells6 HX.out
  go_wp2_with (refine wpList_store_row rfl _ _ _ rfl _ _ rfl rfl _ _ HR.out sizeImg rfl (by simp [Value.oneCell']) ?_)
  refine bodyPost_ret (results_cell_row rfl _ _ (w.heap.size + 1) 35 #[.slice a1 n1 c1, .slice a2 n2 c2, .slice (some ⟨g3, 0, none⟩) m c3, .slice a4 n4 c4, .int .i64 im.th, .int .i64 im.de] (0, 0) _ rfl (setRow_heap _ _ _ _ _ _ HR.out) Try.underlying35 rfl sizeImg) rfl ?_
  unfold SpE
  exact ⟨_, _, _, _, rfl, HO.out.kept (gr_setRowZ _ _ _) HR.out, belowZ_setRow HB.out (by omega) _⟩
end Go.Proofs.Ythjfcfhibdpbnaa
