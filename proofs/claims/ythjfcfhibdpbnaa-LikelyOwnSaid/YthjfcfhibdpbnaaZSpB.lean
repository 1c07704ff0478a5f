/-
  The document's spoilt of layer 13: the ways 3, 4, 5, 6, 10, 11. (Printed by wip/gen_zspoilt.py.)
-/
import Derived.Test.YthjfcfhibdpbnaaZOwn4
namespace Go.Proofs.Ythjfcfhibdpbnaa
open Go Go.RowKit

set_option maxRecDepth 1000000 in
set_option maxHeartbeats 16000000 in
theorem spoilt_w3 (im : Im) (va vl vr vm : Value) (b : Nat) (W0 w : World) (h : Own4 w b im va vl vr vm) (hb : Below W0.heap.size W0 w) (hb0 : W0.heap.size ≤ b) (hbw : b ≤ w.heap.size) (l1 : im.als.length ≤ 50) (l2 : im.lks.length ≤ 50) (l3 : im.rls.length ≤ 50) (l4 : im.mbs.length ≤ 50) (l5 : 2 ≤ im.rls.length) :
    Calls Try.prog 21 #[.agg #[va, vl, vr, vm, .int .i64 im.th, .int .i64 im.de], .int .i64 3] w (SpE W0 b ({ im with rls := im.rls ++ [⟨4, 0, false, ⟨#[]⟩, ⟨#[]⟩, ⟨#[]⟩, ⟨#[]⟩, ⟨#[]⟩, ⟨#[]⟩⟩] })) := by
  have hall := And.intro hb0 (And.intro hbw (And.intro l1 (And.intro l2 (And.intro l3 (And.intro l4 l5)))))
  clear hall
  obtain ⟨a1, n1, c1, rfl⟩ := own_sliceZ h.a
  obtain ⟨a2, n2, c2, rfl⟩ := own_sliceZ h.l
  obtain ⟨a3, n3, c3, rfl⟩ := own_sliceZ h.r
  obtain ⟨a4, n4, c4, rfl⟩ := own_sliceZ h.m
  obtain ⟨W1, hW1⟩ : ∃ W1, (w.alloc (.cells #[.slice a1 n1 c1, .slice a2 n2 c2, .slice a3 n3 c3, .slice a4 n4 c4, .int .i64 im.th, .int .i64 im.de] 35)).alloc (.cells #[.slice none 0 0, .slice none 0 0, .slice none 0 0, .slice none 0 0, .int .i64 0, .int .i64 0] 35) = W1 := ⟨_, rfl⟩
  have hww : Below w.heap.size w W1 := by rw [← hW1]; exact ((Below.refl _ w).alloc (Nat.le_refl _) _).alloc (by simp) _
  have hX0 : W1.heap[w.heap.size]? = some (.cells #[.slice a1 n1 c1, .slice a2 n2 c2, .slice a3 n3 c3, .slice a4 n4 c4, .int .i64 im.th, .int .i64 im.de] 35 (0, 0)) := by rw [← hW1]; exact (Below.heap_alloc _ _ _ (by simp)).trans (World.alloc_heap_new w _)
  have hR0 : W1.heap[w.heap.size + 1]? = some (.cells #[.slice none 0 0, .slice none 0 0, .slice none 0 0, .slice none 0 0, .int .i64 0, .int .i64 0] 35 (0, 0)) := by rw [← hW1]; exact heap_alloc2_new w _ _
  have hO0 := h.below hww
  have hB0 : Below W0.heap.size W0 W1 := hb.trans (hww.mono hb.size)
  have hW0 : W0.heap.size ≤ w.heap.size := hb.size
  have hw1 : w.heap.size + 1 < W1.heap.size := lt_of_block hR0
  have HW1 := Lib.hid hW1
  have hcb := cells6 hX0
  obtain ⟨d0, d1, d2, d3, d4, d5⟩ := hcb
  clear hW1 h hb hww
  go_enter Try.func21, Try.ntmps21
  go_upto_region 1 with fail
  rw [HW1.out]
  clear HW1
  obtain ⟨i0, hi, hz0, hz1, hz2⟩ := info_parts rlInfo
  have HO0 := Lib.hid hO0
  have HX0 := Lib.hid hX0
  have HR0 := Lib.hid hR0
  have hlX := lt_of_block hX0
  have hlR := lt_of_block hR0
  go_upto_region 18 with (at_builtin; refine wpList_append_own _ rfl _ _ 32 rfl b 64 i0 (.agg #[.int .i64 0, .int .i64 0, .bool false, .string ByteArray.empty, .string ByteArray.empty, .string ByteArray.empty, .string ByteArray.empty, .string ByteArray.empty, .string ByteArray.empty]) 9 120 Try.underlying32 hi hz0 hz1 hz2 rfl (by decide) _ _ _ rfl (HO0.out.r.alloc _) ⟨_, 0, none⟩ 1 1 [.int .i64 4, .int .i64 0, .bool false, .string ⟨#[]⟩, .string ⟨#[]⟩, .string ⟨#[]⟩, .string ⟨#[]⟩, .string ⟨#[]⟩, .string ⟨#[]⟩] rfl rfl (cell_newsZ _ [.int .i64 4, .int .i64 0, .bool false, .string ⟨#[]⟩, .string ⟨#[]⟩, .string ⟨#[]⟩, .string ⟨#[]⟩, .string ⟨#[]⟩, .string ⟨#[]⟩] _) (fun u hu => by have := List.all_eq_true.1 (show ([.int .i64 4, .int .i64 0, .bool false, .string ⟨#[]⟩, .string ⟨#[]⟩, .string ⟨#[]⟩, .string ⟨#[]⟩, .string ⟨#[]⟩, .string ⟨#[]⟩] : List Value).all (·.oneCell') = true from rfl) u hu; exact this) (by unfold maxLen; omega) (by omega) (by simp; omega) ?_; intro v' w7 hown7 hgrow7 _; have hX7 := (hgrow7.block w.heap.size (by simp; omega) (own_imgN HO0.out.r HX0.out (by decide))).trans ((Below.heap_alloc _ _ _ hlX).trans HX0.out); have hR7 := (hgrow7.block (w.heap.size + 1) (by simp; omega) (own_imgN HO0.out.r HR0.out (by decide))).trans ((Below.heap_alloc _ _ _ hlR).trans HR0.out); have HO7 := Lib.hid (HO0.out.pushR (xs := [⟨4, 0, false, ⟨#[]⟩, ⟨#[]⟩, ⟨#[]⟩, ⟨#[]⟩, ⟨#[]⟩, ⟨#[]⟩⟩]) hgrow7 hown7 rfl (by intro x hx; simp only [List.mem_cons, List.not_mem_nil, or_false] at hx; subst hx; exact ⟨by decide, by decide, by intro t ht; simp only [rlT, List.mem_cons, List.not_mem_nil, or_false] at ht; rcases ht with rfl | rfl | rfl | rfl | rfl | rfl <;> decide⟩)); have HG7 := Lib.hid (⟨hgrow7, fun r e => (HO0.out.r.lt r e).1⟩ : _ ∧ ∀ r, (.slice a3 n3 c3 : Value).ownBlock = some r → b ≤ r); obtain ⟨q0, q1, q2, q3, q4, q5⟩ := cells6 hX7; have f0 := frozenY hX7 2; have HX7 := Lib.hid hX7; have HR7 := Lib.hid hR7; obtain ⟨va, vn, vc, rfl⟩ := own_sliceZ hown7)
  have hX := setY HX7.out (k := 2) (.slice va vn vc)
  have hR := (heap_setCellZ (g := w.heap.size) (k := 2) (v := .slice va vn vc) (show w.heap.size + 1 ≠ w.heap.size by omega)).trans HR7.out
  have hO := HO7.out.kept (gr_setZ gr_reflZ 2 (.slice va vn vc)) HX7.out
  have hB : Below W0.heap.size W0 (w7.setCell ⟨w.heap.size, 2, none⟩ (.slice va vn vc)) := ((hB0.alloc hB0.size _).grown HG7.out.1 (by simp; omega) (fun r e => by have := HG7.out.2 r e; omega)).setCell (p := ⟨w.heap.size, 2, none⟩) (by omega) _
  generalize w7.setCell ⟨w.heap.size, 2, none⟩ (.slice va vn vc) = Y at *
  clear q0 q1 q2 q3 q4 q5 f0
  have HX := Lib.hid hX
  have HR := Lib.hid hR
  have HO := Lib.hid hO
  have HB := Lib.hid hB
  obtain ⟨z0, z1, z2, z3, z4, z5⟩ := cells6 HX.out
  go_wp2_with (refine wpList_store_row rfl _ _ _ rfl _ _ rfl rfl _ _ HR.out sizeImg rfl (by simp [Value.oneCell']) ?_)
  refine bodyPost_ret (results_cell_row rfl _ _ (w.heap.size + 1) 35 #[.slice a1 n1 c1, .slice a2 n2 c2, .slice va vn vc, .slice a4 n4 c4, .int .i64 im.th, .int .i64 im.de] (0, 0) _ rfl (setRow_heap _ _ _ _ _ _ HR.out) Try.underlying35 rfl sizeImg) rfl ?_
  unfold SpE
  exact ⟨_, _, _, _, rfl, HO.out.kept (gr_setRowZ _ _ _) HR.out, belowZ_setRow HB.out (by omega) _⟩
set_option maxRecDepth 1000000 in
set_option maxHeartbeats 16000000 in
theorem spoilt_w4 (im : Im) (va vl vr vm : Value) (b : Nat) (W0 w : World) (h : Own4 w b im va vl vr vm) (hb : Below W0.heap.size W0 w) (hb0 : W0.heap.size ≤ b) (hbw : b ≤ w.heap.size) (l1 : im.als.length ≤ 50) (l2 : im.lks.length ≤ 50) (l3 : im.rls.length ≤ 50) (l4 : im.mbs.length ≤ 50) (l5 : 2 ≤ im.rls.length) :
    Calls Try.prog 21 #[.agg #[va, vl, vr, vm, .int .i64 im.th, .int .i64 im.de], .int .i64 4] w (SpE W0 b ({ im with mbs := im.mbs ++ [⟨⟨#[101, 117]⟩, ⟨#[]⟩⟩] })) := by
  have hall := And.intro hb0 (And.intro hbw (And.intro l1 (And.intro l2 (And.intro l3 (And.intro l4 l5)))))
  clear hall
  obtain ⟨a1, n1, c1, rfl⟩ := own_sliceZ h.a
  obtain ⟨a2, n2, c2, rfl⟩ := own_sliceZ h.l
  obtain ⟨a3, n3, c3, rfl⟩ := own_sliceZ h.r
  obtain ⟨a4, n4, c4, rfl⟩ := own_sliceZ h.m
  obtain ⟨W1, hW1⟩ : ∃ W1, (w.alloc (.cells #[.slice a1 n1 c1, .slice a2 n2 c2, .slice a3 n3 c3, .slice a4 n4 c4, .int .i64 im.th, .int .i64 im.de] 35)).alloc (.cells #[.slice none 0 0, .slice none 0 0, .slice none 0 0, .slice none 0 0, .int .i64 0, .int .i64 0] 35) = W1 := ⟨_, rfl⟩
  have hww : Below w.heap.size w W1 := by rw [← hW1]; exact ((Below.refl _ w).alloc (Nat.le_refl _) _).alloc (by simp) _
  have hX0 : W1.heap[w.heap.size]? = some (.cells #[.slice a1 n1 c1, .slice a2 n2 c2, .slice a3 n3 c3, .slice a4 n4 c4, .int .i64 im.th, .int .i64 im.de] 35 (0, 0)) := by rw [← hW1]; exact (Below.heap_alloc _ _ _ (by simp)).trans (World.alloc_heap_new w _)
  have hR0 : W1.heap[w.heap.size + 1]? = some (.cells #[.slice none 0 0, .slice none 0 0, .slice none 0 0, .slice none 0 0, .int .i64 0, .int .i64 0] 35 (0, 0)) := by rw [← hW1]; exact heap_alloc2_new w _ _
  have hO0 := h.below hww
  have hB0 : Below W0.heap.size W0 W1 := hb.trans (hww.mono hb.size)
  have hW0 : W0.heap.size ≤ w.heap.size := hb.size
  have hw1 : w.heap.size + 1 < W1.heap.size := lt_of_block hR0
  have HW1 := Lib.hid hW1
  have hcb := cells6 hX0
  obtain ⟨d0, d1, d2, d3, d4, d5⟩ := hcb
  clear hW1 h hb hww
  go_enter Try.func21, Try.ntmps21
  go_upto_region 1 with fail
  rw [HW1.out]
  clear HW1
  obtain ⟨i0, hi, hz0, hz1, hz2⟩ := info_parts mbInfo
  have HO0 := Lib.hid hO0
  have HX0 := Lib.hid hX0
  have HR0 := Lib.hid hR0
  have hlX := lt_of_block hX0
  have hlR := lt_of_block hR0
  go_upto_region 18 with (at_builtin; refine wpList_append_own _ rfl _ _ 33 rfl b 67 i0 (.agg #[.string ByteArray.empty, .string ByteArray.empty]) 2 32 Try.underlying33 hi hz0 hz1 hz2 rfl (by decide) _ _ _ rfl (HO0.out.m.alloc _) ⟨_, 0, none⟩ 1 1 [.string { data := #[101, 117] }, .string ⟨#[]⟩] rfl rfl (cell_newsZ _ [.string { data := #[101, 117] }, .string ⟨#[]⟩] _) (fun u hu => by have := List.all_eq_true.1 (show ([.string { data := #[101, 117] }, .string ⟨#[]⟩] : List Value).all (·.oneCell') = true from rfl) u hu; exact this) (by unfold maxLen; omega) (by omega) (by simp; omega) ?_; intro v' w7 hown7 hgrow7 _; have hX7 := (hgrow7.block w.heap.size (by simp; omega) (own_imgN HO0.out.m HX0.out (by decide))).trans ((Below.heap_alloc _ _ _ hlX).trans HX0.out); have hR7 := (hgrow7.block (w.heap.size + 1) (by simp; omega) (own_imgN HO0.out.m HR0.out (by decide))).trans ((Below.heap_alloc _ _ _ hlR).trans HR0.out); have HO7 := Lib.hid (HO0.out.pushM (xs := [⟨⟨#[101, 117]⟩, ⟨#[]⟩⟩]) hgrow7 hown7 rfl (by intro x hx; simp only [List.mem_cons, List.not_mem_nil, or_false] at hx; subst hx; exact ⟨by decide, by decide⟩)); have HG7 := Lib.hid (⟨hgrow7, fun r e => (HO0.out.m.lt r e).1⟩ : _ ∧ ∀ r, (.slice a4 n4 c4 : Value).ownBlock = some r → b ≤ r); obtain ⟨q0, q1, q2, q3, q4, q5⟩ := cells6 hX7; have f0 := frozenY hX7 3; have HX7 := Lib.hid hX7; have HR7 := Lib.hid hR7; obtain ⟨va, vn, vc, rfl⟩ := own_sliceZ hown7)
  have hX := setY HX7.out (k := 3) (.slice va vn vc)
  have hR := (heap_setCellZ (g := w.heap.size) (k := 3) (v := .slice va vn vc) (show w.heap.size + 1 ≠ w.heap.size by omega)).trans HR7.out
  have hO := HO7.out.kept (gr_setZ gr_reflZ 3 (.slice va vn vc)) HX7.out
  have hB : Below W0.heap.size W0 (w7.setCell ⟨w.heap.size, 3, none⟩ (.slice va vn vc)) := ((hB0.alloc hB0.size _).grown HG7.out.1 (by simp; omega) (fun r e => by have := HG7.out.2 r e; omega)).setCell (p := ⟨w.heap.size, 3, none⟩) (by omega) _
  generalize w7.setCell ⟨w.heap.size, 3, none⟩ (.slice va vn vc) = Y at *
  clear q0 q1 q2 q3 q4 q5 f0
  have HX := Lib.hid hX
  have HR := Lib.hid hR
  have HO := Lib.hid hO
  have HB := Lib.hid hB
  obtain ⟨z0, z1, z2, z3, z4, z5⟩ := cells6 HX.out
  go_wp2_with (refine wpList_store_row rfl _ _ _ rfl _ _ rfl rfl _ _ HR.out sizeImg rfl (by simp [Value.oneCell']) ?_)
  refine bodyPost_ret (results_cell_row rfl _ _ (w.heap.size + 1) 35 #[.slice a1 n1 c1, .slice a2 n2 c2, .slice a3 n3 c3, .slice va vn vc, .int .i64 im.th, .int .i64 im.de] (0, 0) _ rfl (setRow_heap _ _ _ _ _ _ HR.out) Try.underlying35 rfl sizeImg) rfl ?_
  unfold SpE
  exact ⟨_, _, _, _, rfl, HO.out.kept (gr_setRowZ _ _ _) HR.out, belowZ_setRow HB.out (by omega) _⟩
set_option maxRecDepth 1000000 in
set_option maxHeartbeats 16000000 in
theorem spoilt_w5 (im : Im) (va vl vr vm : Value) (b : Nat) (W0 w : World) (h : Own4 w b im va vl vr vm) (hb : Below W0.heap.size W0 w) (hb0 : W0.heap.size ≤ b) (hbw : b ≤ w.heap.size) (l1 : im.als.length ≤ 50) (l2 : im.lks.length ≤ 50) (l3 : im.rls.length ≤ 50) (l4 : im.mbs.length ≤ 50) (l5 : 2 ≤ im.rls.length) :
    Calls Try.prog 21 #[.agg #[va, vl, vr, vm, .int .i64 im.th, .int .i64 im.de], .int .i64 5] w (SpE W0 b ({ im with th := 256 })) := by
  have hall := And.intro hb0 (And.intro hbw (And.intro l1 (And.intro l2 (And.intro l3 (And.intro l4 l5)))))
  clear hall
  obtain ⟨a1, n1, c1, rfl⟩ := own_sliceZ h.a
  obtain ⟨a2, n2, c2, rfl⟩ := own_sliceZ h.l
  obtain ⟨a3, n3, c3, rfl⟩ := own_sliceZ h.r
  obtain ⟨a4, n4, c4, rfl⟩ := own_sliceZ h.m
  obtain ⟨W1, hW1⟩ : ∃ W1, (w.alloc (.cells #[.slice a1 n1 c1, .slice a2 n2 c2, .slice a3 n3 c3, .slice a4 n4 c4, .int .i64 im.th, .int .i64 im.de] 35)).alloc (.cells #[.slice none 0 0, .slice none 0 0, .slice none 0 0, .slice none 0 0, .int .i64 0, .int .i64 0] 35) = W1 := ⟨_, rfl⟩
  have hww : Below w.heap.size w W1 := by rw [← hW1]; exact ((Below.refl _ w).alloc (Nat.le_refl _) _).alloc (by simp) _
  have hX0 : W1.heap[w.heap.size]? = some (.cells #[.slice a1 n1 c1, .slice a2 n2 c2, .slice a3 n3 c3, .slice a4 n4 c4, .int .i64 im.th, .int .i64 im.de] 35 (0, 0)) := by rw [← hW1]; exact (Below.heap_alloc _ _ _ (by simp)).trans (World.alloc_heap_new w _)
  have hR0 : W1.heap[w.heap.size + 1]? = some (.cells #[.slice none 0 0, .slice none 0 0, .slice none 0 0, .slice none 0 0, .int .i64 0, .int .i64 0] 35 (0, 0)) := by rw [← hW1]; exact heap_alloc2_new w _ _
  have hO0 := h.below hww
  have hB0 : Below W0.heap.size W0 W1 := hb.trans (hww.mono hb.size)
  have hW0 : W0.heap.size ≤ w.heap.size := hb.size
  have hw1 : w.heap.size + 1 < W1.heap.size := lt_of_block hR0
  have HW1 := Lib.hid hW1
  have hcb := cells6 hX0
  obtain ⟨d0, d1, d2, d3, d4, d5⟩ := hcb
  clear hW1 h hb hww
  go_enter Try.func21, Try.ntmps21
  go_upto_region 1 with fail
  rw [HW1.out]
  clear HW1
  obtain ⟨q0, q1, q2, q3, q4, q5⟩ := cells6 hX0
  have f4 := frozenY hX0 4
  have hX := setY hX0 (k := 4) (.int .i64 256)
  have hR := (heap_setCellZ (g := w.heap.size) (k := 4) (v := .int .i64 256) (show w.heap.size + 1 ≠ w.heap.size by omega)).trans hR0
  have hO : Own4 _ b { im with th := 256 } _ _ _ _ := (fun h => ⟨h.a, h.l, h.r, h.m, ⟨h.s.als, h.s.lks, h.s.rls, h.s.mbs⟩⟩ : Own4 _ b im _ _ _ _ → _) (hO0.kept (gr_setZ gr_reflZ 4 (.int .i64 256)) hX0)
  have hB : Below W0.heap.size W0 (W1.setCell ⟨w.heap.size, 4, none⟩ (.int .i64 256)) := hB0.setCell (p := ⟨w.heap.size, 4, none⟩) (by omega) _
  go_upto_region 18 with fail
  clear q0 q1 q2 q3 q4 q5 f4
  generalize W1.setCell ⟨w.heap.size, 4, none⟩ (.int .i64 256) = Y at *
  have HX := Lib.hid hX
  have HR := Lib.hid hR
  have HO := Lib.hid hO
  have HB := Lib.hid hB
  obtain ⟨z0, z1, z2, z3, z4, z5⟩ := cells6 HX.out
  go_wp2_with (refine wpList_store_row rfl _ _ _ rfl _ _ rfl rfl _ _ HR.out sizeImg rfl (by simp [Value.oneCell']) ?_)
  refine bodyPost_ret (results_cell_row rfl _ _ (w.heap.size + 1) 35 #[.slice a1 n1 c1, .slice a2 n2 c2, .slice a3 n3 c3, .slice a4 n4 c4, .int .i64 256, .int .i64 im.de] (0, 0) _ rfl (setRow_heap _ _ _ _ _ _ HR.out) Try.underlying35 rfl sizeImg) rfl ?_
  unfold SpE
  exact ⟨_, _, _, _, rfl, HO.out.kept (gr_setRowZ _ _ _) HR.out, belowZ_setRow HB.out (by omega) _⟩
set_option maxRecDepth 1000000 in
set_option maxHeartbeats 16000000 in
theorem spoilt_w6 (im : Im) (va vl vr vm : Value) (b : Nat) (W0 w : World) (h : Own4 w b im va vl vr vm) (hb : Below W0.heap.size W0 w) (hb0 : W0.heap.size ≤ b) (hbw : b ≤ w.heap.size) (l1 : im.als.length ≤ 50) (l2 : im.lks.length ≤ 50) (l3 : im.rls.length ≤ 50) (l4 : im.mbs.length ≤ 50) (l5 : 2 ≤ im.rls.length) :
    Calls Try.prog 21 #[.agg #[va, vl, vr, vm, .int .i64 im.th, .int .i64 im.de], .int .i64 6] w (SpE W0 b ({ im with lks := im.lks ++ [⟨⟨#[106, 97]⟩, ⟨#[]⟩, ⟨#[]⟩, ⟨#[106, 98]⟩, ⟨#[106, 112, 97, 110]⟩, ⟨#[106, 112]⟩⟩] })) := by
  have hall := And.intro hb0 (And.intro hbw (And.intro l1 (And.intro l2 (And.intro l3 (And.intro l4 l5)))))
  clear hall
  obtain ⟨a1, n1, c1, rfl⟩ := own_sliceZ h.a
  obtain ⟨a2, n2, c2, rfl⟩ := own_sliceZ h.l
  obtain ⟨a3, n3, c3, rfl⟩ := own_sliceZ h.r
  obtain ⟨a4, n4, c4, rfl⟩ := own_sliceZ h.m
  obtain ⟨W1, hW1⟩ : ∃ W1, (w.alloc (.cells #[.slice a1 n1 c1, .slice a2 n2 c2, .slice a3 n3 c3, .slice a4 n4 c4, .int .i64 im.th, .int .i64 im.de] 35)).alloc (.cells #[.slice none 0 0, .slice none 0 0, .slice none 0 0, .slice none 0 0, .int .i64 0, .int .i64 0] 35) = W1 := ⟨_, rfl⟩
  have hww : Below w.heap.size w W1 := by rw [← hW1]; exact ((Below.refl _ w).alloc (Nat.le_refl _) _).alloc (by simp) _
  have hX0 : W1.heap[w.heap.size]? = some (.cells #[.slice a1 n1 c1, .slice a2 n2 c2, .slice a3 n3 c3, .slice a4 n4 c4, .int .i64 im.th, .int .i64 im.de] 35 (0, 0)) := by rw [← hW1]; exact (Below.heap_alloc _ _ _ (by simp)).trans (World.alloc_heap_new w _)
  have hR0 : W1.heap[w.heap.size + 1]? = some (.cells #[.slice none 0 0, .slice none 0 0, .slice none 0 0, .slice none 0 0, .int .i64 0, .int .i64 0] 35 (0, 0)) := by rw [← hW1]; exact heap_alloc2_new w _ _
  have hO0 := h.below hww
  have hB0 : Below W0.heap.size W0 W1 := hb.trans (hww.mono hb.size)
  have hW0 : W0.heap.size ≤ w.heap.size := hb.size
  have hw1 : w.heap.size + 1 < W1.heap.size := lt_of_block hR0
  have HW1 := Lib.hid hW1
  have hcb := cells6 hX0
  obtain ⟨d0, d1, d2, d3, d4, d5⟩ := hcb
  clear hW1 h hb hww
  go_enter Try.func21, Try.ntmps21
  go_upto_region 1 with fail
  rw [HW1.out]
  clear HW1
  obtain ⟨i0, hi, hz0, hz1, hz2⟩ := info_parts lkInfo
  have HO0 := Lib.hid hO0
  have HX0 := Lib.hid hX0
  have HR0 := Lib.hid hR0
  have hlX := lt_of_block hX0
  have hlR := lt_of_block hR0
  go_upto_region 18 with (at_builtin; refine wpList_append_own _ rfl _ _ 31 rfl b 61 i0 (.agg #[.string ByteArray.empty, .string ByteArray.empty, .string ByteArray.empty, .string ByteArray.empty, .string ByteArray.empty, .string ByteArray.empty]) 6 96 Try.underlying31 hi hz0 hz1 hz2 rfl (by decide) _ _ _ rfl (HO0.out.l.alloc _) ⟨_, 0, none⟩ 1 1 [.string { data := #[106, 97] }, .string ⟨#[]⟩, .string ⟨#[]⟩, .string { data := #[106, 98] }, .string { data := #[106, 112, 97, 110] }, .string { data := #[106, 112] }] rfl rfl (cell_newsZ _ [.string { data := #[106, 97] }, .string ⟨#[]⟩, .string ⟨#[]⟩, .string { data := #[106, 98] }, .string { data := #[106, 112, 97, 110] }, .string { data := #[106, 112] }] _) (fun u hu => by have := List.all_eq_true.1 (show ([.string { data := #[106, 97] }, .string ⟨#[]⟩, .string ⟨#[]⟩, .string { data := #[106, 98] }, .string { data := #[106, 112, 97, 110] }, .string { data := #[106, 112] }] : List Value).all (·.oneCell') = true from rfl) u hu; exact this) (by unfold maxLen; omega) (by omega) (by simp; omega) ?_; intro v' w7 hown7 hgrow7 _; have hX7 := (hgrow7.block w.heap.size (by simp; omega) (own_imgN HO0.out.l HX0.out (by decide))).trans ((Below.heap_alloc _ _ _ hlX).trans HX0.out); have hR7 := (hgrow7.block (w.heap.size + 1) (by simp; omega) (own_imgN HO0.out.l HR0.out (by decide))).trans ((Below.heap_alloc _ _ _ hlR).trans HR0.out); have HO7 := Lib.hid (HO0.out.pushL (xs := [⟨⟨#[106, 97]⟩, ⟨#[]⟩, ⟨#[]⟩, ⟨#[106, 98]⟩, ⟨#[106, 112, 97, 110]⟩, ⟨#[106, 112]⟩⟩]) hgrow7 hown7 rfl (by intro x hx; simp only [List.mem_cons, List.not_mem_nil, or_false] at hx; subst hx; intro t ht; simp only [lkT, List.mem_cons, List.not_mem_nil, or_false] at ht; rcases ht with rfl | rfl | rfl | rfl | rfl | rfl <;> decide)); have HG7 := Lib.hid (⟨hgrow7, fun r e => (HO0.out.l.lt r e).1⟩ : _ ∧ ∀ r, (.slice a2 n2 c2 : Value).ownBlock = some r → b ≤ r); obtain ⟨q0, q1, q2, q3, q4, q5⟩ := cells6 hX7; have f0 := frozenY hX7 1; have HX7 := Lib.hid hX7; have HR7 := Lib.hid hR7; obtain ⟨va, vn, vc, rfl⟩ := own_sliceZ hown7)
  have hX := setY HX7.out (k := 1) (.slice va vn vc)
  have hR := (heap_setCellZ (g := w.heap.size) (k := 1) (v := .slice va vn vc) (show w.heap.size + 1 ≠ w.heap.size by omega)).trans HR7.out
  have hO := HO7.out.kept (gr_setZ gr_reflZ 1 (.slice va vn vc)) HX7.out
  have hB : Below W0.heap.size W0 (w7.setCell ⟨w.heap.size, 1, none⟩ (.slice va vn vc)) := ((hB0.alloc hB0.size _).grown HG7.out.1 (by simp; omega) (fun r e => by have := HG7.out.2 r e; omega)).setCell (p := ⟨w.heap.size, 1, none⟩) (by omega) _
  generalize w7.setCell ⟨w.heap.size, 1, none⟩ (.slice va vn vc) = Y at *
  clear q0 q1 q2 q3 q4 q5 f0
  have HX := Lib.hid hX
  have HR := Lib.hid hR
  have HO := Lib.hid hO
  have HB := Lib.hid hB
  obtain ⟨z0, z1, z2, z3, z4, z5⟩ := cells6 HX.out
  go_wp2_with (refine wpList_store_row rfl _ _ _ rfl _ _ rfl rfl _ _ HR.out sizeImg rfl (by simp [Value.oneCell']) ?_)
  refine bodyPost_ret (results_cell_row rfl _ _ (w.heap.size + 1) 35 #[.slice a1 n1 c1, .slice va vn vc, .slice a3 n3 c3, .slice a4 n4 c4, .int .i64 im.th, .int .i64 im.de] (0, 0) _ rfl (setRow_heap _ _ _ _ _ _ HR.out) Try.underlying35 rfl sizeImg) rfl ?_
  unfold SpE
  exact ⟨_, _, _, _, rfl, HO.out.kept (gr_setRowZ _ _ _) HR.out, belowZ_setRow HB.out (by omega) _⟩
set_option maxRecDepth 1000000 in
set_option maxHeartbeats 16000000 in
theorem spoilt_w10 (im : Im) (va vl vr vm : Value) (b : Nat) (W0 w : World) (h : Own4 w b im va vl vr vm) (hb : Below W0.heap.size W0 w) (hb0 : W0.heap.size ≤ b) (hbw : b ≤ w.heap.size) (l1 : im.als.length ≤ 50) (l2 : im.lks.length ≤ 50) (l3 : im.rls.length ≤ 50) (l4 : im.mbs.length ≤ 50) (l5 : 2 ≤ im.rls.length) :
    Calls Try.prog 21 #[.agg #[va, vl, vr, vm, .int .i64 im.th, .int .i64 im.de], .int .i64 10] w (SpE W0 b (im)) := by
  have hall := And.intro hb0 (And.intro hbw (And.intro l1 (And.intro l2 (And.intro l3 (And.intro l4 l5)))))
  clear hall
  obtain ⟨a1, n1, c1, rfl⟩ := own_sliceZ h.a
  obtain ⟨a2, n2, c2, rfl⟩ := own_sliceZ h.l
  obtain ⟨a3, n3, c3, rfl⟩ := own_sliceZ h.r
  obtain ⟨a4, n4, c4, rfl⟩ := own_sliceZ h.m
  obtain ⟨W1, hW1⟩ : ∃ W1, (w.alloc (.cells #[.slice a1 n1 c1, .slice a2 n2 c2, .slice a3 n3 c3, .slice a4 n4 c4, .int .i64 im.th, .int .i64 im.de] 35)).alloc (.cells #[.slice none 0 0, .slice none 0 0, .slice none 0 0, .slice none 0 0, .int .i64 0, .int .i64 0] 35) = W1 := ⟨_, rfl⟩
  have hww : Below w.heap.size w W1 := by rw [← hW1]; exact ((Below.refl _ w).alloc (Nat.le_refl _) _).alloc (by simp) _
  have hX0 : W1.heap[w.heap.size]? = some (.cells #[.slice a1 n1 c1, .slice a2 n2 c2, .slice a3 n3 c3, .slice a4 n4 c4, .int .i64 im.th, .int .i64 im.de] 35 (0, 0)) := by rw [← hW1]; exact (Below.heap_alloc _ _ _ (by simp)).trans (World.alloc_heap_new w _)
  have hR0 : W1.heap[w.heap.size + 1]? = some (.cells #[.slice none 0 0, .slice none 0 0, .slice none 0 0, .slice none 0 0, .int .i64 0, .int .i64 0] 35 (0, 0)) := by rw [← hW1]; exact heap_alloc2_new w _ _
  have hO0 := h.below hww
  have hB0 : Below W0.heap.size W0 W1 := hb.trans (hww.mono hb.size)
  have hW0 : W0.heap.size ≤ w.heap.size := hb.size
  have hw1 : w.heap.size + 1 < W1.heap.size := lt_of_block hR0
  have HW1 := Lib.hid hW1
  have hcb := cells6 hX0
  obtain ⟨d0, d1, d2, d3, d4, d5⟩ := hcb
  clear hW1 h hb hww
  go_enter Try.func21, Try.ntmps21
  go_upto_region 1 with fail
  rw [HW1.out]
  clear HW1
  have hX := hX0
  have hR := hR0
  have hO := hO0
  have hB := hB0
  go_upto_region 18 with fail
  have HX := Lib.hid hX
  have HR := Lib.hid hR
  have HO := Lib.hid hO
  have HB := Lib.hid hB
  obtain ⟨z0, z1, z2, z3, z4, z5⟩ := cells6 HX.out
  go_wp2_with (refine wpList_store_row rfl _ _ _ rfl _ _ rfl rfl _ _ HR.out sizeImg rfl (by simp [Value.oneCell']) ?_)
  refine bodyPost_ret (results_cell_row rfl _ _ (w.heap.size + 1) 35 #[.slice a1 n1 c1, .slice a2 n2 c2, .slice a3 n3 c3, .slice a4 n4 c4, .int .i64 im.th, .int .i64 im.de] (0, 0) _ rfl (setRow_heap _ _ _ _ _ _ HR.out) Try.underlying35 rfl sizeImg) rfl ?_
  unfold SpE
  exact ⟨_, _, _, _, rfl, HO.out.kept (gr_setRowZ _ _ _) HR.out, belowZ_setRow HB.out (by omega) _⟩
set_option maxRecDepth 1000000 in
set_option maxHeartbeats 16000000 in
theorem spoilt_w11 (im : Im) (va vl vr vm : Value) (b : Nat) (W0 w : World) (h : Own4 w b im va vl vr vm) (hb : Below W0.heap.size W0 w) (hb0 : W0.heap.size ≤ b) (hbw : b ≤ w.heap.size) (l1 : im.als.length ≤ 50) (l2 : im.lks.length ≤ 50) (l3 : im.rls.length ≤ 50) (l4 : im.mbs.length ≤ 50) (l5 : 2 ≤ im.rls.length) :
    Calls Try.prog 21 #[.agg #[va, vl, vr, vm, .int .i64 im.th, .int .i64 im.de], .int .i64 11] w (SpE W0 b (im)) := by
  have hall := And.intro hb0 (And.intro hbw (And.intro l1 (And.intro l2 (And.intro l3 (And.intro l4 l5)))))
  clear hall
  obtain ⟨a1, n1, c1, rfl⟩ := own_sliceZ h.a
  obtain ⟨a2, n2, c2, rfl⟩ := own_sliceZ h.l
  obtain ⟨a3, n3, c3, rfl⟩ := own_sliceZ h.r
  obtain ⟨a4, n4, c4, rfl⟩ := own_sliceZ h.m
  obtain ⟨W1, hW1⟩ : ∃ W1, (w.alloc (.cells #[.slice a1 n1 c1, .slice a2 n2 c2, .slice a3 n3 c3, .slice a4 n4 c4, .int .i64 im.th, .int .i64 im.de] 35)).alloc (.cells #[.slice none 0 0, .slice none 0 0, .slice none 0 0, .slice none 0 0, .int .i64 0, .int .i64 0] 35) = W1 := ⟨_, rfl⟩
  have hww : Below w.heap.size w W1 := by rw [← hW1]; exact ((Below.refl _ w).alloc (Nat.le_refl _) _).alloc (by simp) _
  have hX0 : W1.heap[w.heap.size]? = some (.cells #[.slice a1 n1 c1, .slice a2 n2 c2, .slice a3 n3 c3, .slice a4 n4 c4, .int .i64 im.th, .int .i64 im.de] 35 (0, 0)) := by rw [← hW1]; exact (Below.heap_alloc _ _ _ (by simp)).trans (World.alloc_heap_new w _)
  have hR0 : W1.heap[w.heap.size + 1]? = some (.cells #[.slice none 0 0, .slice none 0 0, .slice none 0 0, .slice none 0 0, .int .i64 0, .int .i64 0] 35 (0, 0)) := by rw [← hW1]; exact heap_alloc2_new w _ _
  have hO0 := h.below hww
  have hB0 : Below W0.heap.size W0 W1 := hb.trans (hww.mono hb.size)
  have hW0 : W0.heap.size ≤ w.heap.size := hb.size
  have hw1 : w.heap.size + 1 < W1.heap.size := lt_of_block hR0
  have HW1 := Lib.hid hW1
  have hcb := cells6 hX0
  obtain ⟨d0, d1, d2, d3, d4, d5⟩ := hcb
  clear hW1 h hb hww
  go_enter Try.func21, Try.ntmps21
  go_upto_region 1 with fail
  rw [HW1.out]
  clear HW1
  have hX := hX0
  have hR := hR0
  have hO := hO0
  have hB := hB0
  go_upto_region 18 with fail
  have HX := Lib.hid hX
  have HR := Lib.hid hR
  have HO := Lib.hid hO
  have HB := Lib.hid hB
  obtain ⟨z0, z1, z2, z3, z4, z5⟩ := cells6 HX.out
  go_wp2_with (refine wpList_store_row rfl _ _ _ rfl _ _ rfl rfl _ _ HR.out sizeImg rfl (by simp [Value.oneCell']) ?_)
  refine bodyPost_ret (results_cell_row rfl _ _ (w.heap.size + 1) 35 #[.slice a1 n1 c1, .slice a2 n2 c2, .slice a3 n3 c3, .slice a4 n4 c4, .int .i64 im.th, .int .i64 im.de] (0, 0) _ rfl (setRow_heap _ _ _ _ _ _ HR.out) Try.underlying35 rfl sizeImg) rfl ?_
  unfold SpE
  exact ⟨_, _, _, _, rfl, HO.out.kept (gr_setRowZ _ _ _) HR.out, belowZ_setRow HB.out (by omega) _⟩
end Go.Proofs.Ythjfcfhibdpbnaa
