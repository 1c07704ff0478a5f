/-
  The document's spoilt of layer 13: the ways 8. (Printed by wip/gen_zspoilt.py.)
-/
import Derived.Test.YthjfcfhibdpbnaaZOwn4
namespace Go.Proofs.Ythjfcfhibdpbnaa
open Go Go.RowKit

set_option maxRecDepth 1000000 in
set_option maxHeartbeats 16000000 in
theorem spoilt_w8 (im : Im) (va vl vr vm : Value) (b : Nat) (W0 w : World) (h : Own4 w b im va vl vr vm) (hb : Below W0.heap.size W0 w) (hb0 : W0.heap.size ≤ b) (hbw : b ≤ w.heap.size) (l1 : im.als.length ≤ 50) (l2 : im.lks.length ≤ 50) (l3 : im.rls.length ≤ 50) (l4 : im.mbs.length ≤ 50) (l5 : 2 ≤ im.rls.length) :
    Calls Try.prog 21 #[.agg #[va, vl, vr, vm, .int .i64 im.th, .int .i64 im.de], .int .i64 8] w (SpE W0 b ({ im with rls := ⟨3, 0, false, ⟨#[42]⟩, ⟨#[42]⟩, ⟨#[36, 97, 115]⟩, ⟨#[42]⟩, ⟨#[42]⟩, ⟨#[42]⟩⟩ :: im.rls })) := by
  have hall := And.intro hb0 (And.intro hbw (And.intro l1 (And.intro l2 (And.intro l3 (And.intro l4 l5)))))
  clear hall
  obtain ⟨a1, n1, c1, rfl⟩ := own_sliceZ h.a
  obtain ⟨a2, n2, c2, rfl⟩ := own_sliceZ h.l
  obtain ⟨a3, n3, c3, rfl⟩ := own_sliceZ h.r
  obtain ⟨a4, n4, c4, rfl⟩ := own_sliceZ h.m
  obtain ⟨W1, hW1⟩ : ∃ W1, (w.alloc (.cells #[.slice a1 n1 c1, .slice a2 n2 c2, .slice a3 n3 c3, .slice a4 n4 c4, .int .i64 im.th, .int .i64 im.de] 35)).alloc (.cells #[.slice none 0 0, .slice none 0 0, .slice none 0 0, .slice none 0 0, .int .i64 0, .int .i64 0] 35) = W1 := ⟨_, rfl⟩
  have hww : Below w.heap.size w W1 := by rw [← hW1]; exact ((Below.refl _ w).alloc (Nat.le_refl _) _).alloc (by simp) _
  have hX0 : W1.heap[w.heap.size]? = some (.cells #[.slice a1 n1 c1, .slice a2 n2 c2, .slice a3 n3 c3, .slice a4 n4 c4, .int .i64 im.th, .int .i64 im.de] 35 (0, 0)) := by rw [← hW1]; exact (Below.heap_alloc _ _ _ (by simp)).trans (World.alloc_heap_new w _)
  have hR0 : W1.heap[w.heap.size + 1]? = some (.cells #[.slice none 0 0, .slice none 0 0, .slice none 0 0, .slice none 0 0, .int .i64 0, .int .i64 0] 35 (0, 0)) := by rw [← hW1]; exact heap_alloc2_new w _ _
  have hO0 := h.below hww
  have hB0 : Below W0.heap.size W0 W1 := hb.trans (hww.mono hb.size)
  have hW0 : W0.heap.size ≤ w.heap.size := hb.size
  have hw1 : w.heap.size + 1 < W1.heap.size := lt_of_block hR0
  have HW1 := Lib.hid hW1
  have hcb := cells6 hX0
  obtain ⟨d0, d1, d2, d3, d4, d5⟩ := hcb
  clear hW1 h hb hww
  go_enter Try.func21, Try.ntmps21
  go_upto_region 1 with fail
  rw [HW1.out]
  clear HW1
  obtain ⟨i0, hi, hz0, hz1, hz2⟩ := info_parts rlInfo
  obtain ⟨e3, e3c, g3, rfl⟩ := own_infoZ hO0.r (by omega)
  have hlX := lt_of_block hX0
  have hlR := lt_of_block hR0
  have E3 := Lib.hid e3
  have hXL : (W1.alloc (.cells #[.int .i64 3, .int .i64 0, .bool false, .string { data := #[42] }, .string { data := #[42] }, .string { data := #[36, 97, 115] }, .string { data := #[42] }, .string { data := #[42] }, .string { data := #[42] }] 64)).heap[w.heap.size]? = _ := (Below.heap_alloc _ _ _ hlX).trans hX0
  have hRL : (W1.alloc (.cells #[.int .i64 3, .int .i64 0, .bool false, .string { data := #[42] }, .string { data := #[42] }, .string { data := #[36, 97, 115] }, .string { data := #[42] }, .string { data := #[42] }, .string { data := #[42] }] 64)).heap[w.heap.size + 1]? = _ := (Below.heap_alloc _ _ _ hlR).trans hR0
  obtain ⟨q0, q1, q2, q3, q4, q5⟩ := cells6 hXL
  have f2 := frozenY hXL 2
  have HXL := Lib.hid hXL
  have HRL := Lib.hid hRL
  have HO0 := Lib.hid hO0
  have HB0 := Lib.hid hB0
  have hbL : b ≤ W1.heap.size := by omega
  have hlen : im.rls.length ≤ 50 := l3
  have HN := Lib.hid (own_news3 hO0 (Below.refl _ _))
  clear e3 hXL hRL hO0 hB0 hX0 hR0
  go_upto_region 18 with (at_builtin; refine wpList_append_own _ rfl _ _ 32 rfl b 64 i0 (.agg #[.int .i64 0, .int .i64 0, .bool false, .string ByteArray.empty, .string ByteArray.empty, .string ByteArray.empty, .string ByteArray.empty, .string ByteArray.empty, .string ByteArray.empty]) 9 120 Try.underlying32 hi hz0 hz1 hz2 rfl (by decide) _ _ _ rfl (World.ownsRow_lit W1 #[.int .i64 3, .int .i64 0, .bool false, .string { data := #[42] }, .string { data := #[42] }, .string { data := #[36, 97, 115] }, .string { data := #[42] }, .string { data := #[42] }, .string { data := #[42] }] 1 hbL (by decide) rfl) ⟨g3, 0, none⟩ n3 c3 ((im.rls.map rlC).flatMap id) rfl (HO0.out.r.1.trans (by rw [E3.out])) (fun j u h => HN.out _ ((Below.refl _ _).alloc (Nat.le_refl _) _) j u h) (flat_oneZ im.rls) (by unfold maxLen; have := E3.out; omega) (by have := E3.out; omega) (by first | (simp; done) | (simp; omega)) ?_; intro v' w7 hown7 hgrow7 _; have hX7 := (hgrow7.block w.heap.size (by first | (simp; done) | (simp; omega)) (show some w.heap.size ≠ some W1.heap.size from fun e => by have e := Option.some.inj e; omega)).trans HXL.out; have hR7 := (hgrow7.block (w.heap.size + 1) (by first | (simp; done) | (simp; omega)) (show some (w.heap.size + 1) ≠ some W1.heap.size from fun e => by have e := Option.some.inj e; omega)).trans HRL.out; have HO7 := Lib.hid (HO0.out.front hgrow7 hown7 E3.out); have HG7 := Lib.hid (⟨hgrow7, fun r (e : some W1.heap.size = some r) => Option.some.inj e⟩ : _ ∧ ∀ r, some W1.heap.size = some r → W1.heap.size = r); obtain ⟨z0, z1, z2, z3, z4, z5⟩ := cells6 hX7; have f7 := frozenY hX7 2; have HX7 := Lib.hid hX7; have HR7 := Lib.hid hR7; clear hX7 hR7 hgrow7; obtain ⟨va, vn, vc, rfl⟩ := own_sliceZ hown7; clear hown7)
  have hX := setY HX7.out (k := 2) (.slice va vn vc)
  have hR := (heap_setCellZ (g := w.heap.size) (k := 2) (v := .slice va vn vc) (show w.heap.size + 1 ≠ w.heap.size by omega)).trans HR7.out
  have hO := HO7.out.kept (gr_setZ gr_reflZ 2 (.slice va vn vc)) HX7.out
  have hB : Below W0.heap.size W0 (w7.setCell ⟨w.heap.size, 2, none⟩ (.slice va vn vc)) := ((HB0.out.alloc HB0.out.size _).grown HG7.out.1 (by first | (simp; done) | (simp; omega)) (fun r e => by have := HG7.out.2 r e; omega)).setCell (p := ⟨w.heap.size, 2, none⟩) (by omega) _
  generalize w7.setCell ⟨w.heap.size, 2, none⟩ (.slice va vn vc) = Y at *
  clear q0 q1 q2 q3 q4 q5 f2 z0 z1 z2 z3 z4 z5 f7
  have HX := Lib.hid hX
  have HR := Lib.hid hR
  have HO := Lib.hid hO
  have HB := Lib.hid hB
  obtain ⟨z0, z1, z2, z3, z4, z5⟩ := cells6 HX.out
  go_wp2_with (refine wpList_store_row rfl _ _ _ rfl _ _ rfl rfl _ _ HR.out sizeImg rfl (by simp [Value.oneCell']) ?_)
  refine bodyPost_ret (results_cell_row rfl _ _ (w.heap.size + 1) 35 #[.slice a1 n1 c1, .slice a2 n2 c2, .slice va vn vc, .slice a4 n4 c4, .int .i64 im.th, .int .i64 im.de] (0, 0) _ rfl (setRow_heap _ _ _ _ _ _ HR.out) Try.underlying35 rfl sizeImg) rfl ?_
  unfold SpE
  exact ⟨_, _, _, _, rfl, HO.out.kept (gr_setRowZ _ _ _) HR.out, belowZ_setRow HB.out (by omega) _⟩
end Go.Proofs.Ythjfcfhibdpbnaa
