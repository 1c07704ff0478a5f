/-
  Aliases by numbers: what is spoilt of one. (Printed by wip/gen_yspoilt.py.)
-/
import Derived.Test.YtlpjdknmnomdlaaDoorYPick
import Derived.Test.YtlpjdknmnomdlaaDoorYCode
namespace Go.Proofs.YtlpjdknmnomdlaaDoor
open Go Go.RowKit

def spoiltA (x : Al) : Nat → Al
  | 1 => ⟨x.k, titleS x.a, x.b, x.l, x.s, x.r⟩
  | 2 => ⟨x.k, x.a, x.b ++ ⟨#[120]⟩, x.l, x.s, x.r⟩
  | 3 => ⟨x.k, x.a, x.b, ⟨#[]⟩, ⟨#[]⟩, ⟨#[]⟩⟩
  | 4 => ⟨8, x.a, x.b, x.l, x.s, x.r⟩
  | 5 => ⟨x.k, x.a, x.b, ⟨#[97, 98, 99, 100, 101, 102, 103, 104, 105]⟩, x.s, x.r⟩
  | 6 => ⟨x.k, x.a, x.b, pickS langsY (x.a.size : Int), x.s, x.r⟩
  | _ => x
theorem heap_setCellY {W : World} {g k : Nat} {v : Value} {j : Nat} (h : j ≠ g) : (W.setCell ⟨g, k, none⟩ v).heap[j]? = W.heap[j]? := Below.heap_setCell W ⟨g, k, none⟩ v j h

set_option maxRecDepth 100000 in
set_option maxHeartbeats 4000000 in
theorem spoilt_0 (x : Al) (w : World) (_za : x.a.size ≤ 1000) (_zb : x.b.size ≤ 1000) :
    Calls Tryd.prog 20 #[.agg #[.int .i64 x.k, .string x.a, .string x.b, .string x.l, .string x.s, .string x.r], .int .i64 0] w fun e w' => e = .returned (.agg #[.int .i64 (spoiltA x 0).k, .string (spoiltA x 0).a, .string (spoiltA x 0).b, .string (spoiltA x 0).l, .string (spoiltA x 0).s, .string (spoiltA x 0).r]) ∧ Below w.heap.size w w' := by
  obtain ⟨W1, hW1⟩ : ∃ W1, (w.alloc (.cells #[.int .i64 x.k, .string x.a, .string x.b, .string x.l, .string x.s, .string x.r] 28)).alloc (.cells #[.int .i64 0, .string ⟨#[]⟩, .string ⟨#[]⟩, .string ⟨#[]⟩, .string ⟨#[]⟩, .string ⟨#[]⟩] 28) = W1 := ⟨_, rfl⟩
  have hb1 : Below w.heap.size w W1 := by rw [← hW1]; exact ((Below.refl _ w).alloc (Nat.le_refl _) _).alloc (by simp) _
  have hA : W1.heap[w.heap.size]? = some (.cells #[.int .i64 x.k, .string x.a, .string x.b, .string x.l, .string x.s, .string x.r] 28 (0, 0)) := by rw [← hW1]; exact (Below.heap_alloc _ _ _ (by simp)).trans (World.alloc_heap_new w _)
  have hR : W1.heap[w.heap.size + 1]? = some (.cells #[.int .i64 0, .string ⟨#[]⟩, .string ⟨#[]⟩, .string ⟨#[]⟩, .string ⟨#[]⟩, .string ⟨#[]⟩] 28 (0, 0)) := by rw [← hW1]; exact heap_alloc2_new w _ _
  have hlR := lt_of_block hR
  have HB1 := Lib.hid hb1
  have HA := Lib.hid hA
  have HR := Lib.hid hR
  clear hA hR hb1
  obtain ⟨⟨a0, a1, a2, a3, a4, a5⟩, fa0, fa1, fa2, fa3, fa4, fa5⟩ := al_cells HA.out
  obtain ⟨⟨c0, c1, c2, c3, c4, c5⟩, f0, f1, f2, f3, f4, f5⟩ := al_cells HR.out
  go_enter Tryd.func20, Tryd.ntmps20
  go_upto_region 1 with fail
  clear hW1
  go_wp2
  have HS := al_store HR.out (.int .i64 x.k) (.string x.a) (.string x.b) (.string x.l) (.string x.s) (.string x.r)
  refine bodyPost_ret (results_cell_row rfl _ _ (w.heap.size + 1) 28 _ (0, 0) _ rfl HS.1 Tryd.underlying28 rfl sizeAl) rfl ?_
  exact ⟨rfl, HB1.out.trans (HS.2 _ (by omega))⟩
set_option maxRecDepth 100000 in
set_option maxHeartbeats 4000000 in
theorem spoilt_1 (x : Al) (w : World) (za : x.a.size ≤ 1000) (_zb : x.b.size ≤ 1000) :
    Calls Tryd.prog 20 #[.agg #[.int .i64 x.k, .string x.a, .string x.b, .string x.l, .string x.s, .string x.r], .int .i64 1] w fun e w' => e = .returned (.agg #[.int .i64 (spoiltA x 1).k, .string (spoiltA x 1).a, .string (spoiltA x 1).b, .string (spoiltA x 1).l, .string (spoiltA x 1).s, .string (spoiltA x 1).r]) ∧ Below w.heap.size w w' := by
  obtain ⟨W1, hW1⟩ : ∃ W1, (w.alloc (.cells #[.int .i64 x.k, .string x.a, .string x.b, .string x.l, .string x.s, .string x.r] 28)).alloc (.cells #[.int .i64 0, .string ⟨#[]⟩, .string ⟨#[]⟩, .string ⟨#[]⟩, .string ⟨#[]⟩, .string ⟨#[]⟩] 28) = W1 := ⟨_, rfl⟩
  have hb1 : Below w.heap.size w W1 := by rw [← hW1]; exact ((Below.refl _ w).alloc (Nat.le_refl _) _).alloc (by simp) _
  have hA : W1.heap[w.heap.size]? = some (.cells #[.int .i64 x.k, .string x.a, .string x.b, .string x.l, .string x.s, .string x.r] 28 (0, 0)) := by rw [← hW1]; exact (Below.heap_alloc _ _ _ (by simp)).trans (World.alloc_heap_new w _)
  have hR : W1.heap[w.heap.size + 1]? = some (.cells #[.int .i64 0, .string ⟨#[]⟩, .string ⟨#[]⟩, .string ⟨#[]⟩, .string ⟨#[]⟩, .string ⟨#[]⟩] 28 (0, 0)) := by rw [← hW1]; exact heap_alloc2_new w _ _
  have hlR := lt_of_block hR
  have HB1 := Lib.hid hb1
  have HA := Lib.hid hA
  have HR := Lib.hid hR
  clear hA hR hb1
  obtain ⟨⟨a0, a1, a2, a3, a4, a5⟩, fa0, fa1, fa2, fa3, fa4, fa5⟩ := al_cells HA.out
  obtain ⟨⟨c0, c1, c2, c3, c4, c5⟩, f0, f1, f2, f3, f4, f5⟩ := al_cells HR.out
  have HT := Lib.hid (fun w' => title_ref x.a w' (by omega))
  go_enter Tryd.func20, Tryd.ntmps20
  go_upto_region 1 with fail
  clear hW1
  go_wp2_with (go_at_call 27; (with_reducible refine (HT.out _).mono ?_); rintro e w5 ⟨rfl, hb5⟩; have hA5 := (hb5.block _ (by omega)).trans HA.out; have hR5 := (hb5.block _ hlR).trans HR.out; clear a0 a1 a2 a3 a4 a5 fa0 fa1 fa2 fa3 fa4 fa5 c0 c1 c2 c3 c4 c5 f0 f1 f2 f3 f4 f5; obtain ⟨⟨a0, a1, a2, a3, a4, a5⟩, fa0, fa1, fa2, fa3, fa4, fa5⟩ := al_cells hA5; obtain ⟨⟨c0, c1, c2, c3, c4, c5⟩, f0, f1, f2, f3, f4, f5⟩ := al_cells hR5)
  have HS := al_store ((heap_setCellY (g := w.heap.size) (k := 1) (v := .string (titleS x.a)) (by omega)).trans hR5) (.int .i64 x.k) (.string (titleS x.a)) (.string x.b) (.string x.l) (.string x.s) (.string x.r)
  refine bodyPost_ret (results_cell_row rfl _ _ (w.heap.size + 1) 28 _ (0, 0) _ rfl HS.1 Tryd.underlying28 rfl sizeAl) rfl ?_
  exact ⟨rfl, ((HB1.out.trans (hb5.mono (by have := HB1.out.size; omega))).setCell (p := ⟨w.heap.size, 1, none⟩) (Nat.le_refl _) (.string (titleS x.a))).trans (HS.2 _ (by omega))⟩
set_option maxRecDepth 100000 in
set_option maxHeartbeats 4000000 in
theorem spoilt_2 (x : Al) (w : World) (_za : x.a.size ≤ 1000) (zb : x.b.size ≤ 1000) :
    Calls Tryd.prog 20 #[.agg #[.int .i64 x.k, .string x.a, .string x.b, .string x.l, .string x.s, .string x.r], .int .i64 2] w fun e w' => e = .returned (.agg #[.int .i64 (spoiltA x 2).k, .string (spoiltA x 2).a, .string (spoiltA x 2).b, .string (spoiltA x 2).l, .string (spoiltA x 2).s, .string (spoiltA x 2).r]) ∧ Below w.heap.size w w' := by
  obtain ⟨W1, hW1⟩ : ∃ W1, (w.alloc (.cells #[.int .i64 x.k, .string x.a, .string x.b, .string x.l, .string x.s, .string x.r] 28)).alloc (.cells #[.int .i64 0, .string ⟨#[]⟩, .string ⟨#[]⟩, .string ⟨#[]⟩, .string ⟨#[]⟩, .string ⟨#[]⟩] 28) = W1 := ⟨_, rfl⟩
  have hb1 : Below w.heap.size w W1 := by rw [← hW1]; exact ((Below.refl _ w).alloc (Nat.le_refl _) _).alloc (by simp) _
  have hA : W1.heap[w.heap.size]? = some (.cells #[.int .i64 x.k, .string x.a, .string x.b, .string x.l, .string x.s, .string x.r] 28 (0, 0)) := by rw [← hW1]; exact (Below.heap_alloc _ _ _ (by simp)).trans (World.alloc_heap_new w _)
  have hR : W1.heap[w.heap.size + 1]? = some (.cells #[.int .i64 0, .string ⟨#[]⟩, .string ⟨#[]⟩, .string ⟨#[]⟩, .string ⟨#[]⟩, .string ⟨#[]⟩] 28 (0, 0)) := by rw [← hW1]; exact heap_alloc2_new w _ _
  have hlR := lt_of_block hR
  have HB1 := Lib.hid hb1
  have HA := Lib.hid hA
  have HR := Lib.hid hR
  clear hA hR hb1
  obtain ⟨⟨a0, a1, a2, a3, a4, a5⟩, fa0, fa1, fa2, fa3, fa4, fa5⟩ := al_cells HA.out
  obtain ⟨⟨c0, c1, c2, c3, c4, c5⟩, f0, f1, f2, f3, f4, f5⟩ := al_cells HR.out
  have hnf : ¬ (9223372036854775807 < x.b.size + (⟨#[120]⟩ : ByteArray).size) := by have : (⟨#[120]⟩ : ByteArray).size = 1 := rfl; omega
  go_enter Tryd.func20, Tryd.ntmps20
  go_upto_region 1 with fail
  clear hW1
  go_wp2
  have HS := al_store ((heap_setCellY (g := w.heap.size) (k := 2) (v := .string (x.b ++ ⟨#[120]⟩)) (by omega)).trans HR.out) (.int .i64 x.k) (.string x.a) (.string (x.b ++ ⟨#[120]⟩)) (.string x.l) (.string x.s) (.string x.r)
  refine bodyPost_ret (results_cell_row rfl _ _ (w.heap.size + 1) 28 _ (0, 0) _ rfl HS.1 Tryd.underlying28 rfl sizeAl) rfl ?_
  exact ⟨rfl, (HB1.out.setCell (p := ⟨w.heap.size, 2, none⟩) (Nat.le_refl _) (.string (x.b ++ ⟨#[120]⟩))).trans (HS.2 _ (by omega))⟩
set_option maxRecDepth 100000 in
set_option maxHeartbeats 4000000 in
theorem spoilt_3 (x : Al) (w : World) (_za : x.a.size ≤ 1000) (_zb : x.b.size ≤ 1000) :
    Calls Tryd.prog 20 #[.agg #[.int .i64 x.k, .string x.a, .string x.b, .string x.l, .string x.s, .string x.r], .int .i64 3] w fun e w' => e = .returned (.agg #[.int .i64 (spoiltA x 3).k, .string (spoiltA x 3).a, .string (spoiltA x 3).b, .string (spoiltA x 3).l, .string (spoiltA x 3).s, .string (spoiltA x 3).r]) ∧ Below w.heap.size w w' := by
  obtain ⟨W1, hW1⟩ : ∃ W1, (w.alloc (.cells #[.int .i64 x.k, .string x.a, .string x.b, .string x.l, .string x.s, .string x.r] 28)).alloc (.cells #[.int .i64 0, .string ⟨#[]⟩, .string ⟨#[]⟩, .string ⟨#[]⟩, .string ⟨#[]⟩, .string ⟨#[]⟩] 28) = W1 := ⟨_, rfl⟩
  have hb1 : Below w.heap.size w W1 := by rw [← hW1]; exact ((Below.refl _ w).alloc (Nat.le_refl _) _).alloc (by simp) _
  have hA : W1.heap[w.heap.size]? = some (.cells #[.int .i64 x.k, .string x.a, .string x.b, .string x.l, .string x.s, .string x.r] 28 (0, 0)) := by rw [← hW1]; exact (Below.heap_alloc _ _ _ (by simp)).trans (World.alloc_heap_new w _)
  have hR : W1.heap[w.heap.size + 1]? = some (.cells #[.int .i64 0, .string ⟨#[]⟩, .string ⟨#[]⟩, .string ⟨#[]⟩, .string ⟨#[]⟩, .string ⟨#[]⟩] 28 (0, 0)) := by rw [← hW1]; exact heap_alloc2_new w _ _
  have hlR := lt_of_block hR
  have HB1 := Lib.hid hb1
  have HA := Lib.hid hA
  have HR := Lib.hid hR
  clear hA hR hb1
  obtain ⟨⟨a0, a1, a2, a3, a4, a5⟩, fa0, fa1, fa2, fa3, fa4, fa5⟩ := al_cells HA.out
  obtain ⟨⟨c0, c1, c2, c3, c4, c5⟩, f0, f1, f2, f3, f4, f5⟩ := al_cells HR.out
  go_enter Tryd.func20, Tryd.ntmps20
  go_upto_region 1 with fail
  clear hW1
  go_wp2
  have HS := al_store ((heap_setCellY (g := w.heap.size) (k := 5) (v := .string ⟨#[]⟩) (by omega)).trans ((heap_setCellY (g := w.heap.size) (k := 4) (v := .string ⟨#[]⟩) (by omega)).trans ((heap_setCellY (g := w.heap.size) (k := 3) (v := .string ⟨#[]⟩) (by omega)).trans HR.out))) (.int .i64 x.k) (.string x.a) (.string x.b) (.string ⟨#[]⟩) (.string ⟨#[]⟩) (.string ⟨#[]⟩)
  refine bodyPost_ret (results_cell_row rfl _ _ (w.heap.size + 1) 28 _ (0, 0) _ rfl HS.1 Tryd.underlying28 rfl sizeAl) rfl ?_
  exact ⟨rfl, (((HB1.out.setCell (p := ⟨w.heap.size, 3, none⟩) (Nat.le_refl _) (.string ⟨#[]⟩)).setCell (p := ⟨w.heap.size, 4, none⟩) (Nat.le_refl _) (.string ⟨#[]⟩)).setCell (p := ⟨w.heap.size, 5, none⟩) (Nat.le_refl _) (.string ⟨#[]⟩)).trans (HS.2 _ (by omega))⟩
set_option maxRecDepth 100000 in
set_option maxHeartbeats 4000000 in
theorem spoilt_4 (x : Al) (w : World) (_za : x.a.size ≤ 1000) (_zb : x.b.size ≤ 1000) :
    Calls Tryd.prog 20 #[.agg #[.int .i64 x.k, .string x.a, .string x.b, .string x.l, .string x.s, .string x.r], .int .i64 4] w fun e w' => e = .returned (.agg #[.int .i64 (spoiltA x 4).k, .string (spoiltA x 4).a, .string (spoiltA x 4).b, .string (spoiltA x 4).l, .string (spoiltA x 4).s, .string (spoiltA x 4).r]) ∧ Below w.heap.size w w' := by
  obtain ⟨W1, hW1⟩ : ∃ W1, (w.alloc (.cells #[.int .i64 x.k, .string x.a, .string x.b, .string x.l, .string x.s, .string x.r] 28)).alloc (.cells #[.int .i64 0, .string ⟨#[]⟩, .string ⟨#[]⟩, .string ⟨#[]⟩, .string ⟨#[]⟩, .string ⟨#[]⟩] 28) = W1 := ⟨_, rfl⟩
  have hb1 : Below w.heap.size w W1 := by rw [← hW1]; exact ((Below.refl _ w).alloc (Nat.le_refl _) _).alloc (by simp) _
  have hA : W1.heap[w.heap.size]? = some (.cells #[.int .i64 x.k, .string x.a, .string x.b, .string x.l, .string x.s, .string x.r] 28 (0, 0)) := by rw [← hW1]; exact (Below.heap_alloc _ _ _ (by simp)).trans (World.alloc_heap_new w _)
  have hR : W1.heap[w.heap.size + 1]? = some (.cells #[.int .i64 0, .string ⟨#[]⟩, .string ⟨#[]⟩, .string ⟨#[]⟩, .string ⟨#[]⟩, .string ⟨#[]⟩] 28 (0, 0)) := by rw [← hW1]; exact heap_alloc2_new w _ _
  have hlR := lt_of_block hR
  have HB1 := Lib.hid hb1
  have HA := Lib.hid hA
  have HR := Lib.hid hR
  clear hA hR hb1
  obtain ⟨⟨a0, a1, a2, a3, a4, a5⟩, fa0, fa1, fa2, fa3, fa4, fa5⟩ := al_cells HA.out
  obtain ⟨⟨c0, c1, c2, c3, c4, c5⟩, f0, f1, f2, f3, f4, f5⟩ := al_cells HR.out
  go_enter Tryd.func20, Tryd.ntmps20
  go_upto_region 1 with fail
  clear hW1
  go_wp2
  have HS := al_store ((heap_setCellY (g := w.heap.size) (k := 0) (v := .int .i64 8) (by omega)).trans HR.out) (.int .i64 8) (.string x.a) (.string x.b) (.string x.l) (.string x.s) (.string x.r)
  refine bodyPost_ret (results_cell_row rfl _ _ (w.heap.size + 1) 28 _ (0, 0) _ rfl HS.1 Tryd.underlying28 rfl sizeAl) rfl ?_
  exact ⟨rfl, (HB1.out.setCell (p := ⟨w.heap.size, 0, none⟩) (Nat.le_refl _) (.int .i64 8)).trans (HS.2 _ (by omega))⟩
set_option maxRecDepth 100000 in
set_option maxHeartbeats 4000000 in
theorem spoilt_5 (x : Al) (w : World) (_za : x.a.size ≤ 1000) (_zb : x.b.size ≤ 1000) :
    Calls Tryd.prog 20 #[.agg #[.int .i64 x.k, .string x.a, .string x.b, .string x.l, .string x.s, .string x.r], .int .i64 5] w fun e w' => e = .returned (.agg #[.int .i64 (spoiltA x 5).k, .string (spoiltA x 5).a, .string (spoiltA x 5).b, .string (spoiltA x 5).l, .string (spoiltA x 5).s, .string (spoiltA x 5).r]) ∧ Below w.heap.size w w' := by
  obtain ⟨W1, hW1⟩ : ∃ W1, (w.alloc (.cells #[.int .i64 x.k, .string x.a, .string x.b, .string x.l, .string x.s, .string x.r] 28)).alloc (.cells #[.int .i64 0, .string ⟨#[]⟩, .string ⟨#[]⟩, .string ⟨#[]⟩, .string ⟨#[]⟩, .string ⟨#[]⟩] 28) = W1 := ⟨_, rfl⟩
  have hb1 : Below w.heap.size w W1 := by rw [← hW1]; exact ((Below.refl _ w).alloc (Nat.le_refl _) _).alloc (by simp) _
  have hA : W1.heap[w.heap.size]? = some (.cells #[.int .i64 x.k, .string x.a, .string x.b, .string x.l, .string x.s, .string x.r] 28 (0, 0)) := by rw [← hW1]; exact (Below.heap_alloc _ _ _ (by simp)).trans (World.alloc_heap_new w _)
  have hR : W1.heap[w.heap.size + 1]? = some (.cells #[.int .i64 0, .string ⟨#[]⟩, .string ⟨#[]⟩, .string ⟨#[]⟩, .string ⟨#[]⟩, .string ⟨#[]⟩] 28 (0, 0)) := by rw [← hW1]; exact heap_alloc2_new w _ _
  have hlR := lt_of_block hR
  have HB1 := Lib.hid hb1
  have HA := Lib.hid hA
  have HR := Lib.hid hR
  clear hA hR hb1
  obtain ⟨⟨a0, a1, a2, a3, a4, a5⟩, fa0, fa1, fa2, fa3, fa4, fa5⟩ := al_cells HA.out
  obtain ⟨⟨c0, c1, c2, c3, c4, c5⟩, f0, f1, f2, f3, f4, f5⟩ := al_cells HR.out
  go_enter Tryd.func20, Tryd.ntmps20
  go_upto_region 1 with fail
  clear hW1
  go_wp2
  have HS := al_store ((heap_setCellY (g := w.heap.size) (k := 3) (v := .string ⟨#[97, 98, 99, 100, 101, 102, 103, 104, 105]⟩) (by omega)).trans HR.out) (.int .i64 x.k) (.string x.a) (.string x.b) (.string ⟨#[97, 98, 99, 100, 101, 102, 103, 104, 105]⟩) (.string x.s) (.string x.r)
  refine bodyPost_ret (results_cell_row rfl _ _ (w.heap.size + 1) 28 _ (0, 0) _ rfl HS.1 Tryd.underlying28 rfl sizeAl) rfl ?_
  exact ⟨rfl, (HB1.out.setCell (p := ⟨w.heap.size, 3, none⟩) (Nat.le_refl _) (.string ⟨#[97, 98, 99, 100, 101, 102, 103, 104, 105]⟩)).trans (HS.2 _ (by omega))⟩
set_option maxRecDepth 100000 in
set_option maxHeartbeats 4000000 in
theorem spoilt_6 (x : Al) (w : World) (_za : x.a.size ≤ 1000) (_zb : x.b.size ≤ 1000) :
    Calls Tryd.prog 20 #[.agg #[.int .i64 x.k, .string x.a, .string x.b, .string x.l, .string x.s, .string x.r], .int .i64 6] w fun e w' => e = .returned (.agg #[.int .i64 (spoiltA x 6).k, .string (spoiltA x 6).a, .string (spoiltA x 6).b, .string (spoiltA x 6).l, .string (spoiltA x 6).s, .string (spoiltA x 6).r]) ∧ Below w.heap.size w w' := by
  obtain ⟨W1, hW1⟩ : ∃ W1, (w.alloc (.cells #[.int .i64 x.k, .string x.a, .string x.b, .string x.l, .string x.s, .string x.r] 28)).alloc (.cells #[.int .i64 0, .string ⟨#[]⟩, .string ⟨#[]⟩, .string ⟨#[]⟩, .string ⟨#[]⟩, .string ⟨#[]⟩] 28) = W1 := ⟨_, rfl⟩
  have hb1 : Below w.heap.size w W1 := by rw [← hW1]; exact ((Below.refl _ w).alloc (Nat.le_refl _) _).alloc (by simp) _
  have hA : W1.heap[w.heap.size]? = some (.cells #[.int .i64 x.k, .string x.a, .string x.b, .string x.l, .string x.s, .string x.r] 28 (0, 0)) := by rw [← hW1]; exact (Below.heap_alloc _ _ _ (by simp)).trans (World.alloc_heap_new w _)
  have hR : W1.heap[w.heap.size + 1]? = some (.cells #[.int .i64 0, .string ⟨#[]⟩, .string ⟨#[]⟩, .string ⟨#[]⟩, .string ⟨#[]⟩, .string ⟨#[]⟩] 28 (0, 0)) := by rw [← hW1]; exact heap_alloc2_new w _ _
  have hlR := lt_of_block hR
  have HB1 := Lib.hid hb1
  have HA := Lib.hid hA
  have HR := Lib.hid hR
  clear hA hR hb1
  have HL := Lib.hid (fun w' => langs_y w')
  have HP := Lib.hid (fun v n w' (hv : RowP w' v langsY) => pickY_ref v langsY n w' hv (by decide) (by decide))
  have HSt := Lib.hid (fun w' (hb : Below W1.heap.size W1 w') => And.intro ((hb.block _ (by omega)).trans HA.out) ((hb.block _ hlR).trans HR.out))
  obtain ⟨⟨a0, a1, a2, a3, a4, a5⟩, fa0, fa1, fa2, fa3, fa4, fa5⟩ := al_cells HA.out
  go_enter Tryd.func20, Tryd.ntmps20
  go_upto_region 1 with fail
  clear hW1
  go_upto_region 15 with fail
  have hd1 : W1.drew.cell? ⟨w.heap.size, 1, none⟩ = some (.string x.a) := a1
  have hbd : Below W1.heap.size W1 W1.drew := Below.drew (Below.refl _ _)
  go_region_held3 (fun w' => w'.cell? ⟨w.heap.size, 1, none⟩ = some (.string x.a)) (first | assumption | exact (World.cell?_setCell_other _ _ _ _ (by simp)).trans (by assumption))
    (first
    | (go_at_call 15; (with_reducible refine (HL.out _).mono ?_); rintro e w5 ⟨u, rfl, hrow, hb5⟩; have hbb := hbd.trans (hb5.mono hbd.size); have hA5 := (HSt.out _ hbb).1; have hR5 := (HSt.out _ hbb).2; clear a0 a1 a2 a3 a4 a5 fa0 fa1 fa2 fa3 fa4 fa5; obtain ⟨⟨a0, a1, a2, a3, a4, a5⟩, fa0, fa1, fa2, fa3, fa4, fa5⟩ := al_cells hA5; obtain ⟨⟨c0, c1, c2, c3, c4, c5⟩, f0, f1, f2, f3, f4, f5⟩ := al_cells hR5)
    | (go_at_call 13; (with_reducible refine (HP.out _ _ _ hrow).mono ?_); rintro e w6 ⟨rfl, rfl⟩))
  go_wp2
  have HS := al_store ((heap_setCellY (g := w.heap.size) (k := 3) (v := .string (pickS langsY (x.a.size : Int))) (by omega)).trans hR5) (.int .i64 x.k) (.string x.a) (.string x.b) (.string (pickS langsY (x.a.size : Int))) (.string x.s) (.string x.r)
  refine bodyPost_ret (results_cell_row rfl _ _ (w.heap.size + 1) 28 _ (0, 0) _ rfl HS.1 Tryd.underlying28 rfl sizeAl) rfl ?_
  exact ⟨rfl, ((HB1.out.trans (hbb.mono (by have := HB1.out.size; omega))).setCell (p := ⟨w.heap.size, 3, none⟩) (Nat.le_refl _) (.string (pickS langsY (x.a.size : Int)))).trans (HS.2 _ (by omega))⟩
set_option maxRecDepth 100000 in
set_option maxHeartbeats 4000000 in
theorem spoilt_7 (x : Al) (w : World) (_za : x.a.size ≤ 1000) (_zb : x.b.size ≤ 1000) :
    Calls Tryd.prog 20 #[.agg #[.int .i64 x.k, .string x.a, .string x.b, .string x.l, .string x.s, .string x.r], .int .i64 7] w fun e w' => e = .returned (.agg #[.int .i64 (spoiltA x 7).k, .string (spoiltA x 7).a, .string (spoiltA x 7).b, .string (spoiltA x 7).l, .string (spoiltA x 7).s, .string (spoiltA x 7).r]) ∧ Below w.heap.size w w' := by
  obtain ⟨W1, hW1⟩ : ∃ W1, (w.alloc (.cells #[.int .i64 x.k, .string x.a, .string x.b, .string x.l, .string x.s, .string x.r] 28)).alloc (.cells #[.int .i64 0, .string ⟨#[]⟩, .string ⟨#[]⟩, .string ⟨#[]⟩, .string ⟨#[]⟩, .string ⟨#[]⟩] 28) = W1 := ⟨_, rfl⟩
  have hb1 : Below w.heap.size w W1 := by rw [← hW1]; exact ((Below.refl _ w).alloc (Nat.le_refl _) _).alloc (by simp) _
  have hA : W1.heap[w.heap.size]? = some (.cells #[.int .i64 x.k, .string x.a, .string x.b, .string x.l, .string x.s, .string x.r] 28 (0, 0)) := by rw [← hW1]; exact (Below.heap_alloc _ _ _ (by simp)).trans (World.alloc_heap_new w _)
  have hR : W1.heap[w.heap.size + 1]? = some (.cells #[.int .i64 0, .string ⟨#[]⟩, .string ⟨#[]⟩, .string ⟨#[]⟩, .string ⟨#[]⟩, .string ⟨#[]⟩] 28 (0, 0)) := by rw [← hW1]; exact heap_alloc2_new w _ _
  have hlR := lt_of_block hR
  have HB1 := Lib.hid hb1
  have HA := Lib.hid hA
  have HR := Lib.hid hR
  clear hA hR hb1
  obtain ⟨⟨a0, a1, a2, a3, a4, a5⟩, fa0, fa1, fa2, fa3, fa4, fa5⟩ := al_cells HA.out
  obtain ⟨⟨c0, c1, c2, c3, c4, c5⟩, f0, f1, f2, f3, f4, f5⟩ := al_cells HR.out
  go_enter Tryd.func20, Tryd.ntmps20
  go_upto_region 1 with fail
  clear hW1
  go_wp2
  have HS := al_store HR.out (.int .i64 x.k) (.string x.a) (.string x.b) (.string x.l) (.string x.s) (.string x.r)
  refine bodyPost_ret (results_cell_row rfl _ _ (w.heap.size + 1) 28 _ (0, 0) _ rfl HS.1 Tryd.underlying28 rfl sizeAl) rfl ?_
  exact ⟨rfl, HB1.out.trans (HS.2 _ (by omega))⟩
set_option maxRecDepth 100000 in
set_option maxHeartbeats 4000000 in
theorem spoilt_8 (x : Al) (w : World) (_za : x.a.size ≤ 1000) (_zb : x.b.size ≤ 1000) :
    Calls Tryd.prog 20 #[.agg #[.int .i64 x.k, .string x.a, .string x.b, .string x.l, .string x.s, .string x.r], .int .i64 8] w fun e w' => e = .returned (.agg #[.int .i64 (spoiltA x 8).k, .string (spoiltA x 8).a, .string (spoiltA x 8).b, .string (spoiltA x 8).l, .string (spoiltA x 8).s, .string (spoiltA x 8).r]) ∧ Below w.heap.size w w' := by
  obtain ⟨W1, hW1⟩ : ∃ W1, (w.alloc (.cells #[.int .i64 x.k, .string x.a, .string x.b, .string x.l, .string x.s, .string x.r] 28)).alloc (.cells #[.int .i64 0, .string ⟨#[]⟩, .string ⟨#[]⟩, .string ⟨#[]⟩, .string ⟨#[]⟩, .string ⟨#[]⟩] 28) = W1 := ⟨_, rfl⟩
  have hb1 : Below w.heap.size w W1 := by rw [← hW1]; exact ((Below.refl _ w).alloc (Nat.le_refl _) _).alloc (by simp) _
  have hA : W1.heap[w.heap.size]? = some (.cells #[.int .i64 x.k, .string x.a, .string x.b, .string x.l, .string x.s, .string x.r] 28 (0, 0)) := by rw [← hW1]; exact (Below.heap_alloc _ _ _ (by simp)).trans (World.alloc_heap_new w _)
  have hR : W1.heap[w.heap.size + 1]? = some (.cells #[.int .i64 0, .string ⟨#[]⟩, .string ⟨#[]⟩, .string ⟨#[]⟩, .string ⟨#[]⟩, .string ⟨#[]⟩] 28 (0, 0)) := by rw [← hW1]; exact heap_alloc2_new w _ _
  have hlR := lt_of_block hR
  have HB1 := Lib.hid hb1
  have HA := Lib.hid hA
  have HR := Lib.hid hR
  clear hA hR hb1
  obtain ⟨⟨a0, a1, a2, a3, a4, a5⟩, fa0, fa1, fa2, fa3, fa4, fa5⟩ := al_cells HA.out
  obtain ⟨⟨c0, c1, c2, c3, c4, c5⟩, f0, f1, f2, f3, f4, f5⟩ := al_cells HR.out
  go_enter Tryd.func20, Tryd.ntmps20
  go_upto_region 1 with fail
  clear hW1
  go_wp2
  have HS := al_store HR.out (.int .i64 x.k) (.string x.a) (.string x.b) (.string x.l) (.string x.s) (.string x.r)
  refine bodyPost_ret (results_cell_row rfl _ _ (w.heap.size + 1) 28 _ (0, 0) _ rfl HS.1 Tryd.underlying28 rfl sizeAl) rfl ?_
  exact ⟨rfl, HB1.out.trans (HS.2 _ (by omega))⟩
theorem spoilt_any (x : Al) (n : Nat) (hn : n < 9) (w : World) (za : x.a.size ≤ 1000) (zb : x.b.size ≤ 1000) :
    Calls Tryd.prog 20 #[.agg #[.int .i64 x.k, .string x.a, .string x.b, .string x.l, .string x.s, .string x.r], .int .i64 (n : Int)] w fun e w' => e = .returned (.agg #[.int .i64 (spoiltA x n).k, .string (spoiltA x n).a, .string (spoiltA x n).b, .string (spoiltA x n).l, .string (spoiltA x n).s, .string (spoiltA x n).r]) ∧ Below w.heap.size w w' := by
  have h9 : n = 0 ∨ n = 1 ∨ n = 2 ∨ n = 3 ∨ n = 4 ∨ n = 5 ∨ n = 6 ∨ n = 7 ∨ n = 8 := by omega
  rcases h9 with rfl | rfl | rfl | rfl | rfl | rfl | rfl | rfl | rfl
  · exact spoilt_0 x w za zb
  · exact spoilt_1 x w za zb
  · exact spoilt_2 x w za zb
  · exact spoilt_3 x w za zb
  · exact spoilt_4 x w za zb
  · exact spoilt_5 x w za zb
  · exact spoilt_6 x w za zb
  · exact spoilt_7 x w za zb
  · exact spoilt_8 x w za zb
end Go.Proofs.YtlpjdknmnomdlaaDoor
