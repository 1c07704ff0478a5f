/-
  The document's rule of layer 13: what it gives, as far as memory and sizes go. (Printed by wip/gen_zrule.py.)
-/
import Derived.Test.YthjfcfhibdpbnaaZSeed
import Derived.Test.YthjfcfhibdpbnaaZHeads
namespace Go.Proofs.Ythjfcfhibdpbnaa
open Go Go.RowKit

theorem sizeRule : (Try.prog.info? 64).map (·.size) = some 9 := by kernel_rfl
theorem cells9f {W : World} {B : Nat} {a b c d e f g h i : Value} {t : TypeId} (hh : W.heap[B]? = some (.cells #[a, b, c, d, e, f, g, h, i] t (0, 0))) :
    (W.cell? ⟨B, 0, none⟩ = some a ∧ W.cell? ⟨B, 1, none⟩ = some b ∧ W.cell? ⟨B, 2, none⟩ = some c ∧ W.cell? ⟨B, 3, none⟩ = some d ∧ W.cell? ⟨B, 4, none⟩ = some e ∧ W.cell? ⟨B, 5, none⟩ = some f ∧ W.cell? ⟨B, 6, none⟩ = some g ∧ W.cell? ⟨B, 7, none⟩ = some h ∧ W.cell? ⟨B, 8, none⟩ = some i) ∧
    (W.frozen? ⟨B, 0, none⟩ = false ∧ W.frozen? ⟨B, 1, none⟩ = false ∧ W.frozen? ⟨B, 2, none⟩ = false ∧ W.frozen? ⟨B, 3, none⟩ = false ∧ W.frozen? ⟨B, 4, none⟩ = false ∧ W.frozen? ⟨B, 5, none⟩ = false ∧ W.frozen? ⟨B, 6, none⟩ = false ∧ W.frozen? ⟨B, 7, none⟩ = false ∧ W.frozen? ⟨B, 8, none⟩ = false) :=
  ⟨cells9Z hh, frozenY hh 0, frozenY hh 1, frozenY hh 2, frozenY hh 3, frozenY hh 4, frozenY hh 5, frozenY hh 6, frozenY hh 7, frozenY hh 8⟩
set_option maxRecDepth 1000000 in
set_option maxHeartbeats 16000000 in
theorem rule_any (n : Int) (w : World) :
    Calls Try.prog 19 #[.int .i64 n] w fun e w' => ∃ x : Rl, e = .returned (.agg #[.int .i64 x.lv, .int .i64 x.co, .bool x.ow, .string x.d0, .string x.d1, .string x.d2, .string x.s0, .string x.s1, .string x.s2]) ∧ RlS x ∧ Below w.heap.size w w' := by
  have HR9 := Lib.hid (fun w' => show Calls Try.prog 15 #[.int .i64 n, .int .i64 9] w' fun e w'' => ∃ r : Nat, r < 9 ∧ e = .returned (.int .i64 (r : Int)) ∧ w' = w'' from restD_any n 9 w' (by decide) (by decide))
  have HR101 := Lib.hid (fun x w' => show Calls Try.prog 15 #[.int .i64 x, .int .i64 101] w' fun e w'' => ∃ r : Nat, r < 101 ∧ e = .returned (.int .i64 (r : Int)) ∧ w' = w'' from restD_any x 101 w' (by decide) (by decide))
  have HR2 := Lib.hid (fun x w' => show Calls Try.prog 15 #[.int .i64 x, .int .i64 2] w' fun e w'' => ∃ r : Nat, r < 2 ∧ e = .returned (.int .i64 (r : Int)) ∧ w' = w'' from restD_any x 2 w' (by decide) (by decide))
  obtain ⟨W1, hW1⟩ : ∃ W1, w.alloc (.cells #[.int .i64 0, .int .i64 0, .bool false, .string ⟨#[]⟩, .string ⟨#[]⟩, .string ⟨#[]⟩, .string ⟨#[]⟩, .string ⟨#[]⟩, .string ⟨#[]⟩] 64) = W1 := ⟨_, rfl⟩
  have hA := World.alloc_heap_new w (.cells #[.int .i64 0, .int .i64 0, .bool false, .string ⟨#[]⟩, .string ⟨#[]⟩, .string ⟨#[]⟩, .string ⟨#[]⟩, .string ⟨#[]⟩, .string ⟨#[]⟩] 64)
  have hb1 : Below w.heap.size w W1 := by rw [← hW1]; exact (Below.refl _ w).alloc (Nat.le_refl _) _
  have hs1 : W1.heap.size = w.heap.size + 1 := by rw [← hW1]; simp
  rw [hW1] at hA
  have HW1 := Lib.hid hW1
  clear hW1
  go_enter Try.func19, Try.ntmps19
  go_upto_region 1 with fail
  rw [HW1.out]
  go_upto_region 2 with (go_at_call 15; (with_reducible refine (HR9.out _).mono ?_); rintro e w2 ⟨k, hk, rfl, rfl⟩)
  go_upto_region 3 with (first
    | (go_at_call 15; (with_reducible refine (HR101.out _ _).mono ?_); rintro e w3 ⟨c, hc, rfl, rfl⟩)
    | (go_at_call 15; (with_reducible refine (HR2.out _ _).mono ?_); rintro e w4 ⟨r2, hr2, rfl, rfl⟩))
  generalize ((r2 : Int) == 1) = b
  obtain ⟨W2, hW2⟩ : ∃ W2, W1.alloc (.cells #[.int .i64 0, .int .i64 (c : Int), .bool b, .string ⟨#[]⟩, .string ⟨#[]⟩, .string ⟨#[]⟩, .string ⟨#[]⟩, .string ⟨#[]⟩, .string ⟨#[]⟩] 64) = W2 := ⟨_, rfl⟩
  have hx : W2.heap[w.heap.size + 1]? = some (.cells #[.int .i64 0, .int .i64 (c : Int), .bool b, .string ⟨#[]⟩, .string ⟨#[]⟩, .string ⟨#[]⟩, .string ⟨#[]⟩, .string ⟨#[]⟩, .string ⟨#[]⟩] 64 (0, 0)) := by rw [← hW2, ← hs1]; exact World.alloc_heap_new _ _
  have hr : W2.heap[w.heap.size]? = some (.cells #[.int .i64 0, .int .i64 0, .bool false, .string ⟨#[]⟩, .string ⟨#[]⟩, .string ⟨#[]⟩, .string ⟨#[]⟩, .string ⟨#[]⟩, .string ⟨#[]⟩] 64 (0, 0)) := by rw [← hW2]; exact (Below.heap_alloc _ _ _ (lt_of_block hA)).trans hA
  have hb2 : Below w.heap.size w W2 := by rw [← hW2]; exact hb1.alloc hb1.size _
  rw [hW2]
  have h9 : k = 0 ∨ k = 1 ∨ k = 2 ∨ k = 3 ∨ k = 4 ∨ k = 5 ∨ k = 6 ∨ k = 7 ∨ k = 8 := by omega
  clear hW2 hA hb1 hs1 hr2 hk HW1 HR9 HR101 HR2
  rcases h9 with rfl | rfl | rfl | rfl | rfl | rfl | rfl | rfl | rfl
  · -- the kind 0
    obtain ⟨ca0, fa0⟩ := cells9f hx
    obtain ⟨ca00, ca01, ca02, ca03, ca04, ca05, ca06, ca07, ca08⟩ := ca0
    obtain ⟨fa00, fa01, fa02, fa03, fa04, fa05, fa06, fa07, fa08⟩ := fa0
    go_upto_region 11 with fail
    obtain ⟨Y0, hWY0⟩ : ∃ Y, (W2.setCell ⟨w.heap.size + 1, 0, none⟩ (.int .i64 1)) = Y := ⟨_, rfl⟩
    have xY0 : Y0.heap[w.heap.size + 1]? = some (.cells #[.int .i64 1, .int .i64 (c : Int), .bool b, .string ⟨#[]⟩, .string ⟨#[]⟩, .string ⟨#[]⟩, .string ⟨#[]⟩, .string ⟨#[]⟩, .string ⟨#[]⟩] 64 (0, 0)) := by rw [← hWY0]; exact (setY hx (.int .i64 1))
    have rY0 : Y0.heap[w.heap.size]? = some (.cells #[.int .i64 0, .int .i64 0, .bool false, .string ⟨#[]⟩, .string ⟨#[]⟩, .string ⟨#[]⟩, .string ⟨#[]⟩, .string ⟨#[]⟩, .string ⟨#[]⟩] 64 (0, 0)) := by rw [← hWY0]; exact ((heap_setCellZ (show w.heap.size ≠ w.heap.size + 1 by omega)).trans hr)
    have bY0 : Below w.heap.size w Y0 := by rw [← hWY0]; exact (hb2.setCell (p := ⟨w.heap.size + 1, 0, none⟩) (Nat.le_succ _) (.int .i64 1))
    rw [hWY0]
    clear hWY0 ca00 ca01 ca02 ca03 ca04 ca05 ca06 ca07 ca08 fa00 fa01 fa02 fa03 fa04 fa05 fa06 fa07 fa08
    obtain ⟨V1, hV1⟩ : ∃ V, Y0.alloc (.cells #[.string { data := #[110, 111] }, .string { data := #[101, 110] }, .string { data := #[115, 114] }] 9) = V := ⟨_, rfl⟩
    have ct1 : (Y0.alloc (.cells #[.string { data := #[110, 111] }, .string { data := #[101, 110] }, .string { data := #[115, 114] }] 9)).cell? ⟨Y0.heap.size, 0, none⟩ = some (.string { data := #[110, 111] }) := cellAtY (World.alloc_heap_new _ _) 0 _ rfl
    have hxa1 := (Below.heap_alloc Y0 (.cells #[.string { data := #[110, 111] }, .string { data := #[101, 110] }, .string { data := #[115, 114] }] 9) _ (lt_of_block xY0)).trans xY0
    have hra1 := (Below.heap_alloc Y0 (.cells #[.string { data := #[110, 111] }, .string { data := #[101, 110] }, .string { data := #[115, 114] }] 9) _ (lt_of_block rY0)).trans rY0
    have hba1 := bY0.alloc bY0.size (.cells #[.string { data := #[110, 111] }, .string { data := #[101, 110] }, .string { data := #[115, 114] }] 9)
    obtain ⟨ca1, fa1⟩ := cells9f hxa1
    obtain ⟨ca10, ca11, ca12, ca13, ca14, ca15, ca16, ca17, ca18⟩ := ca1
    obtain ⟨fa10, fa11, fa12, fa13, fa14, fa15, fa16, fa17, fa18⟩ := fa1
    clear hV1 V1
    go_upto_region 12 with fail
    obtain ⟨Y1, hWY1⟩ : ∃ Y, ((Y0.alloc (.cells #[.string { data := #[110, 111] }, .string { data := #[101, 110] }, .string { data := #[115, 114] }] 9)).setCell ⟨w.heap.size + 1, 3, none⟩ (.string { data := #[110, 111] })) = Y := ⟨_, rfl⟩
    have xY1 : Y1.heap[w.heap.size + 1]? = some (.cells #[.int .i64 1, .int .i64 (c : Int), .bool b, .string { data := #[110, 111] }, .string ⟨#[]⟩, .string ⟨#[]⟩, .string ⟨#[]⟩, .string ⟨#[]⟩, .string ⟨#[]⟩] 64 (0, 0)) := by rw [← hWY1]; exact (setY hxa1 (.string { data := #[110, 111] }))
    have rY1 : Y1.heap[w.heap.size]? = some (.cells #[.int .i64 0, .int .i64 0, .bool false, .string ⟨#[]⟩, .string ⟨#[]⟩, .string ⟨#[]⟩, .string ⟨#[]⟩, .string ⟨#[]⟩, .string ⟨#[]⟩] 64 (0, 0)) := by rw [← hWY1]; exact ((heap_setCellZ (show w.heap.size ≠ w.heap.size + 1 by omega)).trans hra1)
    have bY1 : Below w.heap.size w Y1 := by rw [← hWY1]; exact (hba1.setCell (p := ⟨w.heap.size + 1, 3, none⟩) (Nat.le_succ _) (.string { data := #[110, 111] }))
    rw [hWY1]
    clear hWY1 ca10 ca11 ca12 ca13 ca14 ca15 ca16 ca17 ca18 fa10 fa11 fa12 fa13 fa14 fa15 fa16 fa17 fa18 ct1
    obtain ⟨V2, hV2⟩ : ∃ V, Y1.alloc (.cells #[.string { data := #[100, 101] }, .string { data := #[42] }, .string { data := #[114, 117] }] 9) = V := ⟨_, rfl⟩
    have ct2 : (Y1.alloc (.cells #[.string { data := #[100, 101] }, .string { data := #[42] }, .string { data := #[114, 117] }] 9)).cell? ⟨Y1.heap.size, 0, none⟩ = some (.string { data := #[100, 101] }) := cellAtY (World.alloc_heap_new _ _) 0 _ rfl
    have hxa2 := (Below.heap_alloc Y1 (.cells #[.string { data := #[100, 101] }, .string { data := #[42] }, .string { data := #[114, 117] }] 9) _ (lt_of_block xY1)).trans xY1
    have hra2 := (Below.heap_alloc Y1 (.cells #[.string { data := #[100, 101] }, .string { data := #[42] }, .string { data := #[114, 117] }] 9) _ (lt_of_block rY1)).trans rY1
    have hba2 := bY1.alloc bY1.size (.cells #[.string { data := #[100, 101] }, .string { data := #[42] }, .string { data := #[114, 117] }] 9)
    obtain ⟨ca2, fa2⟩ := cells9f hxa2
    obtain ⟨ca20, ca21, ca22, ca23, ca24, ca25, ca26, ca27, ca28⟩ := ca2
    obtain ⟨fa20, fa21, fa22, fa23, fa24, fa25, fa26, fa27, fa28⟩ := fa2
    clear hV2 V2
    go_upto_region 23 with fail
    obtain ⟨Y2, hWY2⟩ : ∃ Y, ((Y1.alloc (.cells #[.string { data := #[100, 101] }, .string { data := #[42] }, .string { data := #[114, 117] }] 9)).setCell ⟨w.heap.size + 1, 6, none⟩ (.string { data := #[100, 101] })) = Y := ⟨_, rfl⟩
    have xY2 : Y2.heap[w.heap.size + 1]? = some (.cells #[.int .i64 1, .int .i64 (c : Int), .bool b, .string { data := #[110, 111] }, .string ⟨#[]⟩, .string ⟨#[]⟩, .string { data := #[100, 101] }, .string ⟨#[]⟩, .string ⟨#[]⟩] 64 (0, 0)) := by rw [← hWY2]; exact (setY hxa2 (.string { data := #[100, 101] }))
    have rY2 : Y2.heap[w.heap.size]? = some (.cells #[.int .i64 0, .int .i64 0, .bool false, .string ⟨#[]⟩, .string ⟨#[]⟩, .string ⟨#[]⟩, .string ⟨#[]⟩, .string ⟨#[]⟩, .string ⟨#[]⟩] 64 (0, 0)) := by rw [← hWY2]; exact ((heap_setCellZ (show w.heap.size ≠ w.heap.size + 1 by omega)).trans hra2)
    have bY2 : Below w.heap.size w Y2 := by rw [← hWY2]; exact (hba2.setCell (p := ⟨w.heap.size + 1, 6, none⟩) (Nat.le_succ _) (.string { data := #[100, 101] }))
    rw [hWY2]
    clear hWY2 ca20 ca21 ca22 ca23 ca24 ca25 ca26 ca27 ca28 fa20 fa21 fa22 fa23 fa24 fa25 fa26 fa27 fa28 ct2
    have HB := Lib.hid bY2
    have HX := Lib.hid xY2
    have HR := Lib.hid rY2
    obtain ⟨z0, z1, z2, z3, z4, z5, z6, z7, z8⟩ := cells9Z HX.out
    go_wp2_with (refine wpList_store_row rfl _ _ _ rfl _ _ rfl rfl _ _ HR.out sizeRule rfl (by simp [Value.oneCell']) ?_)
    refine bodyPost_ret (results_cell_row rfl _ _ w.heap.size 64 #[.int .i64 1, .int .i64 (c : Int), .bool b, .string { data := #[110, 111] }, .string ⟨#[]⟩, .string ⟨#[]⟩, .string { data := #[100, 101] }, .string ⟨#[]⟩, .string ⟨#[]⟩] (0, 0) _ rfl (setRow_heap _ _ _ _ _ _ HR.out) Try.underlying64 rfl sizeRule) rfl ?_
    refine ⟨⟨1, (c : Int), b, ⟨#[110, 111]⟩, ⟨#[]⟩, ⟨#[]⟩, ⟨#[100, 101]⟩, ⟨#[]⟩, ⟨#[]⟩⟩, rfl, ⟨by show (Lit.int .i64 1).wf = true; decide, wf_fewZ ⟨by show (0 : Int) ≤ (c : Int); omega, by show (c : Int) ≤ 1000; omega⟩, ?_⟩, belowZ_setRow HB.out (Nat.le_refl _) _⟩
    intro t ht
    simp only [rlT, List.mem_cons, List.not_mem_nil, or_false] at ht
    rcases ht with rfl | rfl | rfl | rfl | rfl | rfl <;> decide
  · -- the kind 1
    obtain ⟨ca0, fa0⟩ := cells9f hx
    obtain ⟨ca00, ca01, ca02, ca03, ca04, ca05, ca06, ca07, ca08⟩ := ca0
    obtain ⟨fa00, fa01, fa02, fa03, fa04, fa05, fa06, fa07, fa08⟩ := fa0
    go_upto_region 11 with fail
    obtain ⟨Y0, hWY0⟩ : ∃ Y, (W2.setCell ⟨w.heap.size + 1, 0, none⟩ (.int .i64 1)) = Y := ⟨_, rfl⟩
    have xY0 : Y0.heap[w.heap.size + 1]? = some (.cells #[.int .i64 1, .int .i64 (c : Int), .bool b, .string ⟨#[]⟩, .string ⟨#[]⟩, .string ⟨#[]⟩, .string ⟨#[]⟩, .string ⟨#[]⟩, .string ⟨#[]⟩] 64 (0, 0)) := by rw [← hWY0]; exact (setY hx (.int .i64 1))
    have rY0 : Y0.heap[w.heap.size]? = some (.cells #[.int .i64 0, .int .i64 0, .bool false, .string ⟨#[]⟩, .string ⟨#[]⟩, .string ⟨#[]⟩, .string ⟨#[]⟩, .string ⟨#[]⟩, .string ⟨#[]⟩] 64 (0, 0)) := by rw [← hWY0]; exact ((heap_setCellZ (show w.heap.size ≠ w.heap.size + 1 by omega)).trans hr)
    have bY0 : Below w.heap.size w Y0 := by rw [← hWY0]; exact (hb2.setCell (p := ⟨w.heap.size + 1, 0, none⟩) (Nat.le_succ _) (.int .i64 1))
    rw [hWY0]
    clear hWY0 ca00 ca01 ca02 ca03 ca04 ca05 ca06 ca07 ca08 fa00 fa01 fa02 fa03 fa04 fa05 fa06 fa07 fa08
    obtain ⟨V1, hV1⟩ : ∃ V, Y0.alloc (.cells #[.string { data := #[110, 111] }, .string { data := #[101, 110] }, .string { data := #[115, 114] }] 9) = V := ⟨_, rfl⟩
    have ct1 : (Y0.alloc (.cells #[.string { data := #[110, 111] }, .string { data := #[101, 110] }, .string { data := #[115, 114] }] 9)).cell? ⟨Y0.heap.size, 1, none⟩ = some (.string { data := #[101, 110] }) := cellAtY (World.alloc_heap_new _ _) 1 _ rfl
    have hxa1 := (Below.heap_alloc Y0 (.cells #[.string { data := #[110, 111] }, .string { data := #[101, 110] }, .string { data := #[115, 114] }] 9) _ (lt_of_block xY0)).trans xY0
    have hra1 := (Below.heap_alloc Y0 (.cells #[.string { data := #[110, 111] }, .string { data := #[101, 110] }, .string { data := #[115, 114] }] 9) _ (lt_of_block rY0)).trans rY0
    have hba1 := bY0.alloc bY0.size (.cells #[.string { data := #[110, 111] }, .string { data := #[101, 110] }, .string { data := #[115, 114] }] 9)
    obtain ⟨ca1, fa1⟩ := cells9f hxa1
    obtain ⟨ca10, ca11, ca12, ca13, ca14, ca15, ca16, ca17, ca18⟩ := ca1
    obtain ⟨fa10, fa11, fa12, fa13, fa14, fa15, fa16, fa17, fa18⟩ := fa1
    clear hV1 V1
    go_upto_region 12 with fail
    obtain ⟨Y1, hWY1⟩ : ∃ Y, ((Y0.alloc (.cells #[.string { data := #[110, 111] }, .string { data := #[101, 110] }, .string { data := #[115, 114] }] 9)).setCell ⟨w.heap.size + 1, 3, none⟩ (.string { data := #[101, 110] })) = Y := ⟨_, rfl⟩
    have xY1 : Y1.heap[w.heap.size + 1]? = some (.cells #[.int .i64 1, .int .i64 (c : Int), .bool b, .string { data := #[101, 110] }, .string ⟨#[]⟩, .string ⟨#[]⟩, .string ⟨#[]⟩, .string ⟨#[]⟩, .string ⟨#[]⟩] 64 (0, 0)) := by rw [← hWY1]; exact (setY hxa1 (.string { data := #[101, 110] }))
    have rY1 : Y1.heap[w.heap.size]? = some (.cells #[.int .i64 0, .int .i64 0, .bool false, .string ⟨#[]⟩, .string ⟨#[]⟩, .string ⟨#[]⟩, .string ⟨#[]⟩, .string ⟨#[]⟩, .string ⟨#[]⟩] 64 (0, 0)) := by rw [← hWY1]; exact ((heap_setCellZ (show w.heap.size ≠ w.heap.size + 1 by omega)).trans hra1)
    have bY1 : Below w.heap.size w Y1 := by rw [← hWY1]; exact (hba1.setCell (p := ⟨w.heap.size + 1, 3, none⟩) (Nat.le_succ _) (.string { data := #[101, 110] }))
    rw [hWY1]
    clear hWY1 ca10 ca11 ca12 ca13 ca14 ca15 ca16 ca17 ca18 fa10 fa11 fa12 fa13 fa14 fa15 fa16 fa17 fa18 ct1
    obtain ⟨V2, hV2⟩ : ∃ V, Y1.alloc (.cells #[.string { data := #[100, 101] }, .string { data := #[42] }, .string { data := #[114, 117] }] 9) = V := ⟨_, rfl⟩
    have ct2 : (Y1.alloc (.cells #[.string { data := #[100, 101] }, .string { data := #[42] }, .string { data := #[114, 117] }] 9)).cell? ⟨Y1.heap.size, 1, none⟩ = some (.string { data := #[42] }) := cellAtY (World.alloc_heap_new _ _) 1 _ rfl
    have hxa2 := (Below.heap_alloc Y1 (.cells #[.string { data := #[100, 101] }, .string { data := #[42] }, .string { data := #[114, 117] }] 9) _ (lt_of_block xY1)).trans xY1
    have hra2 := (Below.heap_alloc Y1 (.cells #[.string { data := #[100, 101] }, .string { data := #[42] }, .string { data := #[114, 117] }] 9) _ (lt_of_block rY1)).trans rY1
    have hba2 := bY1.alloc bY1.size (.cells #[.string { data := #[100, 101] }, .string { data := #[42] }, .string { data := #[114, 117] }] 9)
    obtain ⟨ca2, fa2⟩ := cells9f hxa2
    obtain ⟨ca20, ca21, ca22, ca23, ca24, ca25, ca26, ca27, ca28⟩ := ca2
    obtain ⟨fa20, fa21, fa22, fa23, fa24, fa25, fa26, fa27, fa28⟩ := fa2
    clear hV2 V2
    go_upto_region 23 with fail
    obtain ⟨Y2, hWY2⟩ : ∃ Y, ((Y1.alloc (.cells #[.string { data := #[100, 101] }, .string { data := #[42] }, .string { data := #[114, 117] }] 9)).setCell ⟨w.heap.size + 1, 6, none⟩ (.string { data := #[42] })) = Y := ⟨_, rfl⟩
    have xY2 : Y2.heap[w.heap.size + 1]? = some (.cells #[.int .i64 1, .int .i64 (c : Int), .bool b, .string { data := #[101, 110] }, .string ⟨#[]⟩, .string ⟨#[]⟩, .string { data := #[42] }, .string ⟨#[]⟩, .string ⟨#[]⟩] 64 (0, 0)) := by rw [← hWY2]; exact (setY hxa2 (.string { data := #[42] }))
    have rY2 : Y2.heap[w.heap.size]? = some (.cells #[.int .i64 0, .int .i64 0, .bool false, .string ⟨#[]⟩, .string ⟨#[]⟩, .string ⟨#[]⟩, .string ⟨#[]⟩, .string ⟨#[]⟩, .string ⟨#[]⟩] 64 (0, 0)) := by rw [← hWY2]; exact ((heap_setCellZ (show w.heap.size ≠ w.heap.size + 1 by omega)).trans hra2)
    have bY2 : Below w.heap.size w Y2 := by rw [← hWY2]; exact (hba2.setCell (p := ⟨w.heap.size + 1, 6, none⟩) (Nat.le_succ _) (.string { data := #[42] }))
    rw [hWY2]
    clear hWY2 ca20 ca21 ca22 ca23 ca24 ca25 ca26 ca27 ca28 fa20 fa21 fa22 fa23 fa24 fa25 fa26 fa27 fa28 ct2
    have HB := Lib.hid bY2
    have HX := Lib.hid xY2
    have HR := Lib.hid rY2
    obtain ⟨z0, z1, z2, z3, z4, z5, z6, z7, z8⟩ := cells9Z HX.out
    go_wp2_with (refine wpList_store_row rfl _ _ _ rfl _ _ rfl rfl _ _ HR.out sizeRule rfl (by simp [Value.oneCell']) ?_)
    refine bodyPost_ret (results_cell_row rfl _ _ w.heap.size 64 #[.int .i64 1, .int .i64 (c : Int), .bool b, .string { data := #[101, 110] }, .string ⟨#[]⟩, .string ⟨#[]⟩, .string { data := #[42] }, .string ⟨#[]⟩, .string ⟨#[]⟩] (0, 0) _ rfl (setRow_heap _ _ _ _ _ _ HR.out) Try.underlying64 rfl sizeRule) rfl ?_
    refine ⟨⟨1, (c : Int), b, ⟨#[101, 110]⟩, ⟨#[]⟩, ⟨#[]⟩, ⟨#[42]⟩, ⟨#[]⟩, ⟨#[]⟩⟩, rfl, ⟨by show (Lit.int .i64 1).wf = true; decide, wf_fewZ ⟨by show (0 : Int) ≤ (c : Int); omega, by show (c : Int) ≤ 1000; omega⟩, ?_⟩, belowZ_setRow HB.out (Nat.le_refl _) _⟩
    intro t ht
    simp only [rlT, List.mem_cons, List.not_mem_nil, or_false] at ht
    rcases ht with rfl | rfl | rfl | rfl | rfl | rfl <;> decide
  · -- the kind 2
    obtain ⟨ca0, fa0⟩ := cells9f hx
    obtain ⟨ca00, ca01, ca02, ca03, ca04, ca05, ca06, ca07, ca08⟩ := ca0
    obtain ⟨fa00, fa01, fa02, fa03, fa04, fa05, fa06, fa07, fa08⟩ := fa0
    go_upto_region 11 with fail
    obtain ⟨Y0, hWY0⟩ : ∃ Y, (W2.setCell ⟨w.heap.size + 1, 0, none⟩ (.int .i64 1)) = Y := ⟨_, rfl⟩
    have xY0 : Y0.heap[w.heap.size + 1]? = some (.cells #[.int .i64 1, .int .i64 (c : Int), .bool b, .string ⟨#[]⟩, .string ⟨#[]⟩, .string ⟨#[]⟩, .string ⟨#[]⟩, .string ⟨#[]⟩, .string ⟨#[]⟩] 64 (0, 0)) := by rw [← hWY0]; exact (setY hx (.int .i64 1))
    have rY0 : Y0.heap[w.heap.size]? = some (.cells #[.int .i64 0, .int .i64 0, .bool false, .string ⟨#[]⟩, .string ⟨#[]⟩, .string ⟨#[]⟩, .string ⟨#[]⟩, .string ⟨#[]⟩, .string ⟨#[]⟩] 64 (0, 0)) := by rw [← hWY0]; exact ((heap_setCellZ (show w.heap.size ≠ w.heap.size + 1 by omega)).trans hr)
    have bY0 : Below w.heap.size w Y0 := by rw [← hWY0]; exact (hb2.setCell (p := ⟨w.heap.size + 1, 0, none⟩) (Nat.le_succ _) (.int .i64 1))
    rw [hWY0]
    clear hWY0 ca00 ca01 ca02 ca03 ca04 ca05 ca06 ca07 ca08 fa00 fa01 fa02 fa03 fa04 fa05 fa06 fa07 fa08
    obtain ⟨V1, hV1⟩ : ∃ V, Y0.alloc (.cells #[.string { data := #[110, 111] }, .string { data := #[101, 110] }, .string { data := #[115, 114] }] 9) = V := ⟨_, rfl⟩
    have ct1 : (Y0.alloc (.cells #[.string { data := #[110, 111] }, .string { data := #[101, 110] }, .string { data := #[115, 114] }] 9)).cell? ⟨Y0.heap.size, 2, none⟩ = some (.string { data := #[115, 114] }) := cellAtY (World.alloc_heap_new _ _) 2 _ rfl
    have hxa1 := (Below.heap_alloc Y0 (.cells #[.string { data := #[110, 111] }, .string { data := #[101, 110] }, .string { data := #[115, 114] }] 9) _ (lt_of_block xY0)).trans xY0
    have hra1 := (Below.heap_alloc Y0 (.cells #[.string { data := #[110, 111] }, .string { data := #[101, 110] }, .string { data := #[115, 114] }] 9) _ (lt_of_block rY0)).trans rY0
    have hba1 := bY0.alloc bY0.size (.cells #[.string { data := #[110, 111] }, .string { data := #[101, 110] }, .string { data := #[115, 114] }] 9)
    obtain ⟨ca1, fa1⟩ := cells9f hxa1
    obtain ⟨ca10, ca11, ca12, ca13, ca14, ca15, ca16, ca17, ca18⟩ := ca1
    obtain ⟨fa10, fa11, fa12, fa13, fa14, fa15, fa16, fa17, fa18⟩ := fa1
    clear hV1 V1
    go_upto_region 12 with fail
    obtain ⟨Y1, hWY1⟩ : ∃ Y, ((Y0.alloc (.cells #[.string { data := #[110, 111] }, .string { data := #[101, 110] }, .string { data := #[115, 114] }] 9)).setCell ⟨w.heap.size + 1, 3, none⟩ (.string { data := #[115, 114] })) = Y := ⟨_, rfl⟩
    have xY1 : Y1.heap[w.heap.size + 1]? = some (.cells #[.int .i64 1, .int .i64 (c : Int), .bool b, .string { data := #[115, 114] }, .string ⟨#[]⟩, .string ⟨#[]⟩, .string ⟨#[]⟩, .string ⟨#[]⟩, .string ⟨#[]⟩] 64 (0, 0)) := by rw [← hWY1]; exact (setY hxa1 (.string { data := #[115, 114] }))
    have rY1 : Y1.heap[w.heap.size]? = some (.cells #[.int .i64 0, .int .i64 0, .bool false, .string ⟨#[]⟩, .string ⟨#[]⟩, .string ⟨#[]⟩, .string ⟨#[]⟩, .string ⟨#[]⟩, .string ⟨#[]⟩] 64 (0, 0)) := by rw [← hWY1]; exact ((heap_setCellZ (show w.heap.size ≠ w.heap.size + 1 by omega)).trans hra1)
    have bY1 : Below w.heap.size w Y1 := by rw [← hWY1]; exact (hba1.setCell (p := ⟨w.heap.size + 1, 3, none⟩) (Nat.le_succ _) (.string { data := #[115, 114] }))
    rw [hWY1]
    clear hWY1 ca10 ca11 ca12 ca13 ca14 ca15 ca16 ca17 ca18 fa10 fa11 fa12 fa13 fa14 fa15 fa16 fa17 fa18 ct1
    obtain ⟨V2, hV2⟩ : ∃ V, Y1.alloc (.cells #[.string { data := #[100, 101] }, .string { data := #[42] }, .string { data := #[114, 117] }] 9) = V := ⟨_, rfl⟩
    have ct2 : (Y1.alloc (.cells #[.string { data := #[100, 101] }, .string { data := #[42] }, .string { data := #[114, 117] }] 9)).cell? ⟨Y1.heap.size, 2, none⟩ = some (.string { data := #[114, 117] }) := cellAtY (World.alloc_heap_new _ _) 2 _ rfl
    have hxa2 := (Below.heap_alloc Y1 (.cells #[.string { data := #[100, 101] }, .string { data := #[42] }, .string { data := #[114, 117] }] 9) _ (lt_of_block xY1)).trans xY1
    have hra2 := (Below.heap_alloc Y1 (.cells #[.string { data := #[100, 101] }, .string { data := #[42] }, .string { data := #[114, 117] }] 9) _ (lt_of_block rY1)).trans rY1
    have hba2 := bY1.alloc bY1.size (.cells #[.string { data := #[100, 101] }, .string { data := #[42] }, .string { data := #[114, 117] }] 9)
    obtain ⟨ca2, fa2⟩ := cells9f hxa2
    obtain ⟨ca20, ca21, ca22, ca23, ca24, ca25, ca26, ca27, ca28⟩ := ca2
    obtain ⟨fa20, fa21, fa22, fa23, fa24, fa25, fa26, fa27, fa28⟩ := fa2
    clear hV2 V2
    go_upto_region 23 with fail
    obtain ⟨Y2, hWY2⟩ : ∃ Y, ((Y1.alloc (.cells #[.string { data := #[100, 101] }, .string { data := #[42] }, .string { data := #[114, 117] }] 9)).setCell ⟨w.heap.size + 1, 6, none⟩ (.string { data := #[114, 117] })) = Y := ⟨_, rfl⟩
    have xY2 : Y2.heap[w.heap.size + 1]? = some (.cells #[.int .i64 1, .int .i64 (c : Int), .bool b, .string { data := #[115, 114] }, .string ⟨#[]⟩, .string ⟨#[]⟩, .string { data := #[114, 117] }, .string ⟨#[]⟩, .string ⟨#[]⟩] 64 (0, 0)) := by rw [← hWY2]; exact (setY hxa2 (.string { data := #[114, 117] }))
    have rY2 : Y2.heap[w.heap.size]? = some (.cells #[.int .i64 0, .int .i64 0, .bool false, .string ⟨#[]⟩, .string ⟨#[]⟩, .string ⟨#[]⟩, .string ⟨#[]⟩, .string ⟨#[]⟩, .string ⟨#[]⟩] 64 (0, 0)) := by rw [← hWY2]; exact ((heap_setCellZ (show w.heap.size ≠ w.heap.size + 1 by omega)).trans hra2)
    have bY2 : Below w.heap.size w Y2 := by rw [← hWY2]; exact (hba2.setCell (p := ⟨w.heap.size + 1, 6, none⟩) (Nat.le_succ _) (.string { data := #[114, 117] }))
    rw [hWY2]
    clear hWY2 ca20 ca21 ca22 ca23 ca24 ca25 ca26 ca27 ca28 fa20 fa21 fa22 fa23 fa24 fa25 fa26 fa27 fa28 ct2
    have HB := Lib.hid bY2
    have HX := Lib.hid xY2
    have HR := Lib.hid rY2
    obtain ⟨z0, z1, z2, z3, z4, z5, z6, z7, z8⟩ := cells9Z HX.out
    go_wp2_with (refine wpList_store_row rfl _ _ _ rfl _ _ rfl rfl _ _ HR.out sizeRule rfl (by simp [Value.oneCell']) ?_)
    refine bodyPost_ret (results_cell_row rfl _ _ w.heap.size 64 #[.int .i64 1, .int .i64 (c : Int), .bool b, .string { data := #[115, 114] }, .string ⟨#[]⟩, .string ⟨#[]⟩, .string { data := #[114, 117] }, .string ⟨#[]⟩, .string ⟨#[]⟩] (0, 0) _ rfl (setRow_heap _ _ _ _ _ _ HR.out) Try.underlying64 rfl sizeRule) rfl ?_
    refine ⟨⟨1, (c : Int), b, ⟨#[115, 114]⟩, ⟨#[]⟩, ⟨#[]⟩, ⟨#[114, 117]⟩, ⟨#[]⟩, ⟨#[]⟩⟩, rfl, ⟨by show (Lit.int .i64 1).wf = true; decide, wf_fewZ ⟨by show (0 : Int) ≤ (c : Int); omega, by show (c : Int) ≤ 1000; omega⟩, ?_⟩, belowZ_setRow HB.out (Nat.le_refl _) _⟩
    intro t ht
    simp only [rlT, List.mem_cons, List.not_mem_nil, or_false] at ht
    rcases ht with rfl | rfl | rfl | rfl | rfl | rfl <;> decide
  · -- the kind 3
    obtain ⟨ca0, fa0⟩ := cells9f hx
    obtain ⟨ca00, ca01, ca02, ca03, ca04, ca05, ca06, ca07, ca08⟩ := ca0
    obtain ⟨fa00, fa01, fa02, fa03, fa04, fa05, fa06, fa07, fa08⟩ := fa0
    go_upto_region 16 with fail
    obtain ⟨Y0, hWY0⟩ : ∃ Y, (W2.setCell ⟨w.heap.size + 1, 0, none⟩ (.int .i64 2)) = Y := ⟨_, rfl⟩
    have xY0 : Y0.heap[w.heap.size + 1]? = some (.cells #[.int .i64 2, .int .i64 (c : Int), .bool b, .string ⟨#[]⟩, .string ⟨#[]⟩, .string ⟨#[]⟩, .string ⟨#[]⟩, .string ⟨#[]⟩, .string ⟨#[]⟩] 64 (0, 0)) := by rw [← hWY0]; exact (setY hx (.int .i64 2))
    have rY0 : Y0.heap[w.heap.size]? = some (.cells #[.int .i64 0, .int .i64 0, .bool false, .string ⟨#[]⟩, .string ⟨#[]⟩, .string ⟨#[]⟩, .string ⟨#[]⟩, .string ⟨#[]⟩, .string ⟨#[]⟩] 64 (0, 0)) := by rw [← hWY0]; exact ((heap_setCellZ (show w.heap.size ≠ w.heap.size + 1 by omega)).trans hr)
    have bY0 : Below w.heap.size w Y0 := by rw [← hWY0]; exact (hb2.setCell (p := ⟨w.heap.size + 1, 0, none⟩) (Nat.le_succ _) (.int .i64 2))
    rw [hWY0]
    clear hWY0 ca00 ca01 ca02 ca03 ca04 ca05 ca06 ca07 ca08 fa00 fa01 fa02 fa03 fa04 fa05 fa06 fa07 fa08
    obtain ⟨ca1, fa1⟩ := cells9f xY0
    obtain ⟨ca10, ca11, ca12, ca13, ca14, ca15, ca16, ca17, ca18⟩ := ca1
    obtain ⟨fa10, fa11, fa12, fa13, fa14, fa15, fa16, fa17, fa18⟩ := fa1
    go_upto_region 17 with fail
    obtain ⟨Y1, hWY1⟩ : ∃ Y, (((Y0.setCell ⟨w.heap.size + 1, 3, none⟩ (.string { data := #[42] })).setCell ⟨w.heap.size + 1, 4, none⟩ (.string { data := #[104, 97, 110, 116] })).setCell ⟨w.heap.size + 1, 5, none⟩ (.string ⟨#[]⟩)) = Y := ⟨_, rfl⟩
    have xY1 : Y1.heap[w.heap.size + 1]? = some (.cells #[.int .i64 2, .int .i64 (c : Int), .bool b, .string { data := #[42] }, .string { data := #[104, 97, 110, 116] }, .string ⟨#[]⟩, .string ⟨#[]⟩, .string ⟨#[]⟩, .string ⟨#[]⟩] 64 (0, 0)) := by rw [← hWY1]; exact (setY (setY (setY xY0 (.string { data := #[42] })) (.string { data := #[104, 97, 110, 116] })) (.string ⟨#[]⟩))
    have rY1 : Y1.heap[w.heap.size]? = some (.cells #[.int .i64 0, .int .i64 0, .bool false, .string ⟨#[]⟩, .string ⟨#[]⟩, .string ⟨#[]⟩, .string ⟨#[]⟩, .string ⟨#[]⟩, .string ⟨#[]⟩] 64 (0, 0)) := by rw [← hWY1]; exact ((heap_setCellZ (show w.heap.size ≠ w.heap.size + 1 by omega)).trans ((heap_setCellZ (show w.heap.size ≠ w.heap.size + 1 by omega)).trans ((heap_setCellZ (show w.heap.size ≠ w.heap.size + 1 by omega)).trans rY0)))
    have bY1 : Below w.heap.size w Y1 := by rw [← hWY1]; exact (((bY0.setCell (p := ⟨w.heap.size + 1, 3, none⟩) (Nat.le_succ _) (.string { data := #[42] })).setCell (p := ⟨w.heap.size + 1, 4, none⟩) (Nat.le_succ _) (.string { data := #[104, 97, 110, 116] })).setCell (p := ⟨w.heap.size + 1, 5, none⟩) (Nat.le_succ _) (.string ⟨#[]⟩))
    rw [hWY1]
    clear hWY1 ca10 ca11 ca12 ca13 ca14 ca15 ca16 ca17 ca18 fa10 fa11 fa12 fa13 fa14 fa15 fa16 fa17 fa18
    obtain ⟨V2, hV2⟩ : ∃ V, Y1.alloc (.cells #[.string { data := #[104, 97, 110, 115] }, .string { data := #[42] }] 9) = V := ⟨_, rfl⟩
    have ct2 : (Y1.alloc (.cells #[.string { data := #[104, 97, 110, 115] }, .string { data := #[42] }] 9)).cell? ⟨Y1.heap.size, 0, none⟩ = some (.string { data := #[104, 97, 110, 115] }) := cellAtY (World.alloc_heap_new _ _) 0 _ rfl
    have hxa2 := (Below.heap_alloc Y1 (.cells #[.string { data := #[104, 97, 110, 115] }, .string { data := #[42] }] 9) _ (lt_of_block xY1)).trans xY1
    have hra2 := (Below.heap_alloc Y1 (.cells #[.string { data := #[104, 97, 110, 115] }, .string { data := #[42] }] 9) _ (lt_of_block rY1)).trans rY1
    have hba2 := bY1.alloc bY1.size (.cells #[.string { data := #[104, 97, 110, 115] }, .string { data := #[42] }] 9)
    obtain ⟨ca2, fa2⟩ := cells9f hxa2
    obtain ⟨ca20, ca21, ca22, ca23, ca24, ca25, ca26, ca27, ca28⟩ := ca2
    obtain ⟨fa20, fa21, fa22, fa23, fa24, fa25, fa26, fa27, fa28⟩ := fa2
    clear hV2 V2
    go_upto_region 23 with fail
    obtain ⟨Y2, hWY2⟩ : ∃ Y, ((((Y1.alloc (.cells #[.string { data := #[104, 97, 110, 115] }, .string { data := #[42] }] 9)).setCell ⟨w.heap.size + 1, 6, none⟩ (.string { data := #[122, 104] })).setCell ⟨w.heap.size + 1, 7, none⟩ (.string { data := #[104, 97, 110, 115] })).setCell ⟨w.heap.size + 1, 8, none⟩ (.string ⟨#[]⟩)) = Y := ⟨_, rfl⟩
    have xY2 : Y2.heap[w.heap.size + 1]? = some (.cells #[.int .i64 2, .int .i64 (c : Int), .bool b, .string { data := #[42] }, .string { data := #[104, 97, 110, 116] }, .string ⟨#[]⟩, .string { data := #[122, 104] }, .string { data := #[104, 97, 110, 115] }, .string ⟨#[]⟩] 64 (0, 0)) := by rw [← hWY2]; exact (setY (setY (setY hxa2 (.string { data := #[122, 104] })) (.string { data := #[104, 97, 110, 115] })) (.string ⟨#[]⟩))
    have rY2 : Y2.heap[w.heap.size]? = some (.cells #[.int .i64 0, .int .i64 0, .bool false, .string ⟨#[]⟩, .string ⟨#[]⟩, .string ⟨#[]⟩, .string ⟨#[]⟩, .string ⟨#[]⟩, .string ⟨#[]⟩] 64 (0, 0)) := by rw [← hWY2]; exact ((heap_setCellZ (show w.heap.size ≠ w.heap.size + 1 by omega)).trans ((heap_setCellZ (show w.heap.size ≠ w.heap.size + 1 by omega)).trans ((heap_setCellZ (show w.heap.size ≠ w.heap.size + 1 by omega)).trans hra2)))
    have bY2 : Below w.heap.size w Y2 := by rw [← hWY2]; exact (((hba2.setCell (p := ⟨w.heap.size + 1, 6, none⟩) (Nat.le_succ _) (.string { data := #[122, 104] })).setCell (p := ⟨w.heap.size + 1, 7, none⟩) (Nat.le_succ _) (.string { data := #[104, 97, 110, 115] })).setCell (p := ⟨w.heap.size + 1, 8, none⟩) (Nat.le_succ _) (.string ⟨#[]⟩))
    rw [hWY2]
    clear hWY2 ca20 ca21 ca22 ca23 ca24 ca25 ca26 ca27 ca28 fa20 fa21 fa22 fa23 fa24 fa25 fa26 fa27 fa28 ct2
    have HB := Lib.hid bY2
    have HX := Lib.hid xY2
    have HR := Lib.hid rY2
    obtain ⟨z0, z1, z2, z3, z4, z5, z6, z7, z8⟩ := cells9Z HX.out
    go_wp2_with (refine wpList_store_row rfl _ _ _ rfl _ _ rfl rfl _ _ HR.out sizeRule rfl (by simp [Value.oneCell']) ?_)
    refine bodyPost_ret (results_cell_row rfl _ _ w.heap.size 64 #[.int .i64 2, .int .i64 (c : Int), .bool b, .string { data := #[42] }, .string { data := #[104, 97, 110, 116] }, .string ⟨#[]⟩, .string { data := #[122, 104] }, .string { data := #[104, 97, 110, 115] }, .string ⟨#[]⟩] (0, 0) _ rfl (setRow_heap _ _ _ _ _ _ HR.out) Try.underlying64 rfl sizeRule) rfl ?_
    refine ⟨⟨2, (c : Int), b, ⟨#[42]⟩, ⟨#[104, 97, 110, 116]⟩, ⟨#[]⟩, ⟨#[122, 104]⟩, ⟨#[104, 97, 110, 115]⟩, ⟨#[]⟩⟩, rfl, ⟨by show (Lit.int .i64 2).wf = true; decide, wf_fewZ ⟨by show (0 : Int) ≤ (c : Int); omega, by show (c : Int) ≤ 1000; omega⟩, ?_⟩, belowZ_setRow HB.out (Nat.le_refl _) _⟩
    intro t ht
    simp only [rlT, List.mem_cons, List.not_mem_nil, or_false] at ht
    rcases ht with rfl | rfl | rfl | rfl | rfl | rfl <;> decide
  · -- the kind 4
    obtain ⟨ca0, fa0⟩ := cells9f hx
    obtain ⟨ca00, ca01, ca02, ca03, ca04, ca05, ca06, ca07, ca08⟩ := ca0
    obtain ⟨fa00, fa01, fa02, fa03, fa04, fa05, fa06, fa07, fa08⟩ := fa0
    go_upto_region 16 with fail
    obtain ⟨Y0, hWY0⟩ : ∃ Y, (W2.setCell ⟨w.heap.size + 1, 0, none⟩ (.int .i64 2)) = Y := ⟨_, rfl⟩
    have xY0 : Y0.heap[w.heap.size + 1]? = some (.cells #[.int .i64 2, .int .i64 (c : Int), .bool b, .string ⟨#[]⟩, .string ⟨#[]⟩, .string ⟨#[]⟩, .string ⟨#[]⟩, .string ⟨#[]⟩, .string ⟨#[]⟩] 64 (0, 0)) := by rw [← hWY0]; exact (setY hx (.int .i64 2))
    have rY0 : Y0.heap[w.heap.size]? = some (.cells #[.int .i64 0, .int .i64 0, .bool false, .string ⟨#[]⟩, .string ⟨#[]⟩, .string ⟨#[]⟩, .string ⟨#[]⟩, .string ⟨#[]⟩, .string ⟨#[]⟩] 64 (0, 0)) := by rw [← hWY0]; exact ((heap_setCellZ (show w.heap.size ≠ w.heap.size + 1 by omega)).trans hr)
    have bY0 : Below w.heap.size w Y0 := by rw [← hWY0]; exact (hb2.setCell (p := ⟨w.heap.size + 1, 0, none⟩) (Nat.le_succ _) (.int .i64 2))
    rw [hWY0]
    clear hWY0 ca00 ca01 ca02 ca03 ca04 ca05 ca06 ca07 ca08 fa00 fa01 fa02 fa03 fa04 fa05 fa06 fa07 fa08
    obtain ⟨ca1, fa1⟩ := cells9f xY0
    obtain ⟨ca10, ca11, ca12, ca13, ca14, ca15, ca16, ca17, ca18⟩ := ca1
    obtain ⟨fa10, fa11, fa12, fa13, fa14, fa15, fa16, fa17, fa18⟩ := fa1
    go_upto_region 17 with fail
    obtain ⟨Y1, hWY1⟩ : ∃ Y, (((Y0.setCell ⟨w.heap.size + 1, 3, none⟩ (.string { data := #[42] })).setCell ⟨w.heap.size + 1, 4, none⟩ (.string { data := #[104, 97, 110, 116] })).setCell ⟨w.heap.size + 1, 5, none⟩ (.string ⟨#[]⟩)) = Y := ⟨_, rfl⟩
    have xY1 : Y1.heap[w.heap.size + 1]? = some (.cells #[.int .i64 2, .int .i64 (c : Int), .bool b, .string { data := #[42] }, .string { data := #[104, 97, 110, 116] }, .string ⟨#[]⟩, .string ⟨#[]⟩, .string ⟨#[]⟩, .string ⟨#[]⟩] 64 (0, 0)) := by rw [← hWY1]; exact (setY (setY (setY xY0 (.string { data := #[42] })) (.string { data := #[104, 97, 110, 116] })) (.string ⟨#[]⟩))
    have rY1 : Y1.heap[w.heap.size]? = some (.cells #[.int .i64 0, .int .i64 0, .bool false, .string ⟨#[]⟩, .string ⟨#[]⟩, .string ⟨#[]⟩, .string ⟨#[]⟩, .string ⟨#[]⟩, .string ⟨#[]⟩] 64 (0, 0)) := by rw [← hWY1]; exact ((heap_setCellZ (show w.heap.size ≠ w.heap.size + 1 by omega)).trans ((heap_setCellZ (show w.heap.size ≠ w.heap.size + 1 by omega)).trans ((heap_setCellZ (show w.heap.size ≠ w.heap.size + 1 by omega)).trans rY0)))
    have bY1 : Below w.heap.size w Y1 := by rw [← hWY1]; exact (((bY0.setCell (p := ⟨w.heap.size + 1, 3, none⟩) (Nat.le_succ _) (.string { data := #[42] })).setCell (p := ⟨w.heap.size + 1, 4, none⟩) (Nat.le_succ _) (.string { data := #[104, 97, 110, 116] })).setCell (p := ⟨w.heap.size + 1, 5, none⟩) (Nat.le_succ _) (.string ⟨#[]⟩))
    rw [hWY1]
    clear hWY1 ca10 ca11 ca12 ca13 ca14 ca15 ca16 ca17 ca18 fa10 fa11 fa12 fa13 fa14 fa15 fa16 fa17 fa18
    obtain ⟨V2, hV2⟩ : ∃ V, Y1.alloc (.cells #[.string { data := #[104, 97, 110, 115] }, .string { data := #[42] }] 9) = V := ⟨_, rfl⟩
    have ct2 : (Y1.alloc (.cells #[.string { data := #[104, 97, 110, 115] }, .string { data := #[42] }] 9)).cell? ⟨Y1.heap.size, 1, none⟩ = some (.string { data := #[42] }) := cellAtY (World.alloc_heap_new _ _) 1 _ rfl
    have hxa2 := (Below.heap_alloc Y1 (.cells #[.string { data := #[104, 97, 110, 115] }, .string { data := #[42] }] 9) _ (lt_of_block xY1)).trans xY1
    have hra2 := (Below.heap_alloc Y1 (.cells #[.string { data := #[104, 97, 110, 115] }, .string { data := #[42] }] 9) _ (lt_of_block rY1)).trans rY1
    have hba2 := bY1.alloc bY1.size (.cells #[.string { data := #[104, 97, 110, 115] }, .string { data := #[42] }] 9)
    obtain ⟨ca2, fa2⟩ := cells9f hxa2
    obtain ⟨ca20, ca21, ca22, ca23, ca24, ca25, ca26, ca27, ca28⟩ := ca2
    obtain ⟨fa20, fa21, fa22, fa23, fa24, fa25, fa26, fa27, fa28⟩ := fa2
    clear hV2 V2
    go_upto_region 23 with fail
    obtain ⟨Y2, hWY2⟩ : ∃ Y, ((((Y1.alloc (.cells #[.string { data := #[104, 97, 110, 115] }, .string { data := #[42] }] 9)).setCell ⟨w.heap.size + 1, 6, none⟩ (.string { data := #[122, 104] })).setCell ⟨w.heap.size + 1, 7, none⟩ (.string { data := #[42] })).setCell ⟨w.heap.size + 1, 8, none⟩ (.string ⟨#[]⟩)) = Y := ⟨_, rfl⟩
    have xY2 : Y2.heap[w.heap.size + 1]? = some (.cells #[.int .i64 2, .int .i64 (c : Int), .bool b, .string { data := #[42] }, .string { data := #[104, 97, 110, 116] }, .string ⟨#[]⟩, .string { data := #[122, 104] }, .string { data := #[42] }, .string ⟨#[]⟩] 64 (0, 0)) := by rw [← hWY2]; exact (setY (setY (setY hxa2 (.string { data := #[122, 104] })) (.string { data := #[42] })) (.string ⟨#[]⟩))
    have rY2 : Y2.heap[w.heap.size]? = some (.cells #[.int .i64 0, .int .i64 0, .bool false, .string ⟨#[]⟩, .string ⟨#[]⟩, .string ⟨#[]⟩, .string ⟨#[]⟩, .string ⟨#[]⟩, .string ⟨#[]⟩] 64 (0, 0)) := by rw [← hWY2]; exact ((heap_setCellZ (show w.heap.size ≠ w.heap.size + 1 by omega)).trans ((heap_setCellZ (show w.heap.size ≠ w.heap.size + 1 by omega)).trans ((heap_setCellZ (show w.heap.size ≠ w.heap.size + 1 by omega)).trans hra2)))
    have bY2 : Below w.heap.size w Y2 := by rw [← hWY2]; exact (((hba2.setCell (p := ⟨w.heap.size + 1, 6, none⟩) (Nat.le_succ _) (.string { data := #[122, 104] })).setCell (p := ⟨w.heap.size + 1, 7, none⟩) (Nat.le_succ _) (.string { data := #[42] })).setCell (p := ⟨w.heap.size + 1, 8, none⟩) (Nat.le_succ _) (.string ⟨#[]⟩))
    rw [hWY2]
    clear hWY2 ca20 ca21 ca22 ca23 ca24 ca25 ca26 ca27 ca28 fa20 fa21 fa22 fa23 fa24 fa25 fa26 fa27 fa28 ct2
    have HB := Lib.hid bY2
    have HX := Lib.hid xY2
    have HR := Lib.hid rY2
    obtain ⟨z0, z1, z2, z3, z4, z5, z6, z7, z8⟩ := cells9Z HX.out
    go_wp2_with (refine wpList_store_row rfl _ _ _ rfl _ _ rfl rfl _ _ HR.out sizeRule rfl (by simp [Value.oneCell']) ?_)
    refine bodyPost_ret (results_cell_row rfl _ _ w.heap.size 64 #[.int .i64 2, .int .i64 (c : Int), .bool b, .string { data := #[42] }, .string { data := #[104, 97, 110, 116] }, .string ⟨#[]⟩, .string { data := #[122, 104] }, .string { data := #[42] }, .string ⟨#[]⟩] (0, 0) _ rfl (setRow_heap _ _ _ _ _ _ HR.out) Try.underlying64 rfl sizeRule) rfl ?_
    refine ⟨⟨2, (c : Int), b, ⟨#[42]⟩, ⟨#[104, 97, 110, 116]⟩, ⟨#[]⟩, ⟨#[122, 104]⟩, ⟨#[42]⟩, ⟨#[]⟩⟩, rfl, ⟨by show (Lit.int .i64 2).wf = true; decide, wf_fewZ ⟨by show (0 : Int) ≤ (c : Int); omega, by show (c : Int) ≤ 1000; omega⟩, ?_⟩, belowZ_setRow HB.out (Nat.le_refl _) _⟩
    intro t ht
    simp only [rlT, List.mem_cons, List.not_mem_nil, or_false] at ht
    rcases ht with rfl | rfl | rfl | rfl | rfl | rfl <;> decide
  · -- the kind 5
    obtain ⟨ca0, fa0⟩ := cells9f hx
    obtain ⟨ca00, ca01, ca02, ca03, ca04, ca05, ca06, ca07, ca08⟩ := ca0
    obtain ⟨fa00, fa01, fa02, fa03, fa04, fa05, fa06, fa07, fa08⟩ := fa0
    go_upto_region 21 with fail
    obtain ⟨Y0, hWY0⟩ : ∃ Y, (W2.setCell ⟨w.heap.size + 1, 0, none⟩ (.int .i64 3)) = Y := ⟨_, rfl⟩
    have xY0 : Y0.heap[w.heap.size + 1]? = some (.cells #[.int .i64 3, .int .i64 (c : Int), .bool b, .string ⟨#[]⟩, .string ⟨#[]⟩, .string ⟨#[]⟩, .string ⟨#[]⟩, .string ⟨#[]⟩, .string ⟨#[]⟩] 64 (0, 0)) := by rw [← hWY0]; exact (setY hx (.int .i64 3))
    have rY0 : Y0.heap[w.heap.size]? = some (.cells #[.int .i64 0, .int .i64 0, .bool false, .string ⟨#[]⟩, .string ⟨#[]⟩, .string ⟨#[]⟩, .string ⟨#[]⟩, .string ⟨#[]⟩, .string ⟨#[]⟩] 64 (0, 0)) := by rw [← hWY0]; exact ((heap_setCellZ (show w.heap.size ≠ w.heap.size + 1 by omega)).trans hr)
    have bY0 : Below w.heap.size w Y0 := by rw [← hWY0]; exact (hb2.setCell (p := ⟨w.heap.size + 1, 0, none⟩) (Nat.le_succ _) (.int .i64 3))
    rw [hWY0]
    clear hWY0 ca00 ca01 ca02 ca03 ca04 ca05 ca06 ca07 ca08 fa00 fa01 fa02 fa03 fa04 fa05 fa06 fa07 fa08
    obtain ⟨V1, hV1⟩ : ∃ V, Y0.alloc (.cells #[.string { data := #[36, 101, 117] }, .string { data := #[117, 115] }] 9) = V := ⟨_, rfl⟩
    have ct1 : (Y0.alloc (.cells #[.string { data := #[36, 101, 117] }, .string { data := #[117, 115] }] 9)).cell? ⟨Y0.heap.size, 0, none⟩ = some (.string { data := #[36, 101, 117] }) := cellAtY (World.alloc_heap_new _ _) 0 _ rfl
    have hxa1 := (Below.heap_alloc Y0 (.cells #[.string { data := #[36, 101, 117] }, .string { data := #[117, 115] }] 9) _ (lt_of_block xY0)).trans xY0
    have hra1 := (Below.heap_alloc Y0 (.cells #[.string { data := #[36, 101, 117] }, .string { data := #[117, 115] }] 9) _ (lt_of_block rY0)).trans rY0
    have hba1 := bY0.alloc bY0.size (.cells #[.string { data := #[36, 101, 117] }, .string { data := #[117, 115] }] 9)
    obtain ⟨ca1, fa1⟩ := cells9f hxa1
    obtain ⟨ca10, ca11, ca12, ca13, ca14, ca15, ca16, ca17, ca18⟩ := ca1
    obtain ⟨fa10, fa11, fa12, fa13, fa14, fa15, fa16, fa17, fa18⟩ := fa1
    clear hV1 V1
    go_upto_region 22 with fail
    obtain ⟨Y1, hWY1⟩ : ∃ Y, ((((Y0.alloc (.cells #[.string { data := #[36, 101, 117] }, .string { data := #[117, 115] }] 9)).setCell ⟨w.heap.size + 1, 3, none⟩ (.string { data := #[42] })).setCell ⟨w.heap.size + 1, 4, none⟩ (.string { data := #[42] })).setCell ⟨w.heap.size + 1, 5, none⟩ (.string { data := #[36, 101, 117] })) = Y := ⟨_, rfl⟩
    have xY1 : Y1.heap[w.heap.size + 1]? = some (.cells #[.int .i64 3, .int .i64 (c : Int), .bool b, .string { data := #[42] }, .string { data := #[42] }, .string { data := #[36, 101, 117] }, .string ⟨#[]⟩, .string ⟨#[]⟩, .string ⟨#[]⟩] 64 (0, 0)) := by rw [← hWY1]; exact (setY (setY (setY hxa1 (.string { data := #[42] })) (.string { data := #[42] })) (.string { data := #[36, 101, 117] }))
    have rY1 : Y1.heap[w.heap.size]? = some (.cells #[.int .i64 0, .int .i64 0, .bool false, .string ⟨#[]⟩, .string ⟨#[]⟩, .string ⟨#[]⟩, .string ⟨#[]⟩, .string ⟨#[]⟩, .string ⟨#[]⟩] 64 (0, 0)) := by rw [← hWY1]; exact ((heap_setCellZ (show w.heap.size ≠ w.heap.size + 1 by omega)).trans ((heap_setCellZ (show w.heap.size ≠ w.heap.size + 1 by omega)).trans ((heap_setCellZ (show w.heap.size ≠ w.heap.size + 1 by omega)).trans hra1)))
    have bY1 : Below w.heap.size w Y1 := by rw [← hWY1]; exact (((hba1.setCell (p := ⟨w.heap.size + 1, 3, none⟩) (Nat.le_succ _) (.string { data := #[42] })).setCell (p := ⟨w.heap.size + 1, 4, none⟩) (Nat.le_succ _) (.string { data := #[42] })).setCell (p := ⟨w.heap.size + 1, 5, none⟩) (Nat.le_succ _) (.string { data := #[36, 101, 117] }))
    rw [hWY1]
    clear hWY1 ca10 ca11 ca12 ca13 ca14 ca15 ca16 ca17 ca18 fa10 fa11 fa12 fa13 fa14 fa15 fa16 fa17 fa18 ct1
    obtain ⟨V2, hV2⟩ : ∃ V, Y1.alloc (.cells #[.string { data := #[33, 101, 117] }, .string { data := #[36, 101, 117] }] 9) = V := ⟨_, rfl⟩
    have ct2 : (Y1.alloc (.cells #[.string { data := #[33, 101, 117] }, .string { data := #[36, 101, 117] }] 9)).cell? ⟨Y1.heap.size, 0, none⟩ = some (.string { data := #[33, 101, 117] }) := cellAtY (World.alloc_heap_new _ _) 0 _ rfl
    have hxa2 := (Below.heap_alloc Y1 (.cells #[.string { data := #[33, 101, 117] }, .string { data := #[36, 101, 117] }] 9) _ (lt_of_block xY1)).trans xY1
    have hra2 := (Below.heap_alloc Y1 (.cells #[.string { data := #[33, 101, 117] }, .string { data := #[36, 101, 117] }] 9) _ (lt_of_block rY1)).trans rY1
    have hba2 := bY1.alloc bY1.size (.cells #[.string { data := #[33, 101, 117] }, .string { data := #[36, 101, 117] }] 9)
    obtain ⟨ca2, fa2⟩ := cells9f hxa2
    obtain ⟨ca20, ca21, ca22, ca23, ca24, ca25, ca26, ca27, ca28⟩ := ca2
    obtain ⟨fa20, fa21, fa22, fa23, fa24, fa25, fa26, fa27, fa28⟩ := fa2
    clear hV2 V2
    go_upto_region 23 with fail
    obtain ⟨Y2, hWY2⟩ : ∃ Y, ((((Y1.alloc (.cells #[.string { data := #[33, 101, 117] }, .string { data := #[36, 101, 117] }] 9)).setCell ⟨w.heap.size + 1, 6, none⟩ (.string { data := #[42] })).setCell ⟨w.heap.size + 1, 7, none⟩ (.string { data := #[108, 97, 116, 110] })).setCell ⟨w.heap.size + 1, 8, none⟩ (.string { data := #[33, 101, 117] })) = Y := ⟨_, rfl⟩
    have xY2 : Y2.heap[w.heap.size + 1]? = some (.cells #[.int .i64 3, .int .i64 (c : Int), .bool b, .string { data := #[42] }, .string { data := #[42] }, .string { data := #[36, 101, 117] }, .string { data := #[42] }, .string { data := #[108, 97, 116, 110] }, .string { data := #[33, 101, 117] }] 64 (0, 0)) := by rw [← hWY2]; exact (setY (setY (setY hxa2 (.string { data := #[42] })) (.string { data := #[108, 97, 116, 110] })) (.string { data := #[33, 101, 117] }))
    have rY2 : Y2.heap[w.heap.size]? = some (.cells #[.int .i64 0, .int .i64 0, .bool false, .string ⟨#[]⟩, .string ⟨#[]⟩, .string ⟨#[]⟩, .string ⟨#[]⟩, .string ⟨#[]⟩, .string ⟨#[]⟩] 64 (0, 0)) := by rw [← hWY2]; exact ((heap_setCellZ (show w.heap.size ≠ w.heap.size + 1 by omega)).trans ((heap_setCellZ (show w.heap.size ≠ w.heap.size + 1 by omega)).trans ((heap_setCellZ (show w.heap.size ≠ w.heap.size + 1 by omega)).trans hra2)))
    have bY2 : Below w.heap.size w Y2 := by rw [← hWY2]; exact (((hba2.setCell (p := ⟨w.heap.size + 1, 6, none⟩) (Nat.le_succ _) (.string { data := #[42] })).setCell (p := ⟨w.heap.size + 1, 7, none⟩) (Nat.le_succ _) (.string { data := #[108, 97, 116, 110] })).setCell (p := ⟨w.heap.size + 1, 8, none⟩) (Nat.le_succ _) (.string { data := #[33, 101, 117] }))
    rw [hWY2]
    clear hWY2 ca20 ca21 ca22 ca23 ca24 ca25 ca26 ca27 ca28 fa20 fa21 fa22 fa23 fa24 fa25 fa26 fa27 fa28 ct2
    have HB := Lib.hid bY2
    have HX := Lib.hid xY2
    have HR := Lib.hid rY2
    obtain ⟨z0, z1, z2, z3, z4, z5, z6, z7, z8⟩ := cells9Z HX.out
    go_wp2_with (refine wpList_store_row rfl _ _ _ rfl _ _ rfl rfl _ _ HR.out sizeRule rfl (by simp [Value.oneCell']) ?_)
    refine bodyPost_ret (results_cell_row rfl _ _ w.heap.size 64 #[.int .i64 3, .int .i64 (c : Int), .bool b, .string { data := #[42] }, .string { data := #[42] }, .string { data := #[36, 101, 117] }, .string { data := #[42] }, .string { data := #[108, 97, 116, 110] }, .string { data := #[33, 101, 117] }] (0, 0) _ rfl (setRow_heap _ _ _ _ _ _ HR.out) Try.underlying64 rfl sizeRule) rfl ?_
    refine ⟨⟨3, (c : Int), b, ⟨#[42]⟩, ⟨#[42]⟩, ⟨#[36, 101, 117]⟩, ⟨#[42]⟩, ⟨#[108, 97, 116, 110]⟩, ⟨#[33, 101, 117]⟩⟩, rfl, ⟨by show (Lit.int .i64 3).wf = true; decide, wf_fewZ ⟨by show (0 : Int) ≤ (c : Int); omega, by show (c : Int) ≤ 1000; omega⟩, ?_⟩, belowZ_setRow HB.out (Nat.le_refl _) _⟩
    intro t ht
    simp only [rlT, List.mem_cons, List.not_mem_nil, or_false] at ht
    rcases ht with rfl | rfl | rfl | rfl | rfl | rfl <;> decide
  · -- the kind 6
    obtain ⟨ca0, fa0⟩ := cells9f hx
    obtain ⟨ca00, ca01, ca02, ca03, ca04, ca05, ca06, ca07, ca08⟩ := ca0
    obtain ⟨fa00, fa01, fa02, fa03, fa04, fa05, fa06, fa07, fa08⟩ := fa0
    go_upto_region 21 with fail
    obtain ⟨Y0, hWY0⟩ : ∃ Y, (W2.setCell ⟨w.heap.size + 1, 0, none⟩ (.int .i64 3)) = Y := ⟨_, rfl⟩
    have xY0 : Y0.heap[w.heap.size + 1]? = some (.cells #[.int .i64 3, .int .i64 (c : Int), .bool b, .string ⟨#[]⟩, .string ⟨#[]⟩, .string ⟨#[]⟩, .string ⟨#[]⟩, .string ⟨#[]⟩, .string ⟨#[]⟩] 64 (0, 0)) := by rw [← hWY0]; exact (setY hx (.int .i64 3))
    have rY0 : Y0.heap[w.heap.size]? = some (.cells #[.int .i64 0, .int .i64 0, .bool false, .string ⟨#[]⟩, .string ⟨#[]⟩, .string ⟨#[]⟩, .string ⟨#[]⟩, .string ⟨#[]⟩, .string ⟨#[]⟩] 64 (0, 0)) := by rw [← hWY0]; exact ((heap_setCellZ (show w.heap.size ≠ w.heap.size + 1 by omega)).trans hr)
    have bY0 : Below w.heap.size w Y0 := by rw [← hWY0]; exact (hb2.setCell (p := ⟨w.heap.size + 1, 0, none⟩) (Nat.le_succ _) (.int .i64 3))
    rw [hWY0]
    clear hWY0 ca00 ca01 ca02 ca03 ca04 ca05 ca06 ca07 ca08 fa00 fa01 fa02 fa03 fa04 fa05 fa06 fa07 fa08
    obtain ⟨V1, hV1⟩ : ∃ V, Y0.alloc (.cells #[.string { data := #[36, 101, 117] }, .string { data := #[117, 115] }] 9) = V := ⟨_, rfl⟩
    have ct1 : (Y0.alloc (.cells #[.string { data := #[36, 101, 117] }, .string { data := #[117, 115] }] 9)).cell? ⟨Y0.heap.size, 1, none⟩ = some (.string { data := #[117, 115] }) := cellAtY (World.alloc_heap_new _ _) 1 _ rfl
    have hxa1 := (Below.heap_alloc Y0 (.cells #[.string { data := #[36, 101, 117] }, .string { data := #[117, 115] }] 9) _ (lt_of_block xY0)).trans xY0
    have hra1 := (Below.heap_alloc Y0 (.cells #[.string { data := #[36, 101, 117] }, .string { data := #[117, 115] }] 9) _ (lt_of_block rY0)).trans rY0
    have hba1 := bY0.alloc bY0.size (.cells #[.string { data := #[36, 101, 117] }, .string { data := #[117, 115] }] 9)
    obtain ⟨ca1, fa1⟩ := cells9f hxa1
    obtain ⟨ca10, ca11, ca12, ca13, ca14, ca15, ca16, ca17, ca18⟩ := ca1
    obtain ⟨fa10, fa11, fa12, fa13, fa14, fa15, fa16, fa17, fa18⟩ := fa1
    clear hV1 V1
    go_upto_region 22 with fail
    obtain ⟨Y1, hWY1⟩ : ∃ Y, ((((Y0.alloc (.cells #[.string { data := #[36, 101, 117] }, .string { data := #[117, 115] }] 9)).setCell ⟨w.heap.size + 1, 3, none⟩ (.string { data := #[42] })).setCell ⟨w.heap.size + 1, 4, none⟩ (.string { data := #[42] })).setCell ⟨w.heap.size + 1, 5, none⟩ (.string { data := #[117, 115] })) = Y := ⟨_, rfl⟩
    have xY1 : Y1.heap[w.heap.size + 1]? = some (.cells #[.int .i64 3, .int .i64 (c : Int), .bool b, .string { data := #[42] }, .string { data := #[42] }, .string { data := #[117, 115] }, .string ⟨#[]⟩, .string ⟨#[]⟩, .string ⟨#[]⟩] 64 (0, 0)) := by rw [← hWY1]; exact (setY (setY (setY hxa1 (.string { data := #[42] })) (.string { data := #[42] })) (.string { data := #[117, 115] }))
    have rY1 : Y1.heap[w.heap.size]? = some (.cells #[.int .i64 0, .int .i64 0, .bool false, .string ⟨#[]⟩, .string ⟨#[]⟩, .string ⟨#[]⟩, .string ⟨#[]⟩, .string ⟨#[]⟩, .string ⟨#[]⟩] 64 (0, 0)) := by rw [← hWY1]; exact ((heap_setCellZ (show w.heap.size ≠ w.heap.size + 1 by omega)).trans ((heap_setCellZ (show w.heap.size ≠ w.heap.size + 1 by omega)).trans ((heap_setCellZ (show w.heap.size ≠ w.heap.size + 1 by omega)).trans hra1)))
    have bY1 : Below w.heap.size w Y1 := by rw [← hWY1]; exact (((hba1.setCell (p := ⟨w.heap.size + 1, 3, none⟩) (Nat.le_succ _) (.string { data := #[42] })).setCell (p := ⟨w.heap.size + 1, 4, none⟩) (Nat.le_succ _) (.string { data := #[42] })).setCell (p := ⟨w.heap.size + 1, 5, none⟩) (Nat.le_succ _) (.string { data := #[117, 115] }))
    rw [hWY1]
    clear hWY1 ca10 ca11 ca12 ca13 ca14 ca15 ca16 ca17 ca18 fa10 fa11 fa12 fa13 fa14 fa15 fa16 fa17 fa18 ct1
    obtain ⟨V2, hV2⟩ : ∃ V, Y1.alloc (.cells #[.string { data := #[33, 101, 117] }, .string { data := #[36, 101, 117] }] 9) = V := ⟨_, rfl⟩
    have ct2 : (Y1.alloc (.cells #[.string { data := #[33, 101, 117] }, .string { data := #[36, 101, 117] }] 9)).cell? ⟨Y1.heap.size, 1, none⟩ = some (.string { data := #[36, 101, 117] }) := cellAtY (World.alloc_heap_new _ _) 1 _ rfl
    have hxa2 := (Below.heap_alloc Y1 (.cells #[.string { data := #[33, 101, 117] }, .string { data := #[36, 101, 117] }] 9) _ (lt_of_block xY1)).trans xY1
    have hra2 := (Below.heap_alloc Y1 (.cells #[.string { data := #[33, 101, 117] }, .string { data := #[36, 101, 117] }] 9) _ (lt_of_block rY1)).trans rY1
    have hba2 := bY1.alloc bY1.size (.cells #[.string { data := #[33, 101, 117] }, .string { data := #[36, 101, 117] }] 9)
    obtain ⟨ca2, fa2⟩ := cells9f hxa2
    obtain ⟨ca20, ca21, ca22, ca23, ca24, ca25, ca26, ca27, ca28⟩ := ca2
    obtain ⟨fa20, fa21, fa22, fa23, fa24, fa25, fa26, fa27, fa28⟩ := fa2
    clear hV2 V2
    go_upto_region 23 with fail
    obtain ⟨Y2, hWY2⟩ : ∃ Y, ((((Y1.alloc (.cells #[.string { data := #[33, 101, 117] }, .string { data := #[36, 101, 117] }] 9)).setCell ⟨w.heap.size + 1, 6, none⟩ (.string { data := #[42] })).setCell ⟨w.heap.size + 1, 7, none⟩ (.string { data := #[108, 97, 116, 110] })).setCell ⟨w.heap.size + 1, 8, none⟩ (.string { data := #[36, 101, 117] })) = Y := ⟨_, rfl⟩
    have xY2 : Y2.heap[w.heap.size + 1]? = some (.cells #[.int .i64 3, .int .i64 (c : Int), .bool b, .string { data := #[42] }, .string { data := #[42] }, .string { data := #[117, 115] }, .string { data := #[42] }, .string { data := #[108, 97, 116, 110] }, .string { data := #[36, 101, 117] }] 64 (0, 0)) := by rw [← hWY2]; exact (setY (setY (setY hxa2 (.string { data := #[42] })) (.string { data := #[108, 97, 116, 110] })) (.string { data := #[36, 101, 117] }))
    have rY2 : Y2.heap[w.heap.size]? = some (.cells #[.int .i64 0, .int .i64 0, .bool false, .string ⟨#[]⟩, .string ⟨#[]⟩, .string ⟨#[]⟩, .string ⟨#[]⟩, .string ⟨#[]⟩, .string ⟨#[]⟩] 64 (0, 0)) := by rw [← hWY2]; exact ((heap_setCellZ (show w.heap.size ≠ w.heap.size + 1 by omega)).trans ((heap_setCellZ (show w.heap.size ≠ w.heap.size + 1 by omega)).trans ((heap_setCellZ (show w.heap.size ≠ w.heap.size + 1 by omega)).trans hra2)))
    have bY2 : Below w.heap.size w Y2 := by rw [← hWY2]; exact (((hba2.setCell (p := ⟨w.heap.size + 1, 6, none⟩) (Nat.le_succ _) (.string { data := #[42] })).setCell (p := ⟨w.heap.size + 1, 7, none⟩) (Nat.le_succ _) (.string { data := #[108, 97, 116, 110] })).setCell (p := ⟨w.heap.size + 1, 8, none⟩) (Nat.le_succ _) (.string { data := #[36, 101, 117] }))
    rw [hWY2]
    clear hWY2 ca20 ca21 ca22 ca23 ca24 ca25 ca26 ca27 ca28 fa20 fa21 fa22 fa23 fa24 fa25 fa26 fa27 fa28 ct2
    have HB := Lib.hid bY2
    have HX := Lib.hid xY2
    have HR := Lib.hid rY2
    obtain ⟨z0, z1, z2, z3, z4, z5, z6, z7, z8⟩ := cells9Z HX.out
    go_wp2_with (refine wpList_store_row rfl _ _ _ rfl _ _ rfl rfl _ _ HR.out sizeRule rfl (by simp [Value.oneCell']) ?_)
    refine bodyPost_ret (results_cell_row rfl _ _ w.heap.size 64 #[.int .i64 3, .int .i64 (c : Int), .bool b, .string { data := #[42] }, .string { data := #[42] }, .string { data := #[117, 115] }, .string { data := #[42] }, .string { data := #[108, 97, 116, 110] }, .string { data := #[36, 101, 117] }] (0, 0) _ rfl (setRow_heap _ _ _ _ _ _ HR.out) Try.underlying64 rfl sizeRule) rfl ?_
    refine ⟨⟨3, (c : Int), b, ⟨#[42]⟩, ⟨#[42]⟩, ⟨#[117, 115]⟩, ⟨#[42]⟩, ⟨#[108, 97, 116, 110]⟩, ⟨#[36, 101, 117]⟩⟩, rfl, ⟨by show (Lit.int .i64 3).wf = true; decide, wf_fewZ ⟨by show (0 : Int) ≤ (c : Int); omega, by show (c : Int) ≤ 1000; omega⟩, ?_⟩, belowZ_setRow HB.out (Nat.le_refl _) _⟩
    intro t ht
    simp only [rlT, List.mem_cons, List.not_mem_nil, or_false] at ht
    rcases ht with rfl | rfl | rfl | rfl | rfl | rfl <;> decide
  · -- the kind 7
    obtain ⟨ca0, fa0⟩ := cells9f hx
    obtain ⟨ca00, ca01, ca02, ca03, ca04, ca05, ca06, ca07, ca08⟩ := ca0
    obtain ⟨fa00, fa01, fa02, fa03, fa04, fa05, fa06, fa07, fa08⟩ := fa0
    go_upto_region 5 with fail
    obtain ⟨Y0, hWY0⟩ : ∃ Y, (W2.setCell ⟨w.heap.size + 1, 0, none⟩ (.int .i64 3)) = Y := ⟨_, rfl⟩
    have xY0 : Y0.heap[w.heap.size + 1]? = some (.cells #[.int .i64 3, .int .i64 (c : Int), .bool b, .string ⟨#[]⟩, .string ⟨#[]⟩, .string ⟨#[]⟩, .string ⟨#[]⟩, .string ⟨#[]⟩, .string ⟨#[]⟩] 64 (0, 0)) := by rw [← hWY0]; exact (setY hx (.int .i64 3))
    have rY0 : Y0.heap[w.heap.size]? = some (.cells #[.int .i64 0, .int .i64 0, .bool false, .string ⟨#[]⟩, .string ⟨#[]⟩, .string ⟨#[]⟩, .string ⟨#[]⟩, .string ⟨#[]⟩, .string ⟨#[]⟩] 64 (0, 0)) := by rw [← hWY0]; exact ((heap_setCellZ (show w.heap.size ≠ w.heap.size + 1 by omega)).trans hr)
    have bY0 : Below w.heap.size w Y0 := by rw [← hWY0]; exact (hb2.setCell (p := ⟨w.heap.size + 1, 0, none⟩) (Nat.le_succ _) (.int .i64 3))
    rw [hWY0]
    clear hWY0 ca00 ca01 ca02 ca03 ca04 ca05 ca06 ca07 ca08 fa00 fa01 fa02 fa03 fa04 fa05 fa06 fa07 fa08
    obtain ⟨ca1, fa1⟩ := cells9f xY0
    obtain ⟨ca10, ca11, ca12, ca13, ca14, ca15, ca16, ca17, ca18⟩ := ca1
    obtain ⟨fa10, fa11, fa12, fa13, fa14, fa15, fa16, fa17, fa18⟩ := fa1
    go_upto_region 6 with fail
    obtain ⟨Y1, hWY1⟩ : ∃ Y, (((Y0.setCell ⟨w.heap.size + 1, 3, none⟩ (.string { data := #[101, 110] })).setCell ⟨w.heap.size + 1, 4, none⟩ (.string { data := #[42] })).setCell ⟨w.heap.size + 1, 5, none⟩ (.string { data := #[103, 98] })) = Y := ⟨_, rfl⟩
    have xY1 : Y1.heap[w.heap.size + 1]? = some (.cells #[.int .i64 3, .int .i64 (c : Int), .bool b, .string { data := #[101, 110] }, .string { data := #[42] }, .string { data := #[103, 98] }, .string ⟨#[]⟩, .string ⟨#[]⟩, .string ⟨#[]⟩] 64 (0, 0)) := by rw [← hWY1]; exact (setY (setY (setY xY0 (.string { data := #[101, 110] })) (.string { data := #[42] })) (.string { data := #[103, 98] }))
    have rY1 : Y1.heap[w.heap.size]? = some (.cells #[.int .i64 0, .int .i64 0, .bool false, .string ⟨#[]⟩, .string ⟨#[]⟩, .string ⟨#[]⟩, .string ⟨#[]⟩, .string ⟨#[]⟩, .string ⟨#[]⟩] 64 (0, 0)) := by rw [← hWY1]; exact ((heap_setCellZ (show w.heap.size ≠ w.heap.size + 1 by omega)).trans ((heap_setCellZ (show w.heap.size ≠ w.heap.size + 1 by omega)).trans ((heap_setCellZ (show w.heap.size ≠ w.heap.size + 1 by omega)).trans rY0)))
    have bY1 : Below w.heap.size w Y1 := by rw [← hWY1]; exact (((bY0.setCell (p := ⟨w.heap.size + 1, 3, none⟩) (Nat.le_succ _) (.string { data := #[101, 110] })).setCell (p := ⟨w.heap.size + 1, 4, none⟩) (Nat.le_succ _) (.string { data := #[42] })).setCell (p := ⟨w.heap.size + 1, 5, none⟩) (Nat.le_succ _) (.string { data := #[103, 98] }))
    rw [hWY1]
    clear hWY1 ca10 ca11 ca12 ca13 ca14 ca15 ca16 ca17 ca18 fa10 fa11 fa12 fa13 fa14 fa15 fa16 fa17 fa18
    obtain ⟨ca2, fa2⟩ := cells9f xY1
    obtain ⟨ca20, ca21, ca22, ca23, ca24, ca25, ca26, ca27, ca28⟩ := ca2
    obtain ⟨fa20, fa21, fa22, fa23, fa24, fa25, fa26, fa27, fa28⟩ := fa2
    go_upto_region 23 with fail
    obtain ⟨Y2, hWY2⟩ : ∃ Y, (((Y1.setCell ⟨w.heap.size + 1, 6, none⟩ (.string { data := #[101, 110] })).setCell ⟨w.heap.size + 1, 7, none⟩ (.string { data := #[42] })).setCell ⟨w.heap.size + 1, 8, none⟩ (.string { data := #[33, 101, 117] })) = Y := ⟨_, rfl⟩
    have xY2 : Y2.heap[w.heap.size + 1]? = some (.cells #[.int .i64 3, .int .i64 (c : Int), .bool b, .string { data := #[101, 110] }, .string { data := #[42] }, .string { data := #[103, 98] }, .string { data := #[101, 110] }, .string { data := #[42] }, .string { data := #[33, 101, 117] }] 64 (0, 0)) := by rw [← hWY2]; exact (setY (setY (setY xY1 (.string { data := #[101, 110] })) (.string { data := #[42] })) (.string { data := #[33, 101, 117] }))
    have rY2 : Y2.heap[w.heap.size]? = some (.cells #[.int .i64 0, .int .i64 0, .bool false, .string ⟨#[]⟩, .string ⟨#[]⟩, .string ⟨#[]⟩, .string ⟨#[]⟩, .string ⟨#[]⟩, .string ⟨#[]⟩] 64 (0, 0)) := by rw [← hWY2]; exact ((heap_setCellZ (show w.heap.size ≠ w.heap.size + 1 by omega)).trans ((heap_setCellZ (show w.heap.size ≠ w.heap.size + 1 by omega)).trans ((heap_setCellZ (show w.heap.size ≠ w.heap.size + 1 by omega)).trans rY1)))
    have bY2 : Below w.heap.size w Y2 := by rw [← hWY2]; exact (((bY1.setCell (p := ⟨w.heap.size + 1, 6, none⟩) (Nat.le_succ _) (.string { data := #[101, 110] })).setCell (p := ⟨w.heap.size + 1, 7, none⟩) (Nat.le_succ _) (.string { data := #[42] })).setCell (p := ⟨w.heap.size + 1, 8, none⟩) (Nat.le_succ _) (.string { data := #[33, 101, 117] }))
    rw [hWY2]
    clear hWY2 ca20 ca21 ca22 ca23 ca24 ca25 ca26 ca27 ca28 fa20 fa21 fa22 fa23 fa24 fa25 fa26 fa27 fa28
    have HB := Lib.hid bY2
    have HX := Lib.hid xY2
    have HR := Lib.hid rY2
    obtain ⟨z0, z1, z2, z3, z4, z5, z6, z7, z8⟩ := cells9Z HX.out
    go_wp2_with (refine wpList_store_row rfl _ _ _ rfl _ _ rfl rfl _ _ HR.out sizeRule rfl (by simp [Value.oneCell']) ?_)
    refine bodyPost_ret (results_cell_row rfl _ _ w.heap.size 64 #[.int .i64 3, .int .i64 (c : Int), .bool b, .string { data := #[101, 110] }, .string { data := #[42] }, .string { data := #[103, 98] }, .string { data := #[101, 110] }, .string { data := #[42] }, .string { data := #[33, 101, 117] }] (0, 0) _ rfl (setRow_heap _ _ _ _ _ _ HR.out) Try.underlying64 rfl sizeRule) rfl ?_
    refine ⟨⟨3, (c : Int), b, ⟨#[101, 110]⟩, ⟨#[42]⟩, ⟨#[103, 98]⟩, ⟨#[101, 110]⟩, ⟨#[42]⟩, ⟨#[33, 101, 117]⟩⟩, rfl, ⟨by show (Lit.int .i64 3).wf = true; decide, wf_fewZ ⟨by show (0 : Int) ≤ (c : Int); omega, by show (c : Int) ≤ 1000; omega⟩, ?_⟩, belowZ_setRow HB.out (Nat.le_refl _) _⟩
    intro t ht
    simp only [rlT, List.mem_cons, List.not_mem_nil, or_false] at ht
    rcases ht with rfl | rfl | rfl | rfl | rfl | rfl <;> decide
  · -- the kind 8
    obtain ⟨ca0, fa0⟩ := cells9f hx
    obtain ⟨ca00, ca01, ca02, ca03, ca04, ca05, ca06, ca07, ca08⟩ := ca0
    obtain ⟨fa00, fa01, fa02, fa03, fa04, fa05, fa06, fa07, fa08⟩ := fa0
    go_upto_region 5 with fail
    obtain ⟨Y0, hWY0⟩ : ∃ Y, (W2.setCell ⟨w.heap.size + 1, 0, none⟩ (.int .i64 3)) = Y := ⟨_, rfl⟩
    have xY0 : Y0.heap[w.heap.size + 1]? = some (.cells #[.int .i64 3, .int .i64 (c : Int), .bool b, .string ⟨#[]⟩, .string ⟨#[]⟩, .string ⟨#[]⟩, .string ⟨#[]⟩, .string ⟨#[]⟩, .string ⟨#[]⟩] 64 (0, 0)) := by rw [← hWY0]; exact (setY hx (.int .i64 3))
    have rY0 : Y0.heap[w.heap.size]? = some (.cells #[.int .i64 0, .int .i64 0, .bool false, .string ⟨#[]⟩, .string ⟨#[]⟩, .string ⟨#[]⟩, .string ⟨#[]⟩, .string ⟨#[]⟩, .string ⟨#[]⟩] 64 (0, 0)) := by rw [← hWY0]; exact ((heap_setCellZ (show w.heap.size ≠ w.heap.size + 1 by omega)).trans hr)
    have bY0 : Below w.heap.size w Y0 := by rw [← hWY0]; exact (hb2.setCell (p := ⟨w.heap.size + 1, 0, none⟩) (Nat.le_succ _) (.int .i64 3))
    rw [hWY0]
    clear hWY0 ca00 ca01 ca02 ca03 ca04 ca05 ca06 ca07 ca08 fa00 fa01 fa02 fa03 fa04 fa05 fa06 fa07 fa08
    obtain ⟨ca1, fa1⟩ := cells9f xY0
    obtain ⟨ca10, ca11, ca12, ca13, ca14, ca15, ca16, ca17, ca18⟩ := ca1
    obtain ⟨fa10, fa11, fa12, fa13, fa14, fa15, fa16, fa17, fa18⟩ := fa1
    go_upto_region 6 with fail
    obtain ⟨Y1, hWY1⟩ : ∃ Y, (((Y0.setCell ⟨w.heap.size + 1, 3, none⟩ (.string { data := #[101, 110] })).setCell ⟨w.heap.size + 1, 4, none⟩ (.string { data := #[42] })).setCell ⟨w.heap.size + 1, 5, none⟩ (.string { data := #[103, 98] })) = Y := ⟨_, rfl⟩
    have xY1 : Y1.heap[w.heap.size + 1]? = some (.cells #[.int .i64 3, .int .i64 (c : Int), .bool b, .string { data := #[101, 110] }, .string { data := #[42] }, .string { data := #[103, 98] }, .string ⟨#[]⟩, .string ⟨#[]⟩, .string ⟨#[]⟩] 64 (0, 0)) := by rw [← hWY1]; exact (setY (setY (setY xY0 (.string { data := #[101, 110] })) (.string { data := #[42] })) (.string { data := #[103, 98] }))
    have rY1 : Y1.heap[w.heap.size]? = some (.cells #[.int .i64 0, .int .i64 0, .bool false, .string ⟨#[]⟩, .string ⟨#[]⟩, .string ⟨#[]⟩, .string ⟨#[]⟩, .string ⟨#[]⟩, .string ⟨#[]⟩] 64 (0, 0)) := by rw [← hWY1]; exact ((heap_setCellZ (show w.heap.size ≠ w.heap.size + 1 by omega)).trans ((heap_setCellZ (show w.heap.size ≠ w.heap.size + 1 by omega)).trans ((heap_setCellZ (show w.heap.size ≠ w.heap.size + 1 by omega)).trans rY0)))
    have bY1 : Below w.heap.size w Y1 := by rw [← hWY1]; exact (((bY0.setCell (p := ⟨w.heap.size + 1, 3, none⟩) (Nat.le_succ _) (.string { data := #[101, 110] })).setCell (p := ⟨w.heap.size + 1, 4, none⟩) (Nat.le_succ _) (.string { data := #[42] })).setCell (p := ⟨w.heap.size + 1, 5, none⟩) (Nat.le_succ _) (.string { data := #[103, 98] }))
    rw [hWY1]
    clear hWY1 ca10 ca11 ca12 ca13 ca14 ca15 ca16 ca17 ca18 fa10 fa11 fa12 fa13 fa14 fa15 fa16 fa17 fa18
    obtain ⟨ca2, fa2⟩ := cells9f xY1
    obtain ⟨ca20, ca21, ca22, ca23, ca24, ca25, ca26, ca27, ca28⟩ := ca2
    obtain ⟨fa20, fa21, fa22, fa23, fa24, fa25, fa26, fa27, fa28⟩ := fa2
    go_upto_region 23 with fail
    obtain ⟨Y2, hWY2⟩ : ∃ Y, (((Y1.setCell ⟨w.heap.size + 1, 6, none⟩ (.string { data := #[101, 110] })).setCell ⟨w.heap.size + 1, 7, none⟩ (.string { data := #[42] })).setCell ⟨w.heap.size + 1, 8, none⟩ (.string { data := #[33, 101, 117] })) = Y := ⟨_, rfl⟩
    have xY2 : Y2.heap[w.heap.size + 1]? = some (.cells #[.int .i64 3, .int .i64 (c : Int), .bool b, .string { data := #[101, 110] }, .string { data := #[42] }, .string { data := #[103, 98] }, .string { data := #[101, 110] }, .string { data := #[42] }, .string { data := #[33, 101, 117] }] 64 (0, 0)) := by rw [← hWY2]; exact (setY (setY (setY xY1 (.string { data := #[101, 110] })) (.string { data := #[42] })) (.string { data := #[33, 101, 117] }))
    have rY2 : Y2.heap[w.heap.size]? = some (.cells #[.int .i64 0, .int .i64 0, .bool false, .string ⟨#[]⟩, .string ⟨#[]⟩, .string ⟨#[]⟩, .string ⟨#[]⟩, .string ⟨#[]⟩, .string ⟨#[]⟩] 64 (0, 0)) := by rw [← hWY2]; exact ((heap_setCellZ (show w.heap.size ≠ w.heap.size + 1 by omega)).trans ((heap_setCellZ (show w.heap.size ≠ w.heap.size + 1 by omega)).trans ((heap_setCellZ (show w.heap.size ≠ w.heap.size + 1 by omega)).trans rY1)))
    have bY2 : Below w.heap.size w Y2 := by rw [← hWY2]; exact (((bY1.setCell (p := ⟨w.heap.size + 1, 6, none⟩) (Nat.le_succ _) (.string { data := #[101, 110] })).setCell (p := ⟨w.heap.size + 1, 7, none⟩) (Nat.le_succ _) (.string { data := #[42] })).setCell (p := ⟨w.heap.size + 1, 8, none⟩) (Nat.le_succ _) (.string { data := #[33, 101, 117] }))
    rw [hWY2]
    clear hWY2 ca20 ca21 ca22 ca23 ca24 ca25 ca26 ca27 ca28 fa20 fa21 fa22 fa23 fa24 fa25 fa26 fa27 fa28
    have HB := Lib.hid bY2
    have HX := Lib.hid xY2
    have HR := Lib.hid rY2
    obtain ⟨z0, z1, z2, z3, z4, z5, z6, z7, z8⟩ := cells9Z HX.out
    go_wp2_with (refine wpList_store_row rfl _ _ _ rfl _ _ rfl rfl _ _ HR.out sizeRule rfl (by simp [Value.oneCell']) ?_)
    refine bodyPost_ret (results_cell_row rfl _ _ w.heap.size 64 #[.int .i64 3, .int .i64 (c : Int), .bool b, .string { data := #[101, 110] }, .string { data := #[42] }, .string { data := #[103, 98] }, .string { data := #[101, 110] }, .string { data := #[42] }, .string { data := #[33, 101, 117] }] (0, 0) _ rfl (setRow_heap _ _ _ _ _ _ HR.out) Try.underlying64 rfl sizeRule) rfl ?_
    refine ⟨⟨3, (c : Int), b, ⟨#[101, 110]⟩, ⟨#[42]⟩, ⟨#[103, 98]⟩, ⟨#[101, 110]⟩, ⟨#[42]⟩, ⟨#[33, 101, 117]⟩⟩, rfl, ⟨by show (Lit.int .i64 3).wf = true; decide, wf_fewZ ⟨by show (0 : Int) ≤ (c : Int); omega, by show (c : Int) ≤ 1000; omega⟩, ?_⟩, belowZ_setRow HB.out (Nat.le_refl _) _⟩
    intro t ht
    simp only [rlT, List.mem_cons, List.not_mem_nil, or_false] at ht
    rcases ht with rfl | rfl | rfl | rfl | rfl | rfl <;> decide
end Go.Proofs.Ythjfcfhibdpbnaa
