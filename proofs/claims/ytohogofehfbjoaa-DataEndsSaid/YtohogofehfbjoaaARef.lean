/-
  Layer 15: the chapter's own image; Find and Likely of package data. (Printed by wip/gen_aref.py.)
-/
import Derived.Test.YtohogofehfbjoaaAFind
namespace Go.Proofs.Ytohogofehfbjoaa
open Go Go.RowKit

set_option maxRecDepth 100000 in
set_option maxHeartbeats 4000000 in
theorem imageR_15 (w : World) : Calls Try.prog 6 #[] w (Image15 w) := by
  obtain ⟨W0, hW0⟩ : ∃ W0, w.alloc (.cells #[.slice none 0 0, .slice none 0 0, .slice none 0 0, .slice none 0 0, .int .i64 0, .int .i64 0] 29) = W0 := ⟨_, rfl⟩
  obtain ⟨W1, hW1⟩ : ∃ W1, W0.alloc (.cells (als15.flatMap axC).toArray 32) = W1 := ⟨_, rfl⟩
  obtain ⟨W2, hW2⟩ : ∃ W2, W1.alloc (.cells (lks15.flatMap lxC).toArray 35) = W2 := ⟨_, rfl⟩
  obtain ⟨W3, hW3⟩ : ∃ W3, W2.alloc (.cells (rls15.flatMap rxC).toArray 46) = W3 := ⟨_, rfl⟩
  obtain ⟨W4, hW4⟩ : ∃ W4, W3.alloc (.cells (mbs15.flatMap mxC).toArray 48) = W4 := ⟨_, rfl⟩
  obtain ⟨N, hN⟩ : ∃ N, w.heap.size = N := ⟨_, rfl⟩
  have HS0 : W0.heap.size = N + 1 := by rw [← hW0, ← hN]; simp
  have HS1 : W1.heap.size = N + 2 := by rw [← hW1]; simp [HS0]
  have HS2 : W2.heap.size = N + 3 := by rw [← hW2]; simp [HS1]
  have HS3 : W3.heap.size = N + 4 := by rw [← hW3]; simp [HS2]
  have b0 : Below N w W0 := by rw [← hW0]; exact (Below.refl _ w).alloc (by omega) _
  have b1 : Below N w W1 := by rw [← hW1]; exact b0.alloc (by omega) _
  have b2 : Below N w W2 := by rw [← hW2]; exact b1.alloc (by omega) _
  have b3 : Below N w W3 := by rw [← hW3]; exact b2.alloc (by omega) _
  have b4 : Below N w W4 := by rw [← hW4]; exact b3.alloc (by omega) _
  have z0 : W0.heap[N]? = some (.cells #[.slice none 0 0, .slice none 0 0, .slice none 0 0, .slice none 0 0, .int .i64 0, .int .i64 0] 29 (0, 0)) := by rw [← hW0, ← hN]; exact World.alloc_heap_new w _
  have z1 : W1.heap[N + 1]? = some (.cells (als15.flatMap axC).toArray 32 (0, 0)) := by rw [← hW1, ← HS0]; exact World.alloc_heap_new W0 _
  have z2 : W2.heap[N + 2]? = some (.cells (lks15.flatMap lxC).toArray 35 (0, 0)) := by rw [← hW2, ← HS1]; exact World.alloc_heap_new W1 _
  have z3 : W3.heap[N + 3]? = some (.cells (rls15.flatMap rxC).toArray 46 (0, 0)) := by rw [← hW3, ← HS2]; exact World.alloc_heap_new W2 _
  have z4 : W4.heap[N + 4]? = some (.cells (mbs15.flatMap mxC).toArray 48 (0, 0)) := by rw [← hW4, ← HS3]; exact World.alloc_heap_new W3 _
  have h01 : ∀ i, i < N + 1 → W1.heap[i]? = W0.heap[i]? := fun i hi => by rw [← hW1]; exact Below.heap_alloc _ _ _ (by omega)
  have h12 : ∀ i, i < N + 2 → W2.heap[i]? = W1.heap[i]? := fun i hi => by rw [← hW2]; exact Below.heap_alloc _ _ _ (by omega)
  have h23 : ∀ i, i < N + 3 → W3.heap[i]? = W2.heap[i]? := fun i hi => by rw [← hW3]; exact Below.heap_alloc _ _ _ (by omega)
  have h34 : ∀ i, i < N + 4 → W4.heap[i]? = W3.heap[i]? := fun i hi => by rw [← hW4]; exact Below.heap_alloc _ _ _ (by omega)
  have hI : W4.heap[N]? = some (.cells #[.slice none 0 0, .slice none 0 0, .slice none 0 0, .slice none 0 0, .int .i64 0, .int .i64 0] 29 (0, 0)) := by rw [h34 _ (by omega), h23 _ (by omega), h12 _ (by omega), h01 _ (by omega)]; exact z0
  have HM := Lib.hid (show Im15 W4 N (N + 1) (N + 2) (N + 3) (N + 4) from ⟨by rw [h34 _ (by omega), h23 _ (by omega), h12 _ (by omega)]; exact z1, by rw [h34 _ (by omega), h23 _ (by omega)]; exact z2, by rw [h34 _ (by omega)]; exact z3, z4, by omega, by omega, by omega, by omega⟩)
  have HB4 := Lib.hid b4
  have HW0 := Lib.hid hW0
  clear hW0 b0 b1 b2 b3 b4 z0 z1 z2 z3 z4 h01 h12 h23 h34
  unfold Image15
  go_enter Try.func6, Try.ntmps6
  go_upto_region 1 with fail
  try rw [HW0.out]
  try rw [hN]
  refine wp_region_lit ?_
  simp only [List.append_eq, List.cons_append, List.nil_append]
  refine wpList_litsN 54 (⟨(.pointer (some ⟨N, 0, none⟩) :: ((als15.map fun x => Value.agg (axC x).toArray) ++ List.replicate 89 undef)).toArray, []⟩) (by kernel_rfl) ?_
  simp only [List.drop_succ_cons, List.drop_zero]
  refine wpList_litRow 24 32 54 _ rfl rfl (by kernel_rfl) (als15.flatMap axC).toArray (N + 1) (HS0) (by kernel_rfl) (a' := ⟨(.pointer (some ⟨N, 0, none⟩) :: ((als15.map fun x => Value.agg (axC x).toArray) ++ [.slice (some ⟨N + 1, 0, none⟩) 54 54] ++ List.replicate 88 undef)).toArray, []⟩) (by kernel_rfl) ?_
  rw [hW1]
  refine wpList_litsN 32 (⟨(.pointer (some ⟨N, 0, none⟩) :: ((als15.map fun x => Value.agg (axC x).toArray) ++ [.slice (some ⟨N + 1, 0, none⟩) 54 54] ++ (lks15.map fun x => Value.agg (lxC x).toArray) ++ List.replicate 56 undef)).toArray, []⟩) (by kernel_rfl) ?_
  simp only [List.drop_succ_cons, List.drop_zero]
  refine wpList_litRow 25 35 32 _ rfl rfl (by kernel_rfl) (lks15.flatMap lxC).toArray (N + 2) (HS1) (by kernel_rfl) (a' := ⟨(.pointer (some ⟨N, 0, none⟩) :: ((als15.map fun x => Value.agg (axC x).toArray) ++ [.slice (some ⟨N + 1, 0, none⟩) 54 54] ++ (lks15.map fun x => Value.agg (lxC x).toArray) ++ [.slice (some ⟨N + 2, 0, none⟩) 32 32] ++ List.replicate 55 undef)).toArray, []⟩) (by kernel_rfl) ?_
  rw [hW2]
  refine wpList_litsN 45 (⟨(.pointer (some ⟨N, 0, none⟩) :: ((als15.map fun x => Value.agg (axC x).toArray) ++ [.slice (some ⟨N + 1, 0, none⟩) 54 54] ++ (lks15.map fun x => Value.agg (lxC x).toArray) ++ [.slice (some ⟨N + 2, 0, none⟩) 32 32] ++ (rls15.flatMap fun x => [Value.agg #[.string x.d0, .string x.d1, .string x.d2], Value.agg #[.string x.s0, .string x.s1, .string x.s2], Value.agg (rxC x).toArray]) ++ List.replicate 10 undef)).toArray, []⟩) (by kernel_rfl) ?_
  simp only [List.drop_succ_cons, List.drop_zero]
  refine wpList_litRow 26 46 15 _ rfl rfl (by kernel_rfl) (rls15.flatMap rxC).toArray (N + 3) (HS2) (by kernel_rfl) (a' := ⟨(.pointer (some ⟨N, 0, none⟩) :: ((als15.map fun x => Value.agg (axC x).toArray) ++ [.slice (some ⟨N + 1, 0, none⟩) 54 54] ++ (lks15.map fun x => Value.agg (lxC x).toArray) ++ [.slice (some ⟨N + 2, 0, none⟩) 32 32] ++ (rls15.flatMap fun x => [Value.agg #[.string x.d0, .string x.d1, .string x.d2], Value.agg #[.string x.s0, .string x.s1, .string x.s2], Value.agg (rxC x).toArray]) ++ [.slice (some ⟨N + 3, 0, none⟩) 15 15] ++ List.replicate 9 undef)).toArray, []⟩) (by kernel_rfl) ?_
  rw [hW3]
  refine wpList_litsN 7 (⟨(.pointer (some ⟨N, 0, none⟩) :: ((als15.map fun x => Value.agg (axC x).toArray) ++ [.slice (some ⟨N + 1, 0, none⟩) 54 54] ++ (lks15.map fun x => Value.agg (lxC x).toArray) ++ [.slice (some ⟨N + 2, 0, none⟩) 32 32] ++ (rls15.flatMap fun x => [Value.agg #[.string x.d0, .string x.d1, .string x.d2], Value.agg #[.string x.s0, .string x.s1, .string x.s2], Value.agg (rxC x).toArray]) ++ [.slice (some ⟨N + 3, 0, none⟩) 15 15] ++ (mbs15.map fun x => Value.agg (mxC x).toArray) ++ List.replicate 2 undef)).toArray, []⟩) (by kernel_rfl) ?_
  simp only [List.drop_succ_cons, List.drop_zero]
  refine wpList_litRow 27 48 7 _ rfl rfl (by kernel_rfl) (mbs15.flatMap mxC).toArray (N + 4) (HS3) (by kernel_rfl) (a' := ⟨(.pointer (some ⟨N, 0, none⟩) :: ((als15.map fun x => Value.agg (axC x).toArray) ++ [.slice (some ⟨N + 1, 0, none⟩) 54 54] ++ (lks15.map fun x => Value.agg (lxC x).toArray) ++ [.slice (some ⟨N + 2, 0, none⟩) 32 32] ++ (rls15.flatMap fun x => [Value.agg #[.string x.d0, .string x.d1, .string x.d2], Value.agg #[.string x.s0, .string x.s1, .string x.s2], Value.agg (rxC x).toArray]) ++ [.slice (some ⟨N + 3, 0, none⟩) 15 15] ++ (mbs15.map fun x => Value.agg (mxC x).toArray) ++ [.slice (some ⟨N + 4, 0, none⟩) 7 7] ++ List.replicate 1 undef)).toArray, []⟩) (by kernel_rfl) ?_
  rw [hW4]
  refine wpList_litsN 1 (⟨(.pointer (some ⟨N, 0, none⟩) :: ((als15.map fun x => Value.agg (axC x).toArray) ++ [.slice (some ⟨N + 1, 0, none⟩) 54 54] ++ (lks15.map fun x => Value.agg (lxC x).toArray) ++ [.slice (some ⟨N + 2, 0, none⟩) 32 32] ++ (rls15.flatMap fun x => [Value.agg #[.string x.d0, .string x.d1, .string x.d2], Value.agg #[.string x.s0, .string x.s1, .string x.s2], Value.agg (rxC x).toArray]) ++ [.slice (some ⟨N + 3, 0, none⟩) 15 15] ++ (mbs15.map fun x => Value.agg (mxC x).toArray) ++ [.slice (some ⟨N + 4, 0, none⟩) 7 7] ++ [.agg #[.slice (some ⟨N + 1, 0, none⟩) 54 54, .slice (some ⟨N + 2, 0, none⟩) 32 32, .slice (some ⟨N + 3, 0, none⟩) 15 15, .slice (some ⟨N + 4, 0, none⟩) 7 7, .int .i64 40, .int .i64 5]])).toArray, []⟩) (by kernel_rfl) ?_
  simp only [List.drop_succ_cons, List.drop_zero]
  refine wpList_store_row rfl _ _ _ rfl N #[.slice (some ⟨N + 1, 0, none⟩) 54 54, .slice (some ⟨N + 2, 0, none⟩) 32 32, .slice (some ⟨N + 3, 0, none⟩) 15 15, .slice (some ⟨N + 4, 0, none⟩) 7 7, .int .i64 40, .int .i64 5] rfl rfl _ _ hI sizeIm15 rfl (by simp [Value.oneCell']) ?_
  refine wpList_nil ?_
  generalize ((als15.map fun x => Value.agg (axC x).toArray) ++ [.slice (some ⟨N + 1, 0, none⟩) 54 54] ++ (lks15.map fun x => Value.agg (lxC x).toArray) ++ [.slice (some ⟨N + 2, 0, none⟩) 32 32] ++ (rls15.flatMap fun x => [Value.agg #[.string x.d0, .string x.d1, .string x.d2], Value.agg #[.string x.s0, .string x.s1, .string x.s2], Value.agg (rxC x).toArray]) ++ [.slice (some ⟨N + 3, 0, none⟩) 15 15] ++ (mbs15.map fun x => Value.agg (mxC x).toArray) ++ [.slice (some ⟨N + 4, 0, none⟩) 7 7] ++ [.agg #[.slice (some ⟨N + 1, 0, none⟩) 54 54, .slice (some ⟨N + 2, 0, none⟩) 32 32, .slice (some ⟨N + 3, 0, none⟩) 15 15, .slice (some ⟨N + 4, 0, none⟩) 7 7, .int .i64 40, .int .i64 5]]) = rest
  go_wp2
  have hM := HM.out
  refine bodyPost_ret (results_cell_row rfl _ _ N 29 #[.slice (some ⟨N + 1, 0, none⟩) 54 54, .slice (some ⟨N + 2, 0, none⟩) 32 32, .slice (some ⟨N + 3, 0, none⟩) 15 15, .slice (some ⟨N + 4, 0, none⟩) 7 7, .int .i64 40, .int .i64 5] (0, 0) _ rfl (setRow_heap _ _ _ _ _ _ hI) Try.underlying29 rfl sizeIm15) rfl ?_
  rw [hN]
  refine ⟨N + 1, N + 2, N + 3, N + 4, rfl, ⟨?_, ?_, ?_, ?_, hM.o1, hM.o2, hM.o3, hM.o4⟩, belowA_setRow HB4.out (Nat.le_refl _) _⟩
  · rw [setRow_other _ _ _ _ (by omega)]; exact hM.a
  · rw [setRow_other _ _ _ _ (by omega)]; exact hM.l
  · rw [setRow_other _ _ _ _ (by omega)]; exact hM.r
  · rw [setRow_other _ _ _ _ (by omega)]; exact hM.m
set_option maxRecDepth 100000 in
set_option maxHeartbeats 2000000 in
theorem Find_15 (k : Int) (a b : ByteArray) (w : World) :
    Calls Try.prog 8 #[.int .i64 k, .string a, .string b] w fun e w' => e = .returned (.tuple #[axCV ((als15.find? (pA k a b)).getD zeroAx), .bool (als15.find? (pA k a b)).isSome]) ∧ Below w.heap.size w w' := by
  obtain ⟨Wa, hWa⟩ : ∃ Wa, w.alloc (.cells #[.int .i64 k] 3) = Wa := ⟨_, rfl⟩
  obtain ⟨Wb, hWb⟩ : ∃ Wb, Wa.alloc (.cells #[.string a] 9) = Wb := ⟨_, rfl⟩
  obtain ⟨Wc, hWc⟩ : ∃ Wc, Wb.alloc (.cells #[.string b] 9) = Wc := ⟨_, rfl⟩
  obtain ⟨W0, hW0⟩ : ∃ W0, Wc.alloc (.cells #[.int .i64 0, .string ⟨#[]⟩, .string ⟨#[]⟩, .string ⟨#[]⟩, .string ⟨#[]⟩, .string ⟨#[]⟩] 32) = W0 := ⟨_, rfl⟩
  obtain ⟨N, hN⟩ : ∃ N, w.heap.size = N := ⟨_, rfl⟩
  have sa : Wa.heap.size = N + 1 := by rw [← hWa, ← hN]; simp
  have sb : Wb.heap.size = N + 2 := by rw [← hWb]; simp [sa]
  have sc : Wc.heap.size = N + 3 := by rw [← hWc]; simp [sb]
  have b0 : Below N w W0 := by rw [← hW0, ← hWc, ← hWb, ← hWa]; exact ((((Below.refl _ w).alloc (by omega) _).alloc (by rw [hWa]; omega) _).alloc (by rw [hWa, hWb]; omega) _).alloc (by rw [hWa, hWb, hWc]; omega) _
  have za : Wa.heap[N]? = some (.cells #[.int .i64 k] 3 (0, 0)) := by rw [← hWa, ← hN]; exact World.alloc_heap_new w _
  have zb : Wb.heap[N + 1]? = some (.cells #[.string a] 9 (0, 0)) := by rw [← hWb, ← sa]; exact World.alloc_heap_new Wa _
  have zc : Wc.heap[N + 2]? = some (.cells #[.string b] 9 (0, 0)) := by rw [← hWc, ← sb]; exact World.alloc_heap_new Wb _
  have z0 : W0.heap[N + 3]? = some (.cells #[.int .i64 0, .string ⟨#[]⟩, .string ⟨#[]⟩, .string ⟨#[]⟩, .string ⟨#[]⟩, .string ⟨#[]⟩] 32 (0, 0)) := by rw [← hW0, ← sc]; exact World.alloc_heap_new Wc _
  have hab : ∀ i, i < N + 1 → Wb.heap[i]? = Wa.heap[i]? := fun i hi => by rw [← hWb]; exact Below.heap_alloc _ _ _ (by omega)
  have hbc : ∀ i, i < N + 2 → Wc.heap[i]? = Wb.heap[i]? := fun i hi => by rw [← hWc]; exact Below.heap_alloc _ _ _ (by omega)
  have hc0 : ∀ i, i < N + 3 → W0.heap[i]? = Wc.heap[i]? := fun i hi => by rw [← hW0]; exact Below.heap_alloc _ _ _ (by omega)
  have q1 : W0.heap[N]? = some (.cells #[.int .i64 k] 3 (0, 0)) := by rw [hc0 _ (by omega), hbc _ (by omega), hab _ (by omega)]; exact za
  have q2 : W0.heap[N + 1]? = some (.cells #[.string a] 9 (0, 0)) := by rw [hc0 _ (by omega), hbc _ (by omega)]; exact zb
  have q3 : W0.heap[N + 2]? = some (.cells #[.string b] 9 (0, 0)) := by rw [hc0 _ (by omega)]; exact zc
  have HL := Lib.hid ((aliases_15 W0).mono (R' := Row15 W0 54 (als15.flatMap axC) 32) fun _ _ h => Row15.of h)
  obtain ⟨y, hy⟩ : ∃ y, (als15.find? (pA k a b)).getD zeroAx = y := ⟨_, rfl⟩
  obtain ⟨z, hz⟩ : ∃ z, (als15.find? (pA k a b)).isSome = z := ⟨_, rfl⟩
  have HF := Lib.hid (fun g w' (hb : Below W0.heap.size W0 w') (hg : w'.heap[g]? = some (.cells (als15.flatMap axC).toArray 32 (0, 0))) => show Calls Try.prog 14 #[.slice (some ⟨g, 0, none⟩) 54 54, .func (.func 16) #[] #[.pointer (some ⟨N, 0, none⟩), .pointer (some ⟨N + 1, 0, none⟩), .pointer (some ⟨N + 2, 0, none⟩)]] w' (fun e w'' => e = .returned (.tuple #[.agg #[.int .i64 y.k, .string y.a, .string y.b, .string y.l, .string y.s, .string y.r], .bool z]) ∧ Below w'.heap.size w' w'') from
    (foundA als15 g k a b N (N + 1) (N + 2) w' (by decide) hg ((hb.block _ (lt_of_block q1)).trans q1) ((hb.block _ (lt_of_block q2)).trans q2) ((hb.block _ (lt_of_block q3)).trans q3)).mono fun e w'' ⟨p, q⟩ => ⟨by rw [p, hy, hz]; rfl, q⟩)
  have HY := Lib.hid hy
  have HZ := Lib.hid hz
  have HB0 := Lib.hid b0
  have HZ0 := Lib.hid z0
  have HW := Lib.hid (And.intro hWa (And.intro hWb (And.intro hWc hW0)))
  have HSZ := Lib.hid (And.intro sa (And.intro sb sc))
  have hmf : ∀ (fn : Fn) (first cap : Array Value) (w : World), (Instr.makeFunc fn first cap).run Try.prog w = .ok (.func fn first cap) w := fun _ _ _ _ => rfl
  clear hWa hWb hWc hW0 sa sb sc b0 za zb zc z0 hab hbc hc0 q1 q2 q3 hy hz
  go_enter Try.func8, Try.ntmps8
  go_upto_region 1 with fail
  try rw [HW.out.1]
  try rw [HW.out.2.1]
  try rw [HW.out.2.2.1]
  try rw [HW.out.2.2.2]
  try rw [HSZ.out.1]
  try rw [HSZ.out.2.1]
  try rw [HSZ.out.2.2]
  try simp only [hN]
  go_wp2_with (first
    | (go_at_call 15; (with_reducible refine HL.out.mono ?_); rintro e w1 ⟨g1, rfl, hg1, hc1, hb1⟩; have HFX := Lib.hid (HF.out g1 w1 hb1 hc1); have HB1 := Lib.hid hb1; clear hg1 hc1 hb1)
    | (go_at_call 14; (with_reducible refine HFX.out.mono ?_); rintro e w2 ⟨rfl, hb2⟩; have hb12 := HB1.out.trans (hb2.mono HB1.out.size); have HM2 := Lib.hid ((hb12.block _ (lt_of_block HZ0.out)).trans HZ0.out); have HB2 := Lib.hid (HB0.out.trans (hb12.mono (hN ▸ HB0.out.size))); clear hb2 hb12)
    | (refine wpList_store_row rfl _ _ _ rfl _ _ rfl rfl _ _ HM2.out sizeAx rfl (by simp [Value.oneCell']) ?_))
  refine bodyPost_ret (results_cell_tmpA rfl _ _ (N + 3) 32 #[.int .i64 y.k, .string y.a, .string y.b, .string y.l, .string y.s, .string y.r] (0, 0) _ (.bool z) rfl rfl (setRow_heap _ _ _ _ _ _ HM2.out) Try.underlying32 rfl sizeAx) rfl ?_
  rw [HY.out, HZ.out]
  rw [hN]
  exact ⟨rfl, belowA_setRow HB2.out (show N ≤ N + 1 + 1 + 1 by omega) _⟩
set_option maxRecDepth 100000 in
set_option maxHeartbeats 2000000 in
theorem Likely_15 (l s r : ByteArray) (w : World) :
    Calls Try.prog 9 #[.string l, .string s, .string r] w fun e w' => e = .returned (.tuple #[lxCV ((lks15.find? (pL l s r)).getD zeroLx), .bool (lks15.find? (pL l s r)).isSome]) ∧ Below w.heap.size w w' := by
  obtain ⟨Wa, hWa⟩ : ∃ Wa, w.alloc (.cells #[.string l] 9) = Wa := ⟨_, rfl⟩
  obtain ⟨Wb, hWb⟩ : ∃ Wb, Wa.alloc (.cells #[.string s] 9) = Wb := ⟨_, rfl⟩
  obtain ⟨Wc, hWc⟩ : ∃ Wc, Wb.alloc (.cells #[.string r] 9) = Wc := ⟨_, rfl⟩
  obtain ⟨W0, hW0⟩ : ∃ W0, Wc.alloc (.cells #[.string ⟨#[]⟩, .string ⟨#[]⟩, .string ⟨#[]⟩, .string ⟨#[]⟩, .string ⟨#[]⟩, .string ⟨#[]⟩] 35) = W0 := ⟨_, rfl⟩
  obtain ⟨N, hN⟩ : ∃ N, w.heap.size = N := ⟨_, rfl⟩
  have sa : Wa.heap.size = N + 1 := by rw [← hWa, ← hN]; simp
  have sb : Wb.heap.size = N + 2 := by rw [← hWb]; simp [sa]
  have sc : Wc.heap.size = N + 3 := by rw [← hWc]; simp [sb]
  have b0 : Below N w W0 := by rw [← hW0, ← hWc, ← hWb, ← hWa]; exact ((((Below.refl _ w).alloc (by omega) _).alloc (by rw [hWa]; omega) _).alloc (by rw [hWa, hWb]; omega) _).alloc (by rw [hWa, hWb, hWc]; omega) _
  have za : Wa.heap[N]? = some (.cells #[.string l] 9 (0, 0)) := by rw [← hWa, ← hN]; exact World.alloc_heap_new w _
  have zb : Wb.heap[N + 1]? = some (.cells #[.string s] 9 (0, 0)) := by rw [← hWb, ← sa]; exact World.alloc_heap_new Wa _
  have zc : Wc.heap[N + 2]? = some (.cells #[.string r] 9 (0, 0)) := by rw [← hWc, ← sb]; exact World.alloc_heap_new Wb _
  have z0 : W0.heap[N + 3]? = some (.cells #[.string ⟨#[]⟩, .string ⟨#[]⟩, .string ⟨#[]⟩, .string ⟨#[]⟩, .string ⟨#[]⟩, .string ⟨#[]⟩] 35 (0, 0)) := by rw [← hW0, ← sc]; exact World.alloc_heap_new Wc _
  have hab : ∀ i, i < N + 1 → Wb.heap[i]? = Wa.heap[i]? := fun i hi => by rw [← hWb]; exact Below.heap_alloc _ _ _ (by omega)
  have hbc : ∀ i, i < N + 2 → Wc.heap[i]? = Wb.heap[i]? := fun i hi => by rw [← hWc]; exact Below.heap_alloc _ _ _ (by omega)
  have hc0 : ∀ i, i < N + 3 → W0.heap[i]? = Wc.heap[i]? := fun i hi => by rw [← hW0]; exact Below.heap_alloc _ _ _ (by omega)
  have q1 : W0.heap[N]? = some (.cells #[.string l] 9 (0, 0)) := by rw [hc0 _ (by omega), hbc _ (by omega), hab _ (by omega)]; exact za
  have q2 : W0.heap[N + 1]? = some (.cells #[.string s] 9 (0, 0)) := by rw [hc0 _ (by omega), hbc _ (by omega)]; exact zb
  have q3 : W0.heap[N + 2]? = some (.cells #[.string r] 9 (0, 0)) := by rw [hc0 _ (by omega)]; exact zc
  have HL := Lib.hid ((likelies_15 W0).mono (R' := Row15 W0 32 (lks15.flatMap lxC) 35) fun _ _ h => Row15.of h)
  obtain ⟨y, hy⟩ : ∃ y, (lks15.find? (pL l s r)).getD zeroLx = y := ⟨_, rfl⟩
  obtain ⟨z, hz⟩ : ∃ z, (lks15.find? (pL l s r)).isSome = z := ⟨_, rfl⟩
  have HF := Lib.hid (fun g w' (hb : Below W0.heap.size W0 w') (hg : w'.heap[g]? = some (.cells (lks15.flatMap lxC).toArray 35 (0, 0))) => show Calls Try.prog 17 #[.slice (some ⟨g, 0, none⟩) 32 32, .func (.func 19) #[] #[.pointer (some ⟨N, 0, none⟩), .pointer (some ⟨N + 1, 0, none⟩), .pointer (some ⟨N + 2, 0, none⟩)]] w' (fun e w'' => e = .returned (.tuple #[.agg #[.string y.l, .string y.s, .string y.r, .string y.tl, .string y.ts, .string y.tr], .bool z]) ∧ Below w'.heap.size w' w'') from
    (foundL lks15 g l s r N (N + 1) (N + 2) w' (by decide) hg ((hb.block _ (lt_of_block q1)).trans q1) ((hb.block _ (lt_of_block q2)).trans q2) ((hb.block _ (lt_of_block q3)).trans q3)).mono fun e w'' ⟨p, q⟩ => ⟨by rw [p, hy, hz]; rfl, q⟩)
  have HY := Lib.hid hy
  have HZ := Lib.hid hz
  have HB0 := Lib.hid b0
  have HZ0 := Lib.hid z0
  have HW := Lib.hid (And.intro hWa (And.intro hWb (And.intro hWc hW0)))
  have HSZ := Lib.hid (And.intro sa (And.intro sb sc))
  have hmf : ∀ (fn : Fn) (first cap : Array Value) (w : World), (Instr.makeFunc fn first cap).run Try.prog w = .ok (.func fn first cap) w := fun _ _ _ _ => rfl
  clear hWa hWb hWc hW0 sa sb sc b0 za zb zc z0 hab hbc hc0 q1 q2 q3 hy hz
  go_enter Try.func9, Try.ntmps9
  go_upto_region 1 with fail
  try rw [HW.out.1]
  try rw [HW.out.2.1]
  try rw [HW.out.2.2.1]
  try rw [HW.out.2.2.2]
  try rw [HSZ.out.1]
  try rw [HSZ.out.2.1]
  try rw [HSZ.out.2.2]
  try simp only [hN]
  go_wp2_with (first
    | (go_at_call 18; (with_reducible refine HL.out.mono ?_); rintro e w1 ⟨g1, rfl, hg1, hc1, hb1⟩; have HFX := Lib.hid (HF.out g1 w1 hb1 hc1); have HB1 := Lib.hid hb1; clear hg1 hc1 hb1)
    | (go_at_call 17; (with_reducible refine HFX.out.mono ?_); rintro e w2 ⟨rfl, hb2⟩; have hb12 := HB1.out.trans (hb2.mono HB1.out.size); have HM2 := Lib.hid ((hb12.block _ (lt_of_block HZ0.out)).trans HZ0.out); have HB2 := Lib.hid (HB0.out.trans (hb12.mono (hN ▸ HB0.out.size))); clear hb2 hb12)
    | (refine wpList_store_row rfl _ _ _ rfl _ _ rfl rfl _ _ HM2.out sizeLx rfl (by simp [Value.oneCell']) ?_))
  refine bodyPost_ret (results_cell_tmpA rfl _ _ (N + 3) 35 #[.string y.l, .string y.s, .string y.r, .string y.tl, .string y.ts, .string y.tr] (0, 0) _ (.bool z) rfl rfl (setRow_heap _ _ _ _ _ _ HM2.out) Try.underlying35 rfl sizeLx) rfl ?_
  rw [HY.out, HZ.out]
  rw [hN]
  exact ⟨rfl, belowA_setRow HB2.out (show N ≤ N + 1 + 1 + 1 by omega) _⟩
end Go.Proofs.Ytohogofehfbjoaa
