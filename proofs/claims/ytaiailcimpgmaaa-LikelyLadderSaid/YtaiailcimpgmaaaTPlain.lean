/-
  The statements of layer 18: a tag of a language, a script, and a region by numbers; a number's rest. (Printed by wip/gen_tplain.py.)
-/
import Derived.Test.YtaiailcimpgmaaaTAwake
import Derived.Test.YtaiailcimpgmaaaIPick
namespace Go.Proofs.Ytaiailcimpgmaaa
open Go Go.RowKit

def langs18 : List ByteArray := [⟨#[101, 110]⟩, ⟨#[122, 104]⟩, ⟨#[115, 114]⟩, ⟨#[117, 110, 100]⟩, ⟨#[100, 101]⟩, ⟨#[120, 120]⟩, ⟨#[104, 101]⟩, ⟨#[114, 117]⟩, ⟨#[]⟩]
def scripts18 : List ByteArray := [⟨#[]⟩, ⟨#[]⟩, ⟨#[108, 97, 116, 110]⟩, ⟨#[99, 121, 114, 108]⟩, ⟨#[104, 97, 110, 116]⟩, ⟨#[104, 97, 110, 115]⟩, ⟨#[122, 122, 122, 122]⟩]
def regions18 : List ByteArray := [⟨#[]⟩, ⟨#[]⟩, ⟨#[117, 115]⟩, ⟨#[116, 119]⟩, ⟨#[52, 49, 57]⟩, ⟨#[109, 101]⟩, ⟨#[103, 98]⟩, ⟨#[99, 110]⟩, ⟨#[122, 122]⟩]
def tag18 (q0 q1 q2 : Int) : TagM := plainM (pickT langs18 q0) (pickT scripts18 q1) (pickT regions18 q2)
theorem pick_small {l : List ByteArray} (h : (l.all fun x => decide (x.size ≤ 100)) = true) (n : Int) : (pickT l n).size ≤ 100 := by
  unfold pickT
  rw [List.getD_eq_getElem?_getD]
  cases hx : l[pickI l.length n]? with
  | none => show (0 : Nat) ≤ 100; omega
  | some x => exact of_decide_eq_true (List.all_eq_true.1 h x (List.mem_of_getElem? hx))
theorem tag18_small (q0 q1 q2 : Int) : KST ((tag18 q0 q1 q2).lang, (tag18 q0 q1 q2).script, (tag18 q0 q1 q2).region) := by
  refine ⟨Nat.le_trans (pick_small (l := langs18) (by decide) q0) (by omega), Nat.le_trans (pick_small (l := scripts18) (by decide) q1) (by omega), Nat.le_trans (pick_small (l := regions18) (by decide) q2) (by omega)⟩
set_option maxRecDepth 100000 in
theorem rest18_any (x : Int) (w : World) : Calls Try.prog 7 #[.int .i64 x, .int .i64 6] w fun e w' => e = .returned (.int .i64 (pickI 6 x : Int)) ∧ w = w' := by
  obtain ⟨h1, h2, h3, h4⟩ := pick_facts 6 x (by omega)
  have HE := Lib.hid h3
  generalize hm : pickI 6 x = m at *
  generalize hr : Int.tmod x ((6 : Nat) : Int) = r at *
  have hr' : Int.tmod x 6 = r := hr
  have h1' : -6 < r := h1
  have h2' : r < 6 := h2
  have h3' : Int.tmod (r + 6) 6 = (m : Int) := h3
  clear hr h1 h2 h3 hm HE
  go_enter Try.func7, Try.ntmps7
  go_wp2
  go_ret
  exact ⟨rfl, rfl⟩
set_option maxRecDepth 100000 in
set_option maxHeartbeats 2000000 in
theorem plain18_any (q0 q1 q2 : Int) (w : World) : Calls Try.prog 5 #[.agg #[.int .i64 q0, .int .i64 q1, .int .i64 q2]] w fun e w' =>
    e = .returned (.agg #[.string (pickT langs18 q0), .slice none 0 0, .string (pickT scripts18 q1), .string (pickT regions18 q2), .slice none 0 0, .slice none 0 0, .slice none 0 0, .string ⟨#[]⟩]) ∧ Below w.heap.size w w' := by
  obtain ⟨W0, hW0⟩ : ∃ W0, ((((w.alloc (.cells #[.int .i64 q0, .int .i64 q1, .int .i64 q2] 22)).alloc (.cells #[.string ⟨#[]⟩, .slice none 0 0, .string ⟨#[]⟩, .string ⟨#[]⟩, .slice none 0 0, .slice none 0 0, .slice none 0 0, .string ⟨#[]⟩] 27)).alloc (.cells (strs langs18).toArray 9)).alloc (.cells (strs scripts18).toArray 9)).alloc (.cells (strs regions18).toArray 9) = W0 := ⟨_, rfl⟩
  obtain ⟨W1, hW1⟩ : ∃ W1, w.alloc (.cells #[.int .i64 q0, .int .i64 q1, .int .i64 q2] 22) = W1 := ⟨_, rfl⟩
  obtain ⟨W2, hW2⟩ : ∃ W2, W1.alloc (.cells #[.string ⟨#[]⟩, .slice none 0 0, .string ⟨#[]⟩, .string ⟨#[]⟩, .slice none 0 0, .slice none 0 0, .slice none 0 0, .string ⟨#[]⟩] 27) = W2 := ⟨_, rfl⟩
  obtain ⟨W3, hW3⟩ : ∃ W3, W2.alloc (.cells (strs langs18).toArray 9) = W3 := ⟨_, rfl⟩
  obtain ⟨W4, hW4⟩ : ∃ W4, W3.alloc (.cells (strs scripts18).toArray 9) = W4 := ⟨_, rfl⟩
  rw [hW1, hW2, hW3, hW4] at hW0
  have z1 : W1.heap.size = w.heap.size + 1 := by rw [← hW1]; simp
  have z2 : W2.heap.size = w.heap.size + 2 := by rw [← hW2]; simp [z1]
  have z3 : W3.heap.size = w.heap.size + 3 := by rw [← hW3]; simp [z2]
  have z4 : W4.heap.size = w.heap.size + 4 := by rw [← hW4]; simp [z3]
  have b01 : Below w.heap.size w W1 := by rw [← hW1]; exact (Below.refl _ _).alloc (Nat.le_refl _) _
  have b12 : Below W1.heap.size W1 W2 := by rw [← hW2]; exact (Below.refl _ _).alloc (Nat.le_refl _) _
  have b23 : Below W2.heap.size W2 W3 := by rw [← hW3]; exact (Below.refl _ _).alloc (Nat.le_refl _) _
  have b34 : Below W3.heap.size W3 W4 := by rw [← hW4]; exact (Below.refl _ _).alloc (Nat.le_refl _) _
  have b40 : Below W4.heap.size W4 W0 := by rw [← hW0]; exact (Below.refl _ _).alloc (Nat.le_refl _) _
  have x1 : W1.heap[w.heap.size]? = some (.cells #[.int .i64 q0, .int .i64 q1, .int .i64 q2] 22 (0, 0)) := by rw [← hW1]; exact World.alloc_heap_new w _
  have x2 : W2.heap[w.heap.size + 1]? = some (.cells #[.string ⟨#[]⟩, .slice none 0 0, .string ⟨#[]⟩, .string ⟨#[]⟩, .slice none 0 0, .slice none 0 0, .slice none 0 0, .string ⟨#[]⟩] 27 (0, 0)) := by rw [← hW2, ← z1]; exact World.alloc_heap_new W1 _
  have x3 : W3.heap[w.heap.size + 2]? = some (.cells (strs langs18).toArray 9 (0, 0)) := by rw [← hW3, ← z2]; exact World.alloc_heap_new W2 _
  have x4 : W4.heap[w.heap.size + 3]? = some (.cells (strs scripts18).toArray 9 (0, 0)) := by rw [← hW4, ← z3]; exact World.alloc_heap_new W3 _
  have x5 : W0.heap[w.heap.size + 4]? = some (.cells (strs regions18).toArray 9 (0, 0)) := by rw [← hW0, ← z4]; exact World.alloc_heap_new W4 _
  have y1 := (b40.block _ (by omega)).trans ((b34.block _ (by omega)).trans ((b23.block _ (by omega)).trans ((b12.block _ (by omega)).trans x1)))
  have y2 := (b40.block _ (by omega)).trans ((b34.block _ (by omega)).trans ((b23.block _ (by omega)).trans x2))
  have y3 := (b40.block _ (by omega)).trans ((b34.block _ (by omega)).trans x3)
  have y4 := (b40.block _ (by omega)).trans x4
  have P0 := Lib.hid (pick_ref (.slice (some ⟨w.heap.size + 2, 0, none⟩) 9 9) langs18 q0 W0.drew (Row.of_block (W := W0.drew) langs18 9 9 rfl y3) (by decide) (by decide))
  have P1 := Lib.hid (pick_ref (.slice (some ⟨w.heap.size + 3, 0, none⟩) 7 7) scripts18 q1 W0.drew (Row.of_block (W := W0.drew) scripts18 7 7 rfl y4) (by decide) (by decide))
  have P2 := Lib.hid (pick_ref (.slice (some ⟨w.heap.size + 4, 0, none⟩) 9 9) regions18 q2 W0.drew (Row.of_block (W := W0.drew) regions18 9 9 rfl x5) (by decide) (by decide))
  have HZ := Lib.hid (show W0.drew.heap[w.heap.size + 1]? = _ from y2)
  obtain ⟨c0, c1, c2⟩ := cells3T (show W0.drew.heap[w.heap.size]? = _ from y1)
  have HB := Lib.hid (show Below w.heap.size w W0.drew from Below.drew ((((b01.trans (b12.mono (by omega))).trans (b23.mono (by omega))).trans (b34.mono (by omega))).trans (b40.mono (by omega))))
  rw [← hW4, ← hW3, ← hW2, ← hW1] at hW0
  have HW0 := Lib.hid hW0
  clear hW0 hW1 hW2 hW3 hW4 z1 z2 z3 z4 b01 b12 b23 b34 b40 x1 x2 x3 x4 x5 y1 y2 y3 y4 W1 W2 W3 W4
  go_enter Try.func5, Try.ntmps5
  go_upto_region 4 with fail
  simp only [Nat.add_assoc, Nat.reduceAdd]
  have HW0' := HW0.out
  change ((((w.alloc _).alloc _).alloc (.cells #[.string ⟨#[101, 110]⟩, .string ⟨#[122, 104]⟩, .string ⟨#[115, 114]⟩, .string ⟨#[117, 110, 100]⟩, .string ⟨#[100, 101]⟩, .string ⟨#[120, 120]⟩, .string ⟨#[104, 101]⟩, .string ⟨#[114, 117]⟩, .string ⟨#[]⟩] _)).alloc (.cells #[.string ⟨#[]⟩, .string ⟨#[]⟩, .string ⟨#[108, 97, 116, 110]⟩, .string ⟨#[99, 121, 114, 108]⟩, .string ⟨#[104, 97, 110, 116]⟩, .string ⟨#[104, 97, 110, 115]⟩, .string ⟨#[122, 122, 122, 122]⟩] _)).alloc (.cells #[.string ⟨#[]⟩, .string ⟨#[]⟩, .string ⟨#[117, 115]⟩, .string ⟨#[116, 119]⟩, .string ⟨#[52, 49, 57]⟩, .string ⟨#[109, 101]⟩, .string ⟨#[103, 98]⟩, .string ⟨#[99, 110]⟩, .string ⟨#[122, 122]⟩] _) = W0 at HW0'
  rw [HW0']
  clear HW0 HW0'
  obtain ⟨n, hn⟩ : ∃ n, w.heap.size = n := ⟨_, rfl⟩
  obtain ⟨nl, hnl⟩ : ∃ n, w.heap.size + 2 = n := ⟨_, rfl⟩
  obtain ⟨ns, hns⟩ : ∃ n, w.heap.size + 3 = n := ⟨_, rfl⟩
  obtain ⟨nr, hnr⟩ : ∃ n, w.heap.size + 4 = n := ⟨_, rfl⟩
  rw [hnl] at P0 ⊢
  rw [hns] at P1 ⊢
  rw [hnr] at P2 ⊢
  have HN := Lib.hid hn
  rw [hn] at c0 c1 c2 HZ ⊢
  clear hn hnl hns hnr
  refine wp_region_late_drew (S := fun w' => w' = W0.drew) (k := 13) (by kernel_rfl) (rfl) (fun hHeld => ?_)
  refine late_shell (fun _ _ d _ _ h => by cases d <;> exact h) ?_
  intro KK hKp hfin
  refine wpAnyZ_take (i := 0) (v := .slice (some ⟨nl, 0, none⟩) 9 9) rfl (by kernel_rfl) (by kernel_rfl) (by kernel_rfl) (by kernel_rfl) (by kernel_rfl) (by kernel_rfl) (fun c a w h => hKp c a _ _ w h) (Or.inl ⟨by kernel_rfl, fun w hSw => by subst hSw; go_simp⟩) rfl ?_
  simp only [Act.put, List.getElem_toArray, List.getElem_cons_zero, List.setIfInBounds_toArray, List.set_cons_zero, List.set_cons_succ]
  refine wpAnyZ_take (i := 1) (v := .pointer (some ⟨n, 0, none⟩)) rfl (by kernel_rfl) (by kernel_rfl) (by kernel_rfl) (by kernel_rfl) (by kernel_rfl) (by kernel_rfl) (fun c a w h => hKp c a _ _ w h) (Or.inl ⟨by kernel_rfl, fun w hSw => by subst hSw; go_simp⟩) rfl ?_
  simp only [Act.put, List.getElem_toArray, List.getElem_cons_zero, List.getElem_cons_succ, List.setIfInBounds_toArray, List.set_cons_zero, List.set_cons_succ]
  refine wpAnyZ_take (i := 2) (v := .int .i64 q0) rfl (by kernel_rfl) (by kernel_rfl) (by kernel_rfl) (by kernel_rfl) (by kernel_rfl) (by kernel_rfl) (fun c a w h => hKp c a _ _ w h) (Or.inl ⟨by kernel_rfl, fun w hSw => by subst hSw; go_simp⟩) rfl ?_
  simp only [Act.put, List.getElem_toArray, List.getElem_cons_zero, List.getElem_cons_succ, List.setIfInBounds_toArray, List.set_cons_zero, List.set_cons_succ]
  refine wpAnyZ_take (i := 4) (v := .slice (some ⟨ns, 0, none⟩) 7 7) rfl (by kernel_rfl) (by kernel_rfl) (by kernel_rfl) (by kernel_rfl) (by kernel_rfl) (by kernel_rfl) (fun c a w h => hKp c a _ _ w h) (Or.inl ⟨by kernel_rfl, fun w hSw => by subst hSw; go_simp⟩) rfl ?_
  simp only [Act.put, List.getElem_toArray, List.getElem_cons_zero, List.getElem_cons_succ, List.setIfInBounds_toArray, List.set_cons_zero, List.set_cons_succ]
  refine wpAnyZ_take (i := 5) (v := .pointer (some ⟨n, 1, none⟩)) rfl (by kernel_rfl) (by kernel_rfl) (by kernel_rfl) (by kernel_rfl) (by kernel_rfl) (by kernel_rfl) (fun c a w h => hKp c a _ _ w h) (Or.inl ⟨by kernel_rfl, fun w hSw => by subst hSw; go_simp⟩) rfl ?_
  simp only [Act.put, List.getElem_toArray, List.getElem_cons_zero, List.getElem_cons_succ, List.setIfInBounds_toArray, List.set_cons_zero, List.set_cons_succ]
  refine wpAnyZ_take (i := 6) (v := .int .i64 q1) rfl (by kernel_rfl) (by kernel_rfl) (by kernel_rfl) (by kernel_rfl) (by kernel_rfl) (by kernel_rfl) (fun c a w h => hKp c a _ _ w h) (Or.inl ⟨by kernel_rfl, fun w hSw => by subst hSw; go_simp⟩) rfl ?_
  simp only [Act.put, List.getElem_toArray, List.getElem_cons_zero, List.getElem_cons_succ, List.setIfInBounds_toArray, List.set_cons_zero, List.set_cons_succ]
  refine wpAnyZ_take (i := 8) (v := .slice (some ⟨nr, 0, none⟩) 9 9) rfl (by kernel_rfl) (by kernel_rfl) (by kernel_rfl) (by kernel_rfl) (by kernel_rfl) (by kernel_rfl) (fun c a w h => hKp c a _ _ w h) (Or.inl ⟨by kernel_rfl, fun w hSw => by subst hSw; go_simp⟩) rfl ?_
  simp only [Act.put, List.getElem_toArray, List.getElem_cons_zero, List.getElem_cons_succ, List.setIfInBounds_toArray, List.set_cons_zero, List.set_cons_succ]
  refine wpAnyZ_take (i := 9) (v := .pointer (some ⟨n, 2, none⟩)) rfl (by kernel_rfl) (by kernel_rfl) (by kernel_rfl) (by kernel_rfl) (by kernel_rfl) (by kernel_rfl) (fun c a w h => hKp c a _ _ w h) (Or.inl ⟨by kernel_rfl, fun w hSw => by subst hSw; go_simp⟩) rfl ?_
  simp only [Act.put, List.getElem_toArray, List.getElem_cons_zero, List.getElem_cons_succ, List.setIfInBounds_toArray, List.set_cons_zero, List.set_cons_succ]
  refine wpAnyZ_take (i := 10) (v := .int .i64 q2) rfl (by kernel_rfl) (by kernel_rfl) (by kernel_rfl) (by kernel_rfl) (by kernel_rfl) (by kernel_rfl) (fun c a w h => hKp c a _ _ w h) (Or.inl ⟨by kernel_rfl, fun w hSw => by subst hSw; go_simp⟩) rfl ?_
  simp only [Act.put, List.getElem_toArray, List.getElem_cons_zero, List.getElem_cons_succ, List.setIfInBounds_toArray, List.set_cons_zero, List.set_cons_succ]
  refine wpAnyZ_ready (rs := [3]) (by kernel_rfl) (by simp) ?_
  refine AllReadyZ.cons rfl (fun Kx hKx => ?_) AllReadyZ.nil
  rw [if_pos (by kernel_rfl)]
  go_simp
  refine (P0.out).mono ?_
  rintro e w5 ⟨rfl, hw5⟩
  obtain rfl : W0.drew = w5 := hw5
  refine hKx.out _ _ (rfl) (fun hHeld => ?_)
  clear hKx Kx
  try simp only [Act.put, List.getElem_toArray, List.getElem_cons_zero, List.getElem_cons_succ, List.setIfInBounds_toArray, List.set_cons_zero, List.set_cons_succ]
  refine wpAnyZ_ready (rs := [7]) (by kernel_rfl) (by simp) ?_
  refine AllReadyZ.cons rfl (fun Kx hKx => ?_) AllReadyZ.nil
  rw [if_pos (by kernel_rfl)]
  go_simp
  refine (P1.out).mono ?_
  rintro e w5 ⟨rfl, hw5⟩
  obtain rfl : W0.drew = w5 := hw5
  refine hKx.out _ _ (rfl) (fun hHeld => ?_)
  clear hKx Kx
  try simp only [Act.put, List.getElem_toArray, List.getElem_cons_zero, List.getElem_cons_succ, List.setIfInBounds_toArray, List.set_cons_zero, List.set_cons_succ]
  refine wpAnyZ_ready (rs := [11]) (by kernel_rfl) (by simp) ?_
  refine AllReadyZ.cons rfl (fun Kx hKx => ?_) AllReadyZ.nil
  rw [if_pos (by kernel_rfl)]
  go_simp
  refine (P2.out).mono ?_
  rintro e w5 ⟨rfl, hw5⟩
  obtain rfl : W0.drew = w5 := hw5
  refine hKx.out _ _ (rfl) (fun hHeld => ?_)
  clear hKx Kx
  try simp only [Act.put, List.getElem_toArray, List.getElem_cons_zero, List.getElem_cons_succ, List.setIfInBounds_toArray, List.set_cons_zero, List.set_cons_succ]
  refine wpAnyZ_take (i := 12) (v := .agg #[.string (pickT langs18 q0), .slice none 0 0, .string (pickT scripts18 q1), .string (pickT regions18 q2), .slice none 0 0, .slice none 0 0, .slice none 0 0, .string ⟨#[]⟩]) rfl (by kernel_rfl) (by kernel_rfl) (by kernel_rfl) (by kernel_rfl) (by kernel_rfl) (by kernel_rfl) (fun c a w h => hKp c a _ _ w h) (Or.inl ⟨by kernel_rfl, fun w hSw => by subst hSw; go_simp⟩) rfl ?_
  simp only [Act.put, List.getElem_toArray, List.getElem_cons_zero, List.getElem_cons_succ, List.setIfInBounds_toArray, List.set_cons_zero, List.set_cons_succ]
  refine wpAnyZ_ready (rs := [13]) (by kernel_rfl) (by simp) ?_
  refine AllReadyZ.late rfl (by decide) (fun Kx hKx => ?_) AllReadyZ.nil
  rw [if_pos (by kernel_rfl)]
  refine wp_store_row _ _ _ rfl _ _ rfl rfl _ _ HZ.out sizeTagT rfl (by simp [Value.oneCell']) ?_
  refine hKx.out _ _ ?_
  clear hKx Kx
  try simp only [Act.put, List.getElem_toArray, List.getElem_cons_zero, List.getElem_cons_succ]
  refine wpAnyZ_done (by kernel_rfl) ?_ _
  refine hfin _ _ ?_
  clear hfin hKp KK
  go_wp2_with fail
  have HE := setRow_grownT W0.drew (n + 1) #[.string (pickT langs18 q0), .slice none 0 0, .string (pickT scripts18 q1), .string (pickT regions18 q2), .slice none 0 0, .slice none 0 0, .slice none 0 0, .string ⟨#[]⟩]
  refine bodyPost_ret (results_cell_row rfl _ _ (n + 1) 27 #[.string (pickT langs18 q0), .slice none 0 0, .string (pickT scripts18 q1), .string (pickT regions18 q2), .slice none 0 0, .slice none 0 0, .slice none 0 0, .string ⟨#[]⟩] (0, 0) _ rfl (setRow_heap _ _ _ _ _ _ HZ.out) Try.underlying27 rfl sizeTagT) rfl ?_
  exact ⟨rfl, HB.out.grown HE (by have := lt_blockT HZ.out; have := HN.out; omega) (fun r e => by cases e; have := HN.out; omega)⟩
end Go.Proofs.Ytaiailcimpgmaaa
