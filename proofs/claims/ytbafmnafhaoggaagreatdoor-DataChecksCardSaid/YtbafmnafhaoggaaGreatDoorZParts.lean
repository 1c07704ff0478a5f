/-
  Package image: the parts of an image. (Printed by wip/gen_zparts.py.)
-/
import Derived.Test.YtbafmnafhaoggaaGreatDoorZRows
import Derived.Test.YtbafmnafhaoggaaGreatDoorZHeads
namespace Go.Proofs.YtbafmnafhaoggaaGreatDoor
open Go Go.RowKit

theorem RowC.below' {W W' : World} {v : Value} {sz : Nat} {L : List (List Value)} (h : RowC W v sz L) (hb : Below W.heap.size W W') : RowC W' v sz L := h.below hb
/-- What an image's texts and numbers are like. -/
structure ImS (im : Im) : Prop where
  als : ∀ x ∈ im.als, AlS x
  lks : ∀ x ∈ im.lks, LkS x
  rls : ∀ x ∈ im.rls, RlS x
  mbs : ∀ x ∈ im.mbs, MbS x
theorem held_shell8 {P : Program} {md : Region.Mode} {ops : Array Oper} {S : World → Prop} {R : Value → Value → Value → Value → Value → Value → Value → Value → World → Prop} {Q : Exit → Act → World → Prop} {n : Nat} {l : Array Bool} {a : Act} {w : World} {aF : Value → Value → Value → Value → Value → Value → Value → Value → Act} (h1 : ∀ c (a : Act) d v w, Q (.panic c) (a.put d v) w → Q (.panic c) a w) (h2 : ∀ u0 e0 u1 e1 u2 e2 u3 e3 w, R u0 e0 u1 e1 u2 e2 u3 e3 w → Q .normal (aF u0 e0 u1 e1 u2 e2 u3 e3) w)
    (h3 : ∀ K : Exit → Act → World → Prop, (∀ c (a : Act) d v w, K (.panic c) (a.put d v) w → K (.panic c) a w) → (∀ u0 e0 u1 e1 u2 e2 u3 e3 w, R u0 e0 u1 e1 u2 e2 u3 e3 w → K .normal (aF u0 e0 u1 e1 u2 e2 u3 e3) w) → wpAnyH P md ops K S n l a w) : wpAnyH P md ops Q S n l a w := h3 Q h1 h2
theorem sizeParts : (Tryz.prog.info? 55).map (·.size) = some 20 := by kernel_rfl
set_option maxRecDepth 1000000 in
set_option maxHeartbeats 16000000 in
theorem parts_any (a1 a2 a3 a4 : Option Addr) (c1 c2 c3 c4 : Nat) (im : Im) (w : World) (hi : ImR w (.slice a1 (cntN im 0) c1) (.slice a2 (cntN im 1) c2) (.slice a3 (cntN im 2) c3) (.slice a4 (cntN im 3) c4) im) (hn : ∀ k, cntN im k ≤ 4000) (hs : ImS im) (hg : GL w) :
    Calls Tryz.prog 20 #[.agg #[.slice a1 (cntN im 0) c1, .slice a2 (cntN im 1) c2, .slice a3 (cntN im 2) c3, .slice a4 (cntN im 3) c4, .int .i64 im.th, .int .i64 im.de]] w fun e w' => ∃ u0 e0 u1 e1 u2 e2 u3 e3, e = .returned (.agg #[.string { data := #[97, 108, 105, 97, 115] }, .int .i64 41, .int .i64 17, u0, e0, .string { data := #[108, 105, 107, 101, 108, 121] }, .int .i64 48, .int .i64 24, u1, e1, .string { data := #[114, 117, 108, 101] }, .int .i64 0, .int .i64 0, u2, e2, .string { data := #[109, 101, 109, 98, 101, 114] }, .int .i64 16, .int .i64 16, u3, e3]) ∧ (PartZ w' u0 e0 (whN 0) (rowsN im 0) (badN im 0) ∧ PartZ w' u1 e1 (whN 1) (rowsN im 1) (badN im 1) ∧ PartZ w' u2 e2 (whN 2) (rowsN im 2) (badN im 2) ∧ PartZ w' u3 e3 (whN 3) (rowsN im 3) (badN im 3)) ∧ Below w.heap.size w w' := by
  obtain ⟨W1, hW1⟩ : ∃ W1, (w.alloc (.cells #[.slice a1 (cntN im 0) c1, .slice a2 (cntN im 1) c2, .slice a3 (cntN im 2) c3, .slice a4 (cntN im 3) c4, .int .i64 im.th, .int .i64 im.de] 29)).alloc (.cells #[.string ⟨#[]⟩, .int .i64 0, .int .i64 0, .slice none 0 0, .nilIface, .string ⟨#[]⟩, .int .i64 0, .int .i64 0, .slice none 0 0, .nilIface, .string ⟨#[]⟩, .int .i64 0, .int .i64 0, .slice none 0 0, .nilIface, .string ⟨#[]⟩, .int .i64 0, .int .i64 0, .slice none 0 0, .nilIface] 55) = W1 := ⟨_, rfl⟩
  have hb1 : Below w.heap.size w W1 := by rw [← hW1]; exact ((Below.refl _ w).alloc (Nat.le_refl _) _).alloc (by simp) _
  have hA : W1.heap[w.heap.size]? = some (.cells #[.slice a1 (cntN im 0) c1, .slice a2 (cntN im 1) c2, .slice a3 (cntN im 2) c3, .slice a4 (cntN im 3) c4, .int .i64 im.th, .int .i64 im.de] 29 (0, 0)) := by rw [← hW1]; exact (Below.heap_alloc _ _ _ (by simp)).trans (World.alloc_heap_new w _)
  have hZ0 : W1.drew.heap[w.heap.size + 1]? = some (.cells #[.string ⟨#[]⟩, .int .i64 0, .int .i64 0, .slice none 0 0, .nilIface, .string ⟨#[]⟩, .int .i64 0, .int .i64 0, .slice none 0 0, .nilIface, .string ⟨#[]⟩, .int .i64 0, .int .i64 0, .slice none 0 0, .nilIface, .string ⟨#[]⟩, .int .i64 0, .int .i64 0, .slice none 0 0, .nilIface] 55 (0, 0)) := by rw [← hW1]; exact heap_alloc2_new w _ _
  have hl1 : w.heap.size + 1 ≤ W1.heap.size := lt_of_block hA
  have HB := Lib.hid (fun w' (h : Below (w.heap.size + 1) W1 w') => hb1.trans (h.mono (Nat.le_succ _)))
  have HC := Lib.hid (fun w' (h : Below (w.heap.size + 1) W1 w') => show Below (w.heap.size + 1) W1 w' ∧ w'.cell? ⟨w.heap.size, 0, none⟩ = some (.slice a1 (cntN im 0) c1) ∧ w'.cell? ⟨w.heap.size, 1, none⟩ = some (.slice a2 (cntN im 1) c2) ∧ w'.cell? ⟨w.heap.size, 2, none⟩ = some (.slice a3 (cntN im 2) c3) ∧ w'.cell? ⟨w.heap.size, 3, none⟩ = some (.slice a4 (cntN im 3) c4) from ⟨h, by
    obtain ⟨d0, d1, d2, d3, -⟩ := cells6 ((h.block _ (Nat.lt_succ_self _)).trans hA)
    exact ⟨d0, d1, d2, d3⟩⟩)
  have R0 := Lib.hid (fun w' (h : Below (w.heap.size + 1) W1 w') => show Calls Tryz.prog 38 #[.agg #[.string { data := #[97, 108, 105, 97, 115] }, .int .i64 41, .int .i64 17, .slice none 0 0, .nilIface], .slice a1 (cntN im 0) c1, .func (.func 39) #[] #[]] w' fun e w'' => ∃ u er, e = .returned (.agg #[.string { data := #[97, 108, 105, 97, 115] }, .int .i64 41, .int .i64 17, u, er]) ∧ PartZ w'' u er (whN 0) (rowsN im 0) (badN im 0) ∧ Below (w.heap.size + 1) W1 w'' ∧ Below w'.heap.size w' w'' from (rows_al (.slice a1 (cntN im 0) c1) im.als w' _ _ _ (hi.a.below' (HB.out _ h)) (hn 0) hs.als (hg.below (HB.out _ h) hg.size)).mono fun e w'' ⟨u, er, p, q, r⟩ => ⟨u, er, p, q, h.trans (r.mono (Nat.le_trans hl1 h.size)), r⟩)
  have R1 := Lib.hid (fun w' (h : Below (w.heap.size + 1) W1 w') => show Calls Tryz.prog 40 #[.agg #[.string { data := #[108, 105, 107, 101, 108, 121] }, .int .i64 48, .int .i64 24, .slice none 0 0, .nilIface], .slice a2 (cntN im 1) c2, .func (.func 41) #[] #[]] w' fun e w'' => ∃ u er, e = .returned (.agg #[.string { data := #[108, 105, 107, 101, 108, 121] }, .int .i64 48, .int .i64 24, u, er]) ∧ PartZ w'' u er (whN 1) (rowsN im 1) (badN im 1) ∧ Below (w.heap.size + 1) W1 w'' ∧ Below w'.heap.size w' w'' from (rows_lk (.slice a2 (cntN im 1) c2) im.lks w' _ _ _ (hi.l.below' (HB.out _ h)) (hn 1) hs.lks).mono fun e w'' ⟨u, er, p, q, r⟩ => ⟨u, er, p, q, h.trans (r.mono (Nat.le_trans hl1 h.size)), r⟩)
  have R2 := Lib.hid (fun w' (h : Below (w.heap.size + 1) W1 w') => show Calls Tryz.prog 45 #[.agg #[.string { data := #[114, 117, 108, 101] }, .int .i64 0, .int .i64 0, .slice none 0 0, .nilIface], .slice a3 (cntN im 2) c3, .func (.func 46) #[] #[]] w' fun e w'' => ∃ u er, e = .returned (.agg #[.string { data := #[114, 117, 108, 101] }, .int .i64 0, .int .i64 0, u, er]) ∧ PartZ w'' u er (whN 2) (rowsN im 2) (badN im 2) ∧ Below (w.heap.size + 1) W1 w'' ∧ Below w'.heap.size w' w'' from (rows_rl (.slice a3 (cntN im 2) c3) im.rls w' _ _ _ (hi.r.below' (HB.out _ h)) (hn 2) hs.rls).mono fun e w'' ⟨u, er, p, q, r⟩ => ⟨u, er, p, q, h.trans (r.mono (Nat.le_trans hl1 h.size)), r⟩)
  have R3 := Lib.hid (fun w' (h : Below (w.heap.size + 1) W1 w') => show Calls Tryz.prog 51 #[.agg #[.string { data := #[109, 101, 109, 98, 101, 114] }, .int .i64 16, .int .i64 16, .slice none 0 0, .nilIface], .slice a4 (cntN im 3) c4, .func (.func 52) #[] #[]] w' fun e w'' => ∃ u er, e = .returned (.agg #[.string { data := #[109, 101, 109, 98, 101, 114] }, .int .i64 16, .int .i64 16, u, er]) ∧ PartZ w'' u er (whN 3) (rowsN im 3) (badN im 3) ∧ Below (w.heap.size + 1) W1 w'' ∧ Below w'.heap.size w' w'' from (rows_mb (.slice a4 (cntN im 3) c4) im.mbs w' _ _ _ (hi.m.below' (HB.out _ h)) (hn 3) hs.mbs).mono fun e w'' ⟨u, er, p, q, r⟩ => ⟨u, er, p, q, h.trans (r.mono (Nat.le_trans hl1 h.size)), r⟩)
  have HW1 := Lib.hid hW1
  clear hW1 hb1 hA hi hn hs hg hl1
  go_enter Tryz.func20, Tryz.ntmps20
  go_upto_region 1 with fail
  rw [HW1.out]
  refine wp_region_held_drew (S := fun w' => Below (w.heap.size + 1) W1 w' ∧ w'.cell? ⟨w.heap.size, 0, none⟩ = some (.slice a1 (cntN im 0) c1) ∧ w'.cell? ⟨w.heap.size, 1, none⟩ = some (.slice a2 (cntN im 1) c2) ∧ w'.cell? ⟨w.heap.size, 2, none⟩ = some (.slice a3 (cntN im 2) c3) ∧ w'.cell? ⟨w.heap.size, 3, none⟩ = some (.slice a4 (cntN im 3) c4)) (by kernel_rfl) (HC.out _ (Below.drew (Below.refl _ _))) (fun hHeld => ?_)
  apply held_shell8 (R := fun u0 e0 u1 e1 u2 e2 u3 e3 w' => w'.heap[w.heap.size + 1]? = some (.cells #[.string { data := #[97, 108, 105, 97, 115] }, .int .i64 41, .int .i64 17, u0, e0, .string { data := #[108, 105, 107, 101, 108, 121] }, .int .i64 48, .int .i64 24, u1, e1, .string { data := #[114, 117, 108, 101] }, .int .i64 0, .int .i64 0, u2, e2, .string { data := #[109, 101, 109, 98, 101, 114] }, .int .i64 16, .int .i64 16, u3, e3] 55 (0, 0)) ∧ (PartZ w' u0 e0 (whN 0) (rowsN im 0) (badN im 0) ∧ PartZ w' u1 e1 (whN 1) (rowsN im 1) (badN im 1) ∧ PartZ w' u2 e2 (whN 2) (rowsN im 2) (badN im 2) ∧ PartZ w' u3 e3 (whN 3) (rowsN im 3) (badN im 3)) ∧ Below w.heap.size w w')
  exact fun _ _ d _ _ h => by cases d <;> exact h
  rotate_left 1
  intro KK hKp hfin
  refine wpAnyH_take (i := 0) (v := .agg #[.string { data := #[97, 108, 105, 97, 115] }, .int .i64 41, .int .i64 17, .slice none 0 0, .nilIface]) rfl (by kernel_rfl) (by kernel_rfl) (by kernel_rfl) (fun c a w h => hKp c a _ _ w h) (Or.inl ⟨by kernel_rfl, fun w hSw => by dsimp only at hSw; obtain ⟨-, q0, q1, q2, q3⟩ := hSw; go_simp⟩) (by assumption) ?_
  simp only [Act.put, List.getElem_toArray, List.getElem_cons_zero, List.setIfInBounds_toArray, List.set_cons_zero, List.set_cons_succ]
  refine wpAnyH_take (i := 1) (v := .pointer (some ⟨w.heap.size, 0, none⟩)) rfl (by kernel_rfl) (by kernel_rfl) (by kernel_rfl) (fun c a w h => hKp c a _ _ w h) (Or.inl ⟨by kernel_rfl, fun w hSw => by dsimp only at hSw; obtain ⟨-, q0, q1, q2, q3⟩ := hSw; go_simp⟩) (by assumption) ?_
  simp only [Act.put, List.getElem_toArray, List.getElem_cons_zero, List.getElem_cons_succ, List.setIfInBounds_toArray, List.set_cons_zero, List.set_cons_succ]
  refine wpAnyH_take (i := 2) (v := .slice a1 (cntN im 0) c1) rfl (by kernel_rfl) (by kernel_rfl) (by kernel_rfl) (fun c a w h => hKp c a _ _ w h) (Or.inl ⟨by kernel_rfl, fun w hSw => by dsimp only at hSw; obtain ⟨-, q0, q1, q2, q3⟩ := hSw; go_simp⟩) (by assumption) ?_
  simp only [Act.put, List.getElem_toArray, List.getElem_cons_zero, List.getElem_cons_succ, List.setIfInBounds_toArray, List.set_cons_zero, List.set_cons_succ]
  refine wpAnyH_take (i := 4) (v := .agg #[.string { data := #[108, 105, 107, 101, 108, 121] }, .int .i64 48, .int .i64 24, .slice none 0 0, .nilIface]) rfl (by kernel_rfl) (by kernel_rfl) (by kernel_rfl) (fun c a w h => hKp c a _ _ w h) (Or.inl ⟨by kernel_rfl, fun w hSw => by dsimp only at hSw; obtain ⟨-, q0, q1, q2, q3⟩ := hSw; go_simp⟩) (by assumption) ?_
  simp only [Act.put, List.getElem_toArray, List.getElem_cons_zero, List.getElem_cons_succ, List.setIfInBounds_toArray, List.set_cons_zero, List.set_cons_succ]
  refine wpAnyH_take (i := 5) (v := .pointer (some ⟨w.heap.size, 1, none⟩)) rfl (by kernel_rfl) (by kernel_rfl) (by kernel_rfl) (fun c a w h => hKp c a _ _ w h) (Or.inl ⟨by kernel_rfl, fun w hSw => by dsimp only at hSw; obtain ⟨-, q0, q1, q2, q3⟩ := hSw; go_simp⟩) (by assumption) ?_
  simp only [Act.put, List.getElem_toArray, List.getElem_cons_zero, List.getElem_cons_succ, List.setIfInBounds_toArray, List.set_cons_zero, List.set_cons_succ]
  refine wpAnyH_take (i := 6) (v := .slice a2 (cntN im 1) c2) rfl (by kernel_rfl) (by kernel_rfl) (by kernel_rfl) (fun c a w h => hKp c a _ _ w h) (Or.inl ⟨by kernel_rfl, fun w hSw => by dsimp only at hSw; obtain ⟨-, q0, q1, q2, q3⟩ := hSw; go_simp⟩) (by assumption) ?_
  simp only [Act.put, List.getElem_toArray, List.getElem_cons_zero, List.getElem_cons_succ, List.setIfInBounds_toArray, List.set_cons_zero, List.set_cons_succ]
  refine wpAnyH_take (i := 8) (v := .agg #[.string { data := #[114, 117, 108, 101] }, .int .i64 0, .int .i64 0, .slice none 0 0, .nilIface]) rfl (by kernel_rfl) (by kernel_rfl) (by kernel_rfl) (fun c a w h => hKp c a _ _ w h) (Or.inl ⟨by kernel_rfl, fun w hSw => by dsimp only at hSw; obtain ⟨-, q0, q1, q2, q3⟩ := hSw; go_simp⟩) (by assumption) ?_
  simp only [Act.put, List.getElem_toArray, List.getElem_cons_zero, List.getElem_cons_succ, List.setIfInBounds_toArray, List.set_cons_zero, List.set_cons_succ]
  refine wpAnyH_take (i := 9) (v := .pointer (some ⟨w.heap.size, 2, none⟩)) rfl (by kernel_rfl) (by kernel_rfl) (by kernel_rfl) (fun c a w h => hKp c a _ _ w h) (Or.inl ⟨by kernel_rfl, fun w hSw => by dsimp only at hSw; obtain ⟨-, q0, q1, q2, q3⟩ := hSw; go_simp⟩) (by assumption) ?_
  simp only [Act.put, List.getElem_toArray, List.getElem_cons_zero, List.getElem_cons_succ, List.setIfInBounds_toArray, List.set_cons_zero, List.set_cons_succ]
  refine wpAnyH_take (i := 10) (v := .slice a3 (cntN im 2) c3) rfl (by kernel_rfl) (by kernel_rfl) (by kernel_rfl) (fun c a w h => hKp c a _ _ w h) (Or.inl ⟨by kernel_rfl, fun w hSw => by dsimp only at hSw; obtain ⟨-, q0, q1, q2, q3⟩ := hSw; go_simp⟩) (by assumption) ?_
  simp only [Act.put, List.getElem_toArray, List.getElem_cons_zero, List.getElem_cons_succ, List.setIfInBounds_toArray, List.set_cons_zero, List.set_cons_succ]
  refine wpAnyH_take (i := 12) (v := .agg #[.string { data := #[109, 101, 109, 98, 101, 114] }, .int .i64 16, .int .i64 16, .slice none 0 0, .nilIface]) rfl (by kernel_rfl) (by kernel_rfl) (by kernel_rfl) (fun c a w h => hKp c a _ _ w h) (Or.inl ⟨by kernel_rfl, fun w hSw => by dsimp only at hSw; obtain ⟨-, q0, q1, q2, q3⟩ := hSw; go_simp⟩) (by assumption) ?_
  simp only [Act.put, List.getElem_toArray, List.getElem_cons_zero, List.getElem_cons_succ, List.setIfInBounds_toArray, List.set_cons_zero, List.set_cons_succ]
  refine wpAnyH_take (i := 13) (v := .pointer (some ⟨w.heap.size, 3, none⟩)) rfl (by kernel_rfl) (by kernel_rfl) (by kernel_rfl) (fun c a w h => hKp c a _ _ w h) (Or.inl ⟨by kernel_rfl, fun w hSw => by dsimp only at hSw; obtain ⟨-, q0, q1, q2, q3⟩ := hSw; go_simp⟩) (by assumption) ?_
  simp only [Act.put, List.getElem_toArray, List.getElem_cons_zero, List.getElem_cons_succ, List.setIfInBounds_toArray, List.set_cons_zero, List.set_cons_succ]
  refine wpAnyH_take (i := 14) (v := .slice a4 (cntN im 3) c4) rfl (by kernel_rfl) (by kernel_rfl) (by kernel_rfl) (fun c a w h => hKp c a _ _ w h) (Or.inl ⟨by kernel_rfl, fun w hSw => by dsimp only at hSw; obtain ⟨-, q0, q1, q2, q3⟩ := hSw; go_simp⟩) (by assumption) ?_
  simp only [Act.put, List.getElem_toArray, List.getElem_cons_zero, List.getElem_cons_succ, List.setIfInBounds_toArray, List.set_cons_zero, List.set_cons_succ]
  have hz := hZ0
  refine wpAnyH_ready (rs := [3]) (by kernel_rfl) (by simp) ?_
  refine AllReadyH.cons rfl (fun Kx hKx => ?_) AllReadyH.nil
  try rw [if_pos (by kernel_rfl)]
  go_simp
  refine (R0.out _ hHeld.1).mono ?_
  rintro e x0 ⟨u0, e0, rfl, hp0, hb0, hq0⟩
  refine hKx.out _ _ (HC.out _ hb0) (fun hHeld => ?_)
  clear hKx Kx
  try simp only [Act.put, List.getElem_toArray, List.getElem_cons_zero, List.getElem_cons_succ, List.setIfInBounds_toArray, List.set_cons_zero, List.set_cons_succ]
  replace hz := (hq0.block _ (lt_of_block hz)).trans hz
  refine wpAnyH_ready (rs := [7]) (by kernel_rfl) (by simp) ?_
  refine AllReadyH.cons rfl (fun Kx hKx => ?_) AllReadyH.nil
  try rw [if_pos (by kernel_rfl)]
  go_simp
  refine (R1.out _ hHeld.1).mono ?_
  rintro e x1 ⟨u1, e1, rfl, hp1, hb1, hq1⟩
  refine hKx.out _ _ (HC.out _ hb1) (fun hHeld => ?_)
  clear hKx Kx
  try simp only [Act.put, List.getElem_toArray, List.getElem_cons_zero, List.getElem_cons_succ, List.setIfInBounds_toArray, List.set_cons_zero, List.set_cons_succ]
  replace hz := (hq1.block _ (lt_of_block hz)).trans hz
  replace hp0 := hp0.below hq1
  refine wpAnyH_ready (rs := [11]) (by kernel_rfl) (by simp) ?_
  refine AllReadyH.cons rfl (fun Kx hKx => ?_) AllReadyH.nil
  try rw [if_pos (by kernel_rfl)]
  go_simp
  refine (R2.out _ hHeld.1).mono ?_
  rintro e x2 ⟨u2, e2, rfl, hp2, hb2, hq2⟩
  refine hKx.out _ _ (HC.out _ hb2) (fun hHeld => ?_)
  clear hKx Kx
  try simp only [Act.put, List.getElem_toArray, List.getElem_cons_zero, List.getElem_cons_succ, List.setIfInBounds_toArray, List.set_cons_zero, List.set_cons_succ]
  replace hz := (hq2.block _ (lt_of_block hz)).trans hz
  replace hp0 := hp0.below hq2
  replace hp1 := hp1.below hq2
  refine wpAnyH_ready (rs := [15]) (by kernel_rfl) (by simp) ?_
  refine AllReadyH.cons rfl (fun Kx hKx => ?_) AllReadyH.nil
  try rw [if_pos (by kernel_rfl)]
  go_simp
  refine (R3.out _ hHeld.1).mono ?_
  rintro e x3 ⟨u3, e3, rfl, hp3, hb3, hq3⟩
  refine hKx.out _ _ (HC.out _ hb3) (fun hHeld => ?_)
  clear hKx Kx
  try simp only [Act.put, List.getElem_toArray, List.getElem_cons_zero, List.getElem_cons_succ, List.setIfInBounds_toArray, List.set_cons_zero, List.set_cons_succ]
  replace hz := (hq3.block _ (lt_of_block hz)).trans hz
  replace hp0 := hp0.below hq3
  replace hp1 := hp1.below hq3
  replace hp2 := hp2.below hq3
  refine wpAnyH_take (i := 16) (v := .agg #[.string { data := #[97, 108, 105, 97, 115] }, .int .i64 41, .int .i64 17, u0, e0, .string { data := #[108, 105, 107, 101, 108, 121] }, .int .i64 48, .int .i64 24, u1, e1, .string { data := #[114, 117, 108, 101] }, .int .i64 0, .int .i64 0, u2, e2, .string { data := #[109, 101, 109, 98, 101, 114] }, .int .i64 16, .int .i64 16, u3, e3]) rfl (by kernel_rfl) (by kernel_rfl) (by kernel_rfl) (fun c a w h => hKp c a _ _ w h) (Or.inl ⟨by kernel_rfl, fun w hSw => by dsimp only at hSw; obtain ⟨-, q0, q1, q2, q3⟩ := hSw; go_simp⟩) (by assumption) ?_
  simp only [Act.put, List.getElem_toArray, List.getElem_cons_zero, List.getElem_cons_succ, List.setIfInBounds_toArray, List.set_cons_zero, List.set_cons_succ]
  have o0 := hp0.one
  have o1 := hp1.one
  have o2 := hp2.one
  have o3 := hp3.one
  have hblk := setRow_heap x3 (w.heap.size + 1) _ (#[.string { data := #[97, 108, 105, 97, 115] }, .int .i64 41, .int .i64 17, u0, e0, .string { data := #[108, 105, 107, 101, 108, 121] }, .int .i64 48, .int .i64 24, u1, e1, .string { data := #[114, 117, 108, 101] }, .int .i64 0, .int .i64 0, u2, e2, .string { data := #[109, 101, 109, 98, 101, 114] }, .int .i64 16, .int .i64 16, u3, e3] : Array Value) _ _ hz
  have hgr := gr_setRowZ x3 (w.heap.size + 1) (#[.string { data := #[97, 108, 105, 97, 115] }, .int .i64 41, .int .i64 17, u0, e0, .string { data := #[108, 105, 107, 101, 108, 121] }, .int .i64 48, .int .i64 24, u1, e1, .string { data := #[114, 117, 108, 101] }, .int .i64 0, .int .i64 0, u2, e2, .string { data := #[109, 101, 109, 98, 101, 114] }, .int .i64 16, .int .i64 16, u3, e3] : Array Value)
  have hbel := fun B0 (h : B0 ≤ w.heap.size + 1) => belowZ_setRow (Below.refl B0 x3) h (#[.string { data := #[97, 108, 105, 97, 115] }, .int .i64 41, .int .i64 17, u0, e0, .string { data := #[108, 105, 107, 101, 108, 121] }, .int .i64 48, .int .i64 24, u1, e1, .string { data := #[114, 117, 108, 101] }, .int .i64 0, .int .i64 0, u2, e2, .string { data := #[109, 101, 109, 98, 101, 114] }, .int .i64 16, .int .i64 16, u3, e3] : Array Value)
  have hone : (#[.string { data := #[97, 108, 105, 97, 115] }, .int .i64 41, .int .i64 17, u0, e0, .string { data := #[108, 105, 107, 101, 108, 121] }, .int .i64 48, .int .i64 24, u1, e1, .string { data := #[114, 117, 108, 101] }, .int .i64 0, .int .i64 0, u2, e2, .string { data := #[109, 101, 109, 98, 101, 114] }, .int .i64 16, .int .i64 16, u3, e3] : Array Value).all (·.oneCell') = true := by simp [Value.oneCell']; exact ⟨o0.1, o0.2, o1.1, o1.2, o2.1, o2.2, o3.1, o3.2⟩
  refine wpAnyH_ready (rs := [17]) (by kernel_rfl) (by simp) ?_
  refine AllReadyH.cons rfl (fun Kx hKx => ?_) AllReadyH.nil
  try rw [if_pos (by kernel_rfl)]
  refine wp_store_row _ _ _ rfl (w.heap.size + 1) (#[.string { data := #[97, 108, 105, 97, 115] }, .int .i64 41, .int .i64 17, u0, e0, .string { data := #[108, 105, 107, 101, 108, 121] }, .int .i64 48, .int .i64 24, u1, e1, .string { data := #[114, 117, 108, 101] }, .int .i64 0, .int .i64 0, u2, e2, .string { data := #[109, 101, 109, 98, 101, 114] }, .int .i64 16, .int .i64 16, u3, e3] : Array Value) rfl rfl _ _ hz sizeParts rfl hone ?_
  generalize x3.setRow (w.heap.size + 1) (#[.string { data := #[97, 108, 105, 97, 115] }, .int .i64 41, .int .i64 17, u0, e0, .string { data := #[108, 105, 107, 101, 108, 121] }, .int .i64 48, .int .i64 24, u1, e1, .string { data := #[114, 117, 108, 101] }, .int .i64 0, .int .i64 0, u2, e2, .string { data := #[109, 101, 109, 98, 101, 114] }, .int .i64 16, .int .i64 16, u3, e3] : Array Value) = V20 at *
  have hRR : V20.heap[w.heap.size + 1]? = some (.cells #[.string { data := #[97, 108, 105, 97, 115] }, .int .i64 41, .int .i64 17, u0, e0, .string { data := #[108, 105, 107, 101, 108, 121] }, .int .i64 48, .int .i64 24, u1, e1, .string { data := #[114, 117, 108, 101] }, .int .i64 0, .int .i64 0, u2, e2, .string { data := #[109, 101, 109, 98, 101, 114] }, .int .i64 16, .int .i64 16, u3, e3] 55 (0, 0)) ∧ (PartZ V20 u0 e0 (whN 0) (rowsN im 0) (badN im 0) ∧ PartZ V20 u1 e1 (whN 1) (rowsN im 1) (badN im 1) ∧ PartZ V20 u2 e2 (whN 2) (rowsN im 2) (badN im 2) ∧ PartZ V20 u3 e3 (whN 3) (rowsN im 3) (badN im 3)) ∧ Below w.heap.size w V20 := ⟨hblk, ⟨hp0.grown hgr hz (by decide) (by decide), hp1.grown hgr hz (by decide) (by decide), hp2.grown hgr hz (by decide) (by decide), hp3.grown hgr hz (by decide) (by decide)⟩, (HB.out _ hb3).trans (hbel w.heap.size (Nat.le_succ _))⟩
  have hS9 := HC.out _ (hb3.trans (hbel (w.heap.size + 1) (Nat.le_refl _)))
  have HRR := Lib.hid hRR
  clear hRR hblk hbel hgr hz hp0 hp1 hp2 hp3 hone
  refine hKx.out _ _ hS9 (fun hHeld => ?_)
  clear hKx Kx
  simp only [Act.put]
  refine wpAnyH_done (by kernel_rfl) ?_ _
  exact hfin u0 e0 u1 e1 u2 e2 u3 e3 _ HRR.out
  rintro u0 e0 u1 e1 u2 e2 u3 e3 w9 ⟨hblk, hP, hB9⟩
  go_wp2
  refine bodyPost_ret (results_cell_row rfl _ _ (w.heap.size + 1) 55 _ (0, 0) _ rfl hblk Tryz.underlying55 rfl sizeParts) rfl ?_
  exact ⟨_, _, _, _, _, _, _, _, rfl, hP, hB9⟩
end Go.Proofs.YtbafmnafhaoggaaGreatDoor
