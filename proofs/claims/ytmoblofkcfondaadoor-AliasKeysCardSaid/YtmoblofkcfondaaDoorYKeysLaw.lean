/-
  AliasKeys: the walk of the law. (Printed by wip/gen_ykeyslaw.py.)
-/
import Derived.Test.YtmoblofkcfondaaDoorYKeys
import Derived.Test.YtmoblofkcfondaaDoorYKit
namespace Go.Proofs.YtmoblofkcfondaaDoor
open Go Go.RowKit

theorem key_of_right {x : Al} (h : rightA x = true) : keyOk x.k x.a x.b = true ∧ keyS x.k x.a x.b = (rowB x).extract 0 17 := by
  have hk := right_kind h
  have hp := right_packs h
  have ho : keyOk x.k x.a x.b = true := by
    unfold keyOk
    rw [decide_eq_true hk, hp.a.2, hp.b.2, hp.a.1, hp.b.1]; rfl
  refine ⟨ho, ?_⟩
  unfold keyS
  rw [ho, if_pos rfl, extract_key]
  rfl
theorem cells2L {W : World} {B : Nat} {a b : Value} {t : TypeId} (h : W.heap[B]? = some (.cells #[a, b] t (0, 0))) :
    W.cell? ⟨B, 0, none⟩ = some a ∧ W.cell? ⟨B, 1, none⟩ = some b := ⟨cellAtY h 0 a rfl, cellAtY h 1 b rfl⟩

set_option maxRecDepth 1000000 in
set_option maxHeartbeats 16000000 in
theorem keys_law (n : Int) (p q : ByteArray) (S : Sd) (w : World) (_h0 : (Lit.int .i64 n).wf = true) (hp : p.size ≤ maxLen) (hq : q.size ≤ maxLen) (hg : GL w) :
    Calls Tryd.prog 6 #[.int .i64 n, .agg #[.string p, .string q], .agg #[.int .i64 S.kind, .int .i64 S.a, .int .i64 S.b, .int .i64 S.l, .int .i64 S.s, .int .i64 S.r, .int .i64 S.odd]] w fun e w' => e = .returned (.bool true) ∧ Below w.heap.size w w' := by
  have hgs := hg.size
  obtain ⟨W1, hW1⟩ : ∃ W1, (w.alloc (.cells #[.string p, .string q] 42)).alloc (.cells #[.int .i64 S.kind, .int .i64 S.a, .int .i64 S.b, .int .i64 S.l, .int .i64 S.s, .int .i64 S.r, .int .i64 S.odd] 25) = W1 := ⟨_, rfl⟩
  have hb1 : Below w.heap.size w W1 := by rw [← hW1]; exact ((Below.refl _ w).alloc (Nat.le_refl _) _).alloc (by simp) _
  have hA : W1.heap[w.heap.size]? = some (.cells #[.string p, .string q] 42 (0, 0)) := by
    rw [← hW1]; exact (Below.heap_alloc _ _ _ (by simp)).trans (World.alloc_heap_new w _)
  have hB : W1.heap[w.heap.size + 1]? = some (.cells #[.int .i64 S.kind, .int .i64 S.a, .int .i64 S.b, .int .i64 S.l, .int .i64 S.s, .int .i64 S.r, .int .i64 S.odd] 25 (0, 0)) := by rw [← hW1]; exact heap_alloc2_new w _ _
  have H2 := Lib.hid (fun w' (hb : Below W1.heap.size W1 w') => cells2L ((hb.block _ (lt_of_block hA)).trans hA))
  have H7 := Lib.hid (fun w' (hb : Below W1.heap.size W1 w') => cells7 ((hb.block _ (lt_of_block hB)).trans hB))
  have HGL := Lib.hid (fun w' (hb : Below W1.heap.size W1 w') => hg.below (hb1.trans (hb.mono hb1.size)) hgs)
  have HB1 := Lib.hid (fun w' (hb : Below W1.heap.size W1 w') => hb1.trans (hb.mono hb1.size))
  have HW1 := Lib.hid hW1
  have AW := Lib.hid (fun w' (hb : Below W1.heap.size W1 w') => (awake12_any w' (HGL.out _ hb)).mono (R' := fun e w'' => e = .returned (.bool true) ∧ Below W1.heap.size W1 w'') fun e w'' ⟨p, q⟩ => ⟨p, hb.trans (q.mono hb.size)⟩)
  have MS := Lib.hid (fun w' => made_any S w')
  have RS := Lib.hid (fun w' => rest12_9 n w')
  have SP := Lib.hid (fun w' => short10_any p w' hp)
  have SQ := Lib.hid (fun w' => short10_any q w' hq)
  have zp := size_cut10 p
  have zq := size_cut10 q
  have ha := made_small S
  generalize madeA S = a at *
  generalize cut10 p = cp at *
  generalize cut10 q = cq at *
  generalize (restV n 9 : Int) = j at *
  have K1 := Lib.hid (fun w' => keys_any n cp cq w' (by omega) (by omega))
  have K2 := Lib.hid (fun w' => keys_any j cp cq w' (by omega) (by omega))
  have K3 := Lib.hid (fun w' => keys_any j a.a a.b w' ha.a ha.b)
  have EA := Lib.hid (fun w' (hg : GL w') => encode_al a w' ha hg)
  have KA := Lib.hid (fun w' => key_al a.k a.a a.b w' ha.a ha.b)
  have hkr := key_of_right (x := a)
  have hen : rightA a = true → encS a = rowB a := fun h => by unfold encS; rw [h]; rfl
  have hsr := size_rowB a
  have hs17 : ((rowB a).extract 0 17).size = 17 := by rw [ByteArray.size_extract]; omega
  obtain ⟨ra, hra⟩ : ∃ ra, rightA a = ra := ⟨_, rfl⟩
  rw [hra] at EA hkr hen
  generalize encS a = es at *
  generalize keyS a.k a.a a.b = ks at *
  generalize keyOk a.k a.a a.b = ko at *
  generalize rowB a = row at *
  clear hra ha hA hB hb1 hW1 hg hgs zp zq hp hq _h0
  cases ra
  case' true =>
    obtain ⟨rfl, rfl⟩ := hkr rfl
    obtain rfl := hen rfl
    have hl17 : (17 : Int) ≤ (es.size : Int) := by omega
  all_goals
    clear hkr hen hsr
    go_enter Tryd.func6, Tryd.ntmps6
    go_upto_region 1 with fail
    rw [HW1.out]
    go_upto_region 2 with (go_at_call 9; (with_reducible refine (AW.out _ (Below.refl _ _)).mono ?_); rintro e w2 ⟨rfl, hb2⟩)
    obtain ⟨s0, s1, s2, s3, s4, s5, s6⟩ := H7.out _ hb2
    go_upto_region 3 with (go_at_call 13; (with_reducible refine (MS.out _).mono ?_); rintro e w3 ⟨rfl, hb3⟩)
    clear s0 s1 s2 s3 s4 s5 s6
    obtain ⟨W3, hW3⟩ : ∃ W3, w3.alloc (.cells #[.int .i64 a.k, .string a.a, .string a.b, .string a.l, .string a.s, .string a.r] 23) = W3 := ⟨_, rfl⟩
    have hN3 : W3.heap[w3.heap.size]? = some (.cells #[.int .i64 a.k, .string a.a, .string a.b, .string a.l, .string a.s, .string a.r] 23 (0, 0)) := by rw [← hW3]; exact World.alloc_heap_new w3 _
    have hb3' : Below W1.heap.size W1 W3 := by rw [← hW3]; exact (hb2.trans (hb3.mono hb2.size)).alloc (Nat.le_trans hb2.size hb3.size) _
    rw [hW3]
    generalize w3.heap.size = N2 at *
    clear hW3 hb2 hb3 HW1 AW MS H7
    obtain ⟨a0, a1, a2, a3, a4, a5⟩ := cells6 hN3
    go_upto_region 4 with (go_at_call 16; (with_reducible refine (EA.out _ (HGL.out _ hb3')).mono ?_); rintro e w4 ⟨rfl, hb4⟩)
    clear a0 a1 a2 a3 a4 a5
    have hN4 := (hb4.block _ (lt_of_block hN3)).trans hN3
    have hb4' := hb3'.trans (hb4.mono hb3'.size)
    obtain ⟨a0, a1, a2, a3, a4, a5⟩ := cells6 hN4
    go_upto_region 5 with (go_at_call 19; (with_reducible refine (KA.out _).mono ?_); rintro e Y ⟨rfl, hb5⟩)
    clear a0 a1 a2 a3 a4 a5
    have hN5 := (hb5.block _ (lt_of_block hN4)).trans hN4
    have hb5' := hb4'.trans (hb5.mono hb4'.size)
    have HC := Lib.hid (fun w' (hb : Below Y.heap.size Y w') => (show Below Y.heap.size Y w' ∧ (w'.cell? ⟨w.heap.size, 0, none⟩ = some (.string p) ∧ w'.cell? ⟨w.heap.size, 1, none⟩ = some (.string q) ∧ w'.cell? ⟨N2, 1, none⟩ = some (.string a.a) ∧ w'.cell? ⟨N2, 2, none⟩ = some (.string a.b)) from ⟨hb, (H2.out _ (hb5'.trans (hb.mono hb5'.size))).1, (H2.out _ (hb5'.trans (hb.mono hb5'.size))).2, (cells6 ((hb.block _ (lt_of_block hN5)).trans hN5)).2.1, (cells6 ((hb.block _ (lt_of_block hN5)).trans hN5)).2.2.1⟩))
    have HBY := Lib.hid (fun w' (hb : Below Y.heap.size Y w') => HB1.out _ (hb5'.trans (hb.mono hb5'.size)))
    clear hb5 hb4 hb4' hN3 hN4 hN5 hb3' hb5' EA KA HGL HB1 H2
    go_upto_region 7 with fail
    try clear hl17
    clear hs17
    refine wp_region_held_drew (S := fun w' => Below Y.heap.size Y w' ∧ (w'.cell? ⟨w.heap.size, 0, none⟩ = some (.string p) ∧ w'.cell? ⟨w.heap.size, 1, none⟩ = some (.string q) ∧ w'.cell? ⟨N2, 1, none⟩ = some (.string a.a) ∧ w'.cell? ⟨N2, 2, none⟩ = some (.string a.b))) (by kernel_rfl) (HC.out _ (Below.drew (Below.refl _ _))) (fun hHeld => ?_)
    apply held_shell
    exact fun _ _ d _ _ h => by cases d <;> exact h
    rotate_left 1
    intro KK hKp hfin
    refine wpAnyH_take (i := 0) (v := .bool true) rfl (by kernel_rfl) (by kernel_rfl) (by kernel_rfl) (fun c a w h => hKp c a _ _ w h) (Or.inl ⟨by kernel_rfl, fun w hSw => by dsimp only at hSw; obtain ⟨-, c1, c2, c3, c4⟩ := hSw; go_simp⟩) (by assumption) ?_
    simp only [Act.put, List.getElem_toArray, List.getElem_cons_zero, List.setIfInBounds_toArray, List.set_cons_zero, List.set_cons_succ]
    refine wpAnyH_take (i := 1) (v := .bool true) rfl (by kernel_rfl) (by kernel_rfl) (by kernel_rfl) (fun c a w h => hKp c a _ _ w h) (Or.inl ⟨by kernel_rfl, fun w hSw => by dsimp only at hSw; obtain ⟨-, c1, c2, c3, c4⟩ := hSw; go_simp⟩) (by assumption) ?_
    simp only [Act.put, List.getElem_toArray, List.getElem_cons_zero, List.getElem_cons_succ, List.setIfInBounds_toArray, List.set_cons_zero, List.set_cons_succ]
    refine wpAnyH_take (i := 2) (v := .int .i64 n) rfl (by kernel_rfl) (by kernel_rfl) (by kernel_rfl) (fun c a w h => hKp c a _ _ w h) (Or.inl ⟨by kernel_rfl, fun w hSw => by dsimp only at hSw; obtain ⟨-, c1, c2, c3, c4⟩ := hSw; go_simp⟩) (by assumption) ?_
    simp only [Act.put, List.getElem_toArray, List.getElem_cons_zero, List.getElem_cons_succ, List.setIfInBounds_toArray, List.set_cons_zero, List.set_cons_succ]
    refine wpAnyH_take (i := 3) (v := .pointer (some ⟨w.heap.size, 0, none⟩)) rfl (by kernel_rfl) (by kernel_rfl) (by kernel_rfl) (fun c a w h => hKp c a _ _ w h) (Or.inl ⟨by kernel_rfl, fun w hSw => by dsimp only at hSw; obtain ⟨-, c1, c2, c3, c4⟩ := hSw; go_simp⟩) (by assumption) ?_
    simp only [Act.put, List.getElem_toArray, List.getElem_cons_zero, List.getElem_cons_succ, List.setIfInBounds_toArray, List.set_cons_zero, List.set_cons_succ]
    refine wpAnyH_take (i := 4) (v := .string p) rfl (by kernel_rfl) (by kernel_rfl) (by kernel_rfl) (fun c a w h => hKp c a _ _ w h) (Or.inl ⟨by kernel_rfl, fun w hSw => by dsimp only at hSw; obtain ⟨-, c1, c2, c3, c4⟩ := hSw; go_simp⟩) (by assumption) ?_
    simp only [Act.put, List.getElem_toArray, List.getElem_cons_zero, List.getElem_cons_succ, List.setIfInBounds_toArray, List.set_cons_zero, List.set_cons_succ]
    refine wpAnyH_take (i := 6) (v := .pointer (some ⟨w.heap.size, 1, none⟩)) rfl (by kernel_rfl) (by kernel_rfl) (by kernel_rfl) (fun c a w h => hKp c a _ _ w h) (Or.inl ⟨by kernel_rfl, fun w hSw => by dsimp only at hSw; obtain ⟨-, c1, c2, c3, c4⟩ := hSw; go_simp⟩) (by assumption) ?_
    simp only [Act.put, List.getElem_toArray, List.getElem_cons_zero, List.getElem_cons_succ, List.setIfInBounds_toArray, List.set_cons_zero, List.set_cons_succ]
    refine wpAnyH_take (i := 7) (v := .string q) rfl (by kernel_rfl) (by kernel_rfl) (by kernel_rfl) (fun c a w h => hKp c a _ _ w h) (Or.inl ⟨by kernel_rfl, fun w hSw => by dsimp only at hSw; obtain ⟨-, c1, c2, c3, c4⟩ := hSw; go_simp⟩) (by assumption) ?_
    simp only [Act.put, List.getElem_toArray, List.getElem_cons_zero, List.getElem_cons_succ, List.setIfInBounds_toArray, List.set_cons_zero, List.set_cons_succ]
    refine wpAnyH_ready (rs := [5]) (by kernel_rfl) (by simp) ?_
    refine AllReadyH.cons rfl (fun Kx hKx => ?_) AllReadyH.nil
    rw [if_pos (by kernel_rfl)]
    go_simp
    (with_reducible refine (SP.out _).mono ?_)
    rintro e w5 ⟨rfl, rfl⟩
    refine hKx.out _ _ (hHeld) (fun hHeld => ?_)
    clear hKx Kx
    try simp only [Act.put, List.getElem_toArray, List.getElem_cons_zero, List.getElem_cons_succ, List.setIfInBounds_toArray, List.set_cons_zero, List.set_cons_succ]
    refine wpAnyH_ready (rs := [8]) (by kernel_rfl) (by simp) ?_
    refine AllReadyH.cons rfl (fun Kx hKx => ?_) AllReadyH.nil
    rw [if_pos (by kernel_rfl)]
    go_simp
    (with_reducible refine (SQ.out _).mono ?_)
    rintro e w5 ⟨rfl, rfl⟩
    refine hKx.out _ _ (hHeld) (fun hHeld => ?_)
    clear hKx Kx
    try simp only [Act.put, List.getElem_toArray, List.getElem_cons_zero, List.getElem_cons_succ, List.setIfInBounds_toArray, List.set_cons_zero, List.set_cons_succ]
    refine wpAnyH_ready (rs := [9]) (by kernel_rfl) (by simp) ?_
    refine AllReadyH.cons rfl (fun Kx hKx => ?_) AllReadyH.nil
    rw [if_pos (by kernel_rfl)]
    go_simp
    (with_reducible refine (K1.out _).mono ?_)
    rintro e w5 ⟨rfl, hb5⟩
    refine hKx.out _ _ (HC.out _ (hHeld.1.trans (hb5.mono hHeld.1.size))) (fun hHeld => ?_)
    clear hKx Kx
    try simp only [Act.put, List.getElem_toArray, List.getElem_cons_zero, List.getElem_cons_succ, List.setIfInBounds_toArray, List.set_cons_zero, List.set_cons_succ]
    refine wpAnyH_take (i := 10) (v := .bool true) rfl (by kernel_rfl) (by kernel_rfl) (by kernel_rfl) (fun c a w h => hKp c a _ _ w h) (Or.inl ⟨by kernel_rfl, fun w hSw => by dsimp only at hSw; obtain ⟨-, c1, c2, c3, c4⟩ := hSw; go_simp⟩) (by assumption) ?_
    simp only [Act.put, List.getElem_toArray, List.getElem_cons_zero, List.getElem_cons_succ, List.setIfInBounds_toArray, List.set_cons_zero, List.set_cons_succ]
    refine wpAnyH_take (i := 11) (v := .bool true) rfl (by kernel_rfl) (by kernel_rfl) (by kernel_rfl) (fun c a w h => hKp c a _ _ w h) (Or.inl ⟨by kernel_rfl, fun w hSw => by dsimp only at hSw; obtain ⟨-, c1, c2, c3, c4⟩ := hSw; go_simp⟩) (by assumption) ?_
    simp only [Act.put, List.getElem_toArray, List.getElem_cons_zero, List.getElem_cons_succ, List.setIfInBounds_toArray, List.set_cons_zero, List.set_cons_succ]
    refine wpAnyH_take (i := 12) (v := .int .i64 n) rfl (by kernel_rfl) (by kernel_rfl) (by kernel_rfl) (fun c a w h => hKp c a _ _ w h) (Or.inl ⟨by kernel_rfl, fun w hSw => by dsimp only at hSw; obtain ⟨-, c1, c2, c3, c4⟩ := hSw; go_simp⟩) (by assumption) ?_
    simp only [Act.put, List.getElem_toArray, List.getElem_cons_zero, List.getElem_cons_succ, List.setIfInBounds_toArray, List.set_cons_zero, List.set_cons_succ]
    refine wpAnyH_take (i := 14) (v := .pointer (some ⟨w.heap.size, 0, none⟩)) rfl (by kernel_rfl) (by kernel_rfl) (by kernel_rfl) (fun c a w h => hKp c a _ _ w h) (Or.inl ⟨by kernel_rfl, fun w hSw => by dsimp only at hSw; obtain ⟨-, c1, c2, c3, c4⟩ := hSw; go_simp⟩) (by assumption) ?_
    simp only [Act.put, List.getElem_toArray, List.getElem_cons_zero, List.getElem_cons_succ, List.setIfInBounds_toArray, List.set_cons_zero, List.set_cons_succ]
    refine wpAnyH_take (i := 15) (v := .string p) rfl (by kernel_rfl) (by kernel_rfl) (by kernel_rfl) (fun c a w h => hKp c a _ _ w h) (Or.inl ⟨by kernel_rfl, fun w hSw => by dsimp only at hSw; obtain ⟨-, c1, c2, c3, c4⟩ := hSw; go_simp⟩) (by assumption) ?_
    simp only [Act.put, List.getElem_toArray, List.getElem_cons_zero, List.getElem_cons_succ, List.setIfInBounds_toArray, List.set_cons_zero, List.set_cons_succ]
    refine wpAnyH_take (i := 17) (v := .pointer (some ⟨w.heap.size, 1, none⟩)) rfl (by kernel_rfl) (by kernel_rfl) (by kernel_rfl) (fun c a w h => hKp c a _ _ w h) (Or.inl ⟨by kernel_rfl, fun w hSw => by dsimp only at hSw; obtain ⟨-, c1, c2, c3, c4⟩ := hSw; go_simp⟩) (by assumption) ?_
    simp only [Act.put, List.getElem_toArray, List.getElem_cons_zero, List.getElem_cons_succ, List.setIfInBounds_toArray, List.set_cons_zero, List.set_cons_succ]
    refine wpAnyH_take (i := 18) (v := .string q) rfl (by kernel_rfl) (by kernel_rfl) (by kernel_rfl) (fun c a w h => hKp c a _ _ w h) (Or.inl ⟨by kernel_rfl, fun w hSw => by dsimp only at hSw; obtain ⟨-, c1, c2, c3, c4⟩ := hSw; go_simp⟩) (by assumption) ?_
    simp only [Act.put, List.getElem_toArray, List.getElem_cons_zero, List.getElem_cons_succ, List.setIfInBounds_toArray, List.set_cons_zero, List.set_cons_succ]
    refine wpAnyH_ready (rs := [13]) (by kernel_rfl) (by simp) ?_
    refine AllReadyH.cons rfl (fun Kx hKx => ?_) AllReadyH.nil
    rw [if_pos (by kernel_rfl)]
    go_simp
    (with_reducible refine (RS.out _).mono ?_)
    rintro e w5 ⟨rfl, rfl⟩
    refine hKx.out _ _ (hHeld) (fun hHeld => ?_)
    clear hKx Kx
    try simp only [Act.put, List.getElem_toArray, List.getElem_cons_zero, List.getElem_cons_succ, List.setIfInBounds_toArray, List.set_cons_zero, List.set_cons_succ]
    refine wpAnyH_ready (rs := [16]) (by kernel_rfl) (by simp) ?_
    refine AllReadyH.cons rfl (fun Kx hKx => ?_) AllReadyH.nil
    rw [if_pos (by kernel_rfl)]
    go_simp
    (with_reducible refine (SP.out _).mono ?_)
    rintro e w5 ⟨rfl, rfl⟩
    refine hKx.out _ _ (hHeld) (fun hHeld => ?_)
    clear hKx Kx
    try simp only [Act.put, List.getElem_toArray, List.getElem_cons_zero, List.getElem_cons_succ, List.setIfInBounds_toArray, List.set_cons_zero, List.set_cons_succ]
    refine wpAnyH_ready (rs := [19]) (by kernel_rfl) (by simp) ?_
    refine AllReadyH.cons rfl (fun Kx hKx => ?_) AllReadyH.nil
    rw [if_pos (by kernel_rfl)]
    go_simp
    (with_reducible refine (SQ.out _).mono ?_)
    rintro e w5 ⟨rfl, rfl⟩
    refine hKx.out _ _ (hHeld) (fun hHeld => ?_)
    clear hKx Kx
    try simp only [Act.put, List.getElem_toArray, List.getElem_cons_zero, List.getElem_cons_succ, List.setIfInBounds_toArray, List.set_cons_zero, List.set_cons_succ]
    refine wpAnyH_ready (rs := [20]) (by kernel_rfl) (by simp) ?_
    refine AllReadyH.cons rfl (fun Kx hKx => ?_) AllReadyH.nil
    rw [if_pos (by kernel_rfl)]
    go_simp
    (with_reducible refine (K2.out _).mono ?_)
    rintro e w5 ⟨rfl, hb5⟩
    refine hKx.out _ _ (HC.out _ (hHeld.1.trans (hb5.mono hHeld.1.size))) (fun hHeld => ?_)
    clear hKx Kx
    try simp only [Act.put, List.getElem_toArray, List.getElem_cons_zero, List.getElem_cons_succ, List.setIfInBounds_toArray, List.set_cons_zero, List.set_cons_succ]
    refine wpAnyH_take (i := 21) (v := .bool true) rfl (by kernel_rfl) (by kernel_rfl) (by kernel_rfl) (fun c a w h => hKp c a _ _ w h) (Or.inl ⟨by kernel_rfl, fun w hSw => by dsimp only at hSw; obtain ⟨-, c1, c2, c3, c4⟩ := hSw; go_simp⟩) (by assumption) ?_
    simp only [Act.put, List.getElem_toArray, List.getElem_cons_zero, List.getElem_cons_succ, List.setIfInBounds_toArray, List.set_cons_zero, List.set_cons_succ]
    refine wpAnyH_take (i := 22) (v := .bool true) rfl (by kernel_rfl) (by kernel_rfl) (by kernel_rfl) (fun c a w h => hKp c a _ _ w h) (Or.inl ⟨by kernel_rfl, fun w hSw => by dsimp only at hSw; obtain ⟨-, c1, c2, c3, c4⟩ := hSw; go_simp⟩) (by assumption) ?_
    simp only [Act.put, List.getElem_toArray, List.getElem_cons_zero, List.getElem_cons_succ, List.setIfInBounds_toArray, List.set_cons_zero, List.set_cons_succ]
    refine wpAnyH_take (i := 23) (v := .int .i64 n) rfl (by kernel_rfl) (by kernel_rfl) (by kernel_rfl) (fun c a w h => hKp c a _ _ w h) (Or.inl ⟨by kernel_rfl, fun w hSw => by dsimp only at hSw; obtain ⟨-, c1, c2, c3, c4⟩ := hSw; go_simp⟩) (by assumption) ?_
    simp only [Act.put, List.getElem_toArray, List.getElem_cons_zero, List.getElem_cons_succ, List.setIfInBounds_toArray, List.set_cons_zero, List.set_cons_succ]
    refine wpAnyH_take (i := 25) (v := .pointer (some ⟨N2, 1, none⟩)) rfl (by kernel_rfl) (by kernel_rfl) (by kernel_rfl) (fun c a w h => hKp c a _ _ w h) (Or.inl ⟨by kernel_rfl, fun w hSw => by dsimp only at hSw; obtain ⟨-, c1, c2, c3, c4⟩ := hSw; go_simp⟩) (by assumption) ?_
    simp only [Act.put, List.getElem_toArray, List.getElem_cons_zero, List.getElem_cons_succ, List.setIfInBounds_toArray, List.set_cons_zero, List.set_cons_succ]
    refine wpAnyH_take (i := 26) (v := .string a.a) rfl (by kernel_rfl) (by kernel_rfl) (by kernel_rfl) (fun c a w h => hKp c a _ _ w h) (Or.inl ⟨by kernel_rfl, fun w hSw => by dsimp only at hSw; obtain ⟨-, c1, c2, c3, c4⟩ := hSw; go_simp⟩) (by assumption) ?_
    simp only [Act.put, List.getElem_toArray, List.getElem_cons_zero, List.getElem_cons_succ, List.setIfInBounds_toArray, List.set_cons_zero, List.set_cons_succ]
    refine wpAnyH_take (i := 27) (v := .pointer (some ⟨N2, 2, none⟩)) rfl (by kernel_rfl) (by kernel_rfl) (by kernel_rfl) (fun c a w h => hKp c a _ _ w h) (Or.inl ⟨by kernel_rfl, fun w hSw => by dsimp only at hSw; obtain ⟨-, c1, c2, c3, c4⟩ := hSw; go_simp⟩) (by assumption) ?_
    simp only [Act.put, List.getElem_toArray, List.getElem_cons_zero, List.getElem_cons_succ, List.setIfInBounds_toArray, List.set_cons_zero, List.set_cons_succ]
    refine wpAnyH_take (i := 28) (v := .string a.b) rfl (by kernel_rfl) (by kernel_rfl) (by kernel_rfl) (fun c a w h => hKp c a _ _ w h) (Or.inl ⟨by kernel_rfl, fun w hSw => by dsimp only at hSw; obtain ⟨-, c1, c2, c3, c4⟩ := hSw; go_simp⟩) (by assumption) ?_
    simp only [Act.put, List.getElem_toArray, List.getElem_cons_zero, List.getElem_cons_succ, List.setIfInBounds_toArray, List.set_cons_zero, List.set_cons_succ]
    refine wpAnyH_ready (rs := [24]) (by kernel_rfl) (by simp) ?_
    refine AllReadyH.cons rfl (fun Kx hKx => ?_) AllReadyH.nil
    rw [if_pos (by kernel_rfl)]
    go_simp
    (with_reducible refine (RS.out _).mono ?_)
    rintro e w5 ⟨rfl, rfl⟩
    refine hKx.out _ _ (hHeld) (fun hHeld => ?_)
    clear hKx Kx
    try simp only [Act.put, List.getElem_toArray, List.getElem_cons_zero, List.getElem_cons_succ, List.setIfInBounds_toArray, List.set_cons_zero, List.set_cons_succ]
    refine wpAnyH_ready (rs := [29]) (by kernel_rfl) (by simp) ?_
    refine AllReadyH.cons rfl (fun Kx hKx => ?_) AllReadyH.nil
    rw [if_pos (by kernel_rfl)]
    go_simp
    (with_reducible refine (K3.out _).mono ?_)
    rintro e w5 ⟨rfl, hb5⟩
    refine hKx.out _ _ (HC.out _ (hHeld.1.trans (hb5.mono hHeld.1.size))) (fun hHeld => ?_)
    clear hKx Kx
    try simp only [Act.put, List.getElem_toArray, List.getElem_cons_zero, List.getElem_cons_succ, List.setIfInBounds_toArray, List.set_cons_zero, List.set_cons_succ]
    refine wpAnyH_take (i := 30) (v := .bool true) rfl (by kernel_rfl) (by kernel_rfl) (by kernel_rfl) (fun c a w h => hKp c a _ _ w h) (Or.inl ⟨by kernel_rfl, fun w hSw => by dsimp only at hSw; obtain ⟨-, c1, c2, c3, c4⟩ := hSw; go_simp⟩) (by assumption) ?_
    simp only [Act.put, List.getElem_toArray, List.getElem_cons_zero, List.getElem_cons_succ, List.setIfInBounds_toArray, List.set_cons_zero, List.set_cons_succ]
    refine wpAnyH_take (i := 31) (v := .bool true) rfl (by kernel_rfl) (by kernel_rfl) (by kernel_rfl) (fun c a w h => hKp c a _ _ w h) (Or.inl ⟨by kernel_rfl, fun w hSw => by dsimp only at hSw; obtain ⟨-, c1, c2, c3, c4⟩ := hSw; go_simp⟩) (by assumption) ?_
    simp only [Act.put, List.getElem_toArray, List.getElem_cons_zero, List.getElem_cons_succ, List.setIfInBounds_toArray, List.set_cons_zero, List.set_cons_succ]
    refine wpAnyH_done (by kernel_rfl) ?_ _
    exact hfin _ hHeld
    intro w9 hS9
    rcases hS9 with ⟨hb9, -⟩
    go_wp2
    go_ret
    exact ⟨rfl, HBY.out _ hb9⟩
end Go.Proofs.YtmoblofkcfondaaDoor
