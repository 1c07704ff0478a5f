/-
  ImageRight: likely rows, rules and members may be, or not, as words say. (Printed by wip/gen_zrightlaw.py.)
-/
import Derived.Test.YtknodboncpcjnaaGreatDoorZShort
import Derived.Test.YtknodboncpcjnaaGreatDoorZMade
import Derived.Test.YtknodboncpcjnaaGreatDoorZPerm
import Derived.Deep.RegionHeld3
import Derived.Deep.CutRange
namespace Go.Proofs.YtknodboncpcjnaaGreatDoor
open Go Go.RowKit

theorem wf_midZ {k : Int} (h : -1000 ≤ k ∧ k ≤ 1000) : (Lit.int .i64 k).wf = true := by
  unfold Lit.wf
  rw [Bool.and_eq_true, decide_eq_true_iff, decide_eq_true_iff]
  have h1 : IntKind.min .i64 = -9223372036854775808 := by decide
  have h2 : IntKind.max .i64 = 9223372036854775807 := by decide
  omega
theorem cells9Q {W : World} {B : Nat} {a b c d e f g h i : Value} {t : TypeId} (hh : W.heap[B]? = some (.cells #[a, b, c, d, e, f, g, h, i] t (0, 0))) :
    W.cell? ⟨B, 0, none⟩ = some a ∧ W.cell? ⟨B, 1, none⟩ = some b ∧ W.cell? ⟨B, 2, none⟩ = some c ∧ W.cell? ⟨B, 3, none⟩ = some d ∧ W.cell? ⟨B, 4, none⟩ = some e ∧ W.cell? ⟨B, 5, none⟩ = some f ∧ W.cell? ⟨B, 6, none⟩ = some g ∧ W.cell? ⟨B, 7, none⟩ = some h ∧ W.cell? ⟨B, 8, none⟩ = some i := by
  simp [World.cell?, hh]
set_option maxRecDepth 1000000 in
set_option maxHeartbeats 40000000 in
theorem imageRight_law (l : Lk) (r : Rl) (S : SeedZ) (va0 vl0 vr0 vm0 : Value) (w : World) (hl : ∀ t ∈ lkT l, t.size ≤ maxLen) (hr : ∀ t ∈ rlT r, t.size ≤ maxLen) (hr1 : (Lit.int .i64 r.lv).wf = true) (hr2 : (Lit.int .i64 r.co).wf = true) (hS : SdR w va0 vl0 vr0 vm0 S) (hg : GL w) :
    Calls Tryz.prog 3 #[.agg #[.string l.l, .string l.s, .string l.r, .string l.tl, .string l.ts, .string l.tr], .agg #[.int .i64 r.lv, .int .i64 r.co, .bool r.ow, .string r.d0, .string r.d1, .string r.d2, .string r.s0, .string r.s1, .string r.s2], .agg #[va0, vl0, vr0, vm0, .int .i64 S.th, .int .i64 S.de, .int .i64 S.odd]] w fun e w' => e = .returned (.bool true) ∧ Below w.heap.size w w' := by
  obtain ⟨W1, hW1⟩ : ∃ W1, ((w.alloc (.cells #[.string l.l, .string l.s, .string l.r, .string l.tl, .string l.ts, .string l.tr] 23)).alloc (.cells #[.int .i64 r.lv, .int .i64 r.co, .bool r.ow, .string r.d0, .string r.d1, .string r.d2, .string r.s0, .string r.s1, .string r.s2] 26)).alloc (.cells #[va0, vl0, vr0, vm0, .int .i64 S.th, .int .i64 S.de, .int .i64 S.odd] 30) = W1 := ⟨_, rfl⟩
  have hb1 : Below w.heap.size w W1 := by rw [← hW1]; exact (((Below.refl _ w).alloc (Nat.le_refl _) _).alloc (by simp) _).alloc (by simp; omega) _
  have hL1 : W1.heap[w.heap.size]? = some (.cells #[.string l.l, .string l.s, .string l.r, .string l.tl, .string l.ts, .string l.tr] 23 (0, 0)) := by rw [← hW1]; exact (Below.heap_alloc _ _ _ (by simp; omega)).trans ((Below.heap_alloc _ _ _ (by simp)).trans (World.alloc_heap_new w _))
  have hR1 : W1.heap[w.heap.size + 1]? = some (.cells #[.int .i64 r.lv, .int .i64 r.co, .bool r.ow, .string r.d0, .string r.d1, .string r.d2, .string r.s0, .string r.s1, .string r.s2] 26 (0, 0)) := by rw [← hW1]; exact (Below.heap_alloc _ _ _ (by simp)).trans (heap_alloc2_new w _ _)
  have hS1 : W1.heap[w.heap.size + 2]? = some (.cells #[va0, vl0, vr0, vm0, .int .i64 S.th, .int .i64 S.de, .int .i64 S.odd] 30 (0, 0)) := by
    rw [← hW1]
    have h := World.alloc_heap_new ((w.alloc (.cells #[.string l.l, .string l.s, .string l.r, .string l.tl, .string l.ts, .string l.tr] 23)).alloc (.cells #[.int .i64 r.lv, .int .i64 r.co, .bool r.ow, .string r.d0, .string r.d1, .string r.d2, .string r.s0, .string r.s1, .string r.s2] 26)) (.cells #[va0, vl0, vr0, vm0, .int .i64 S.th, .int .i64 S.de, .int .i64 S.odd] 30)
    have hz : ((w.alloc (.cells #[.string l.l, .string l.s, .string l.r, .string l.tl, .string l.ts, .string l.tr] 23)).alloc (.cells #[.int .i64 r.lv, .int .i64 r.co, .bool r.ow, .string r.d0, .string r.d1, .string r.d2, .string r.s0, .string r.s1, .string r.s2] 26)).heap.size = w.heap.size + 2 := by simp
    rwa [hz] at h
  have HL := Lib.hid (fun w' (h : Below W1.heap.size W1 w') => cells6 ((h.block _ (lt_of_block hL1)).trans hL1))
  have HR := Lib.hid (fun w' (h : Below W1.heap.size W1 w') => cells9Q ((h.block _ (lt_of_block hR1)).trans hR1))
  have H7 := Lib.hid (fun w' (h : Below W1.heap.size W1 w') => cells7 ((h.block _ (lt_of_block hS1)).trans hS1))
  have HB := Lib.hid (fun w' (h : Below W1.heap.size W1 w') => hb1.trans (h.mono hb1.size))
  have HG := Lib.hid (fun w' (h : Below W1.heap.size W1 w') => hg.below (hb1.trans (h.mono hb1.size)) hg.size)
  have HSd := Lib.hid (fun w' (h : Below W1.heap.size W1 w') => hS.below (hb1.trans (h.mono hb1.size)))
  have HSl := Lib.hid (fun w' => short13_any l.l w' (hl _ (by simp [lkT])))
  have HSs := Lib.hid (fun w' => short13_any l.s w' (hl _ (by simp [lkT])))
  have HSr := Lib.hid (fun w' => short13_any l.r w' (hl _ (by simp [lkT])))
  have HStl := Lib.hid (fun w' => short13_any l.tl w' (hl _ (by simp [lkT])))
  have HSts := Lib.hid (fun w' => short13_any l.ts w' (hl _ (by simp [lkT])))
  have HStr := Lib.hid (fun w' => short13_any l.tr w' (hl _ (by simp [lkT])))
  have HSd0 := Lib.hid (fun w' => short13_any r.d0 w' (hr _ (by simp [rlT])))
  have HSd1 := Lib.hid (fun w' => short13_any r.d1 w' (hr _ (by simp [rlT])))
  have HSd2 := Lib.hid (fun w' => short13_any r.d2 w' (hr _ (by simp [rlT])))
  have HSs0 := Lib.hid (fun w' => short13_any r.s0 w' (hr _ (by simp [rlT])))
  have HSs1 := Lib.hid (fun w' => short13_any r.s1 w' (hr _ (by simp [rlT])))
  have HSs2 := Lib.hid (fun w' => short13_any r.s2 w' (hr _ (by simp [rlT])))
  have HW1 := Lib.hid hW1
  have hs3 := lt_of_block hS1
  clear hW1 hb1 hL1 hR1 hS1 hl hr hS hg
  go_enter Tryz.func3, Tryz.ntmps3
  go_upto_region 1 with fail
  rw [HW1.out]
  have HAW := Lib.hid (awake13_any W1 (HG.out _ (Below.refl _ _)))
  go_upto_region 2 with (go_at_call 14; (with_reducible refine HAW.out.mono ?_); rintro e w2 ⟨rfl, hb2⟩)
  go_cut [8] from 18 to 36 (fun u wx => u = .pointer (some ⟨w2.heap.size, 0, none⟩) ∧ wx.heap[w2.heap.size]? = some (.cells #[.string (shZ l.l), .string (shZ l.s), .string (shZ l.r), .string (shZ l.tl), .string (shZ l.ts), .string (shZ l.tr)] 23 (0, 0)) ∧ Below w2.heap.size w2 wx)
  case first =>
    have HC := Lib.hid (fun w' (h : Below w2.heap.size w2 w') => show Below w2.heap.size w2 w' ∧ w'.cell? ⟨w.heap.size, 0, none⟩ = some (.string l.l) ∧ w'.cell? ⟨w.heap.size, 1, none⟩ = some (.string l.s) ∧ w'.cell? ⟨w.heap.size, 2, none⟩ = some (.string l.r) ∧ w'.cell? ⟨w.heap.size, 3, none⟩ = some (.string l.tl) ∧ w'.cell? ⟨w.heap.size, 4, none⟩ = some (.string l.ts) ∧ w'.cell? ⟨w.heap.size, 5, none⟩ = some (.string l.tr) from ⟨h, HL.out _ (hb2.trans (h.mono hb2.size))⟩)
    refine wp_region_held_drew (S := fun w' => Below w2.heap.size w2 w' ∧ w'.cell? ⟨w.heap.size, 0, none⟩ = some (.string l.l) ∧ w'.cell? ⟨w.heap.size, 1, none⟩ = some (.string l.s) ∧ w'.cell? ⟨w.heap.size, 2, none⟩ = some (.string l.r) ∧ w'.cell? ⟨w.heap.size, 3, none⟩ = some (.string l.tl) ∧ w'.cell? ⟨w.heap.size, 4, none⟩ = some (.string l.ts) ∧ w'.cell? ⟨w.heap.size, 5, none⟩ = some (.string l.tr)) (by kernel_rfl) (HC.out _ (Below.drew (Below.refl _ _))) (fun hHeld => ?_)
    apply held_shellR (R := fun w' => Below w2.heap.size w2 w' ∧ w'.heap[w2.heap.size]? = some (.cells #[.string (shZ l.l), .string (shZ l.s), .string (shZ l.r), .string (shZ l.tl), .string (shZ l.ts), .string (shZ l.tr)] 23 (0, 0)))
    exact fun _ _ d _ _ h => by cases d <;> exact h
    rotate_left 1
    · intro KK hKp hfin
      refine wpAnyH_take (i := 0) (v := .pointer (some ⟨w.heap.size, 0, none⟩)) rfl (by kernel_rfl) (by kernel_rfl) (by kernel_rfl) (fun c a w h => hKp c a _ _ w h) (Or.inl ⟨by kernel_rfl, fun w hSw => by dsimp only at hSw; obtain ⟨-, g0, g1, g2, g3, g4, g5⟩ := hSw; go_simp⟩) (by assumption) ?_
      simp only [Act.put, List.getElem_toArray, List.getElem_cons_zero, List.setIfInBounds_toArray, List.set_cons_zero, List.set_cons_succ]
      refine wpAnyH_take (i := 1) (v := .string l.l) rfl (by kernel_rfl) (by kernel_rfl) (by kernel_rfl) (fun c a w h => hKp c a _ _ w h) (Or.inl ⟨by kernel_rfl, fun w hSw => by dsimp only at hSw; obtain ⟨-, g0, g1, g2, g3, g4, g5⟩ := hSw; go_simp⟩) (by assumption) ?_
      simp only [Act.put, List.getElem_toArray, List.getElem_cons_zero, List.getElem_cons_succ, List.setIfInBounds_toArray, List.set_cons_zero, List.set_cons_succ]
      refine wpAnyH_take (i := 3) (v := .pointer (some ⟨w.heap.size, 1, none⟩)) rfl (by kernel_rfl) (by kernel_rfl) (by kernel_rfl) (fun c a w h => hKp c a _ _ w h) (Or.inl ⟨by kernel_rfl, fun w hSw => by dsimp only at hSw; obtain ⟨-, g0, g1, g2, g3, g4, g5⟩ := hSw; go_simp⟩) (by assumption) ?_
      simp only [Act.put, List.getElem_toArray, List.getElem_cons_zero, List.getElem_cons_succ, List.setIfInBounds_toArray, List.set_cons_zero, List.set_cons_succ]
      refine wpAnyH_take (i := 4) (v := .string l.s) rfl (by kernel_rfl) (by kernel_rfl) (by kernel_rfl) (fun c a w h => hKp c a _ _ w h) (Or.inl ⟨by kernel_rfl, fun w hSw => by dsimp only at hSw; obtain ⟨-, g0, g1, g2, g3, g4, g5⟩ := hSw; go_simp⟩) (by assumption) ?_
      simp only [Act.put, List.getElem_toArray, List.getElem_cons_zero, List.getElem_cons_succ, List.setIfInBounds_toArray, List.set_cons_zero, List.set_cons_succ]
      refine wpAnyH_take (i := 6) (v := .pointer (some ⟨w.heap.size, 2, none⟩)) rfl (by kernel_rfl) (by kernel_rfl) (by kernel_rfl) (fun c a w h => hKp c a _ _ w h) (Or.inl ⟨by kernel_rfl, fun w hSw => by dsimp only at hSw; obtain ⟨-, g0, g1, g2, g3, g4, g5⟩ := hSw; go_simp⟩) (by assumption) ?_
      simp only [Act.put, List.getElem_toArray, List.getElem_cons_zero, List.getElem_cons_succ, List.setIfInBounds_toArray, List.set_cons_zero, List.set_cons_succ]
      refine wpAnyH_take (i := 7) (v := .string l.r) rfl (by kernel_rfl) (by kernel_rfl) (by kernel_rfl) (fun c a w h => hKp c a _ _ w h) (Or.inl ⟨by kernel_rfl, fun w hSw => by dsimp only at hSw; obtain ⟨-, g0, g1, g2, g3, g4, g5⟩ := hSw; go_simp⟩) (by assumption) ?_
      simp only [Act.put, List.getElem_toArray, List.getElem_cons_zero, List.getElem_cons_succ, List.setIfInBounds_toArray, List.set_cons_zero, List.set_cons_succ]
      refine wpAnyH_take (i := 9) (v := .pointer (some ⟨w.heap.size, 3, none⟩)) rfl (by kernel_rfl) (by kernel_rfl) (by kernel_rfl) (fun c a w h => hKp c a _ _ w h) (Or.inl ⟨by kernel_rfl, fun w hSw => by dsimp only at hSw; obtain ⟨-, g0, g1, g2, g3, g4, g5⟩ := hSw; go_simp⟩) (by assumption) ?_
      simp only [Act.put, List.getElem_toArray, List.getElem_cons_zero, List.getElem_cons_succ, List.setIfInBounds_toArray, List.set_cons_zero, List.set_cons_succ]
      refine wpAnyH_take (i := 10) (v := .string l.tl) rfl (by kernel_rfl) (by kernel_rfl) (by kernel_rfl) (fun c a w h => hKp c a _ _ w h) (Or.inl ⟨by kernel_rfl, fun w hSw => by dsimp only at hSw; obtain ⟨-, g0, g1, g2, g3, g4, g5⟩ := hSw; go_simp⟩) (by assumption) ?_
      simp only [Act.put, List.getElem_toArray, List.getElem_cons_zero, List.getElem_cons_succ, List.setIfInBounds_toArray, List.set_cons_zero, List.set_cons_succ]
      refine wpAnyH_take (i := 12) (v := .pointer (some ⟨w.heap.size, 4, none⟩)) rfl (by kernel_rfl) (by kernel_rfl) (by kernel_rfl) (fun c a w h => hKp c a _ _ w h) (Or.inl ⟨by kernel_rfl, fun w hSw => by dsimp only at hSw; obtain ⟨-, g0, g1, g2, g3, g4, g5⟩ := hSw; go_simp⟩) (by assumption) ?_
      simp only [Act.put, List.getElem_toArray, List.getElem_cons_zero, List.getElem_cons_succ, List.setIfInBounds_toArray, List.set_cons_zero, List.set_cons_succ]
      refine wpAnyH_take (i := 13) (v := .string l.ts) rfl (by kernel_rfl) (by kernel_rfl) (by kernel_rfl) (fun c a w h => hKp c a _ _ w h) (Or.inl ⟨by kernel_rfl, fun w hSw => by dsimp only at hSw; obtain ⟨-, g0, g1, g2, g3, g4, g5⟩ := hSw; go_simp⟩) (by assumption) ?_
      simp only [Act.put, List.getElem_toArray, List.getElem_cons_zero, List.getElem_cons_succ, List.setIfInBounds_toArray, List.set_cons_zero, List.set_cons_succ]
      refine wpAnyH_take (i := 15) (v := .pointer (some ⟨w.heap.size, 5, none⟩)) rfl (by kernel_rfl) (by kernel_rfl) (by kernel_rfl) (fun c a w h => hKp c a _ _ w h) (Or.inl ⟨by kernel_rfl, fun w hSw => by dsimp only at hSw; obtain ⟨-, g0, g1, g2, g3, g4, g5⟩ := hSw; go_simp⟩) (by assumption) ?_
      simp only [Act.put, List.getElem_toArray, List.getElem_cons_zero, List.getElem_cons_succ, List.setIfInBounds_toArray, List.set_cons_zero, List.set_cons_succ]
      refine wpAnyH_take (i := 16) (v := .string l.tr) rfl (by kernel_rfl) (by kernel_rfl) (by kernel_rfl) (fun c a w h => hKp c a _ _ w h) (Or.inl ⟨by kernel_rfl, fun w hSw => by dsimp only at hSw; obtain ⟨-, g0, g1, g2, g3, g4, g5⟩ := hSw; go_simp⟩) (by assumption) ?_
      simp only [Act.put, List.getElem_toArray, List.getElem_cons_zero, List.getElem_cons_succ, List.setIfInBounds_toArray, List.set_cons_zero, List.set_cons_succ]
      refine wpAnyH_ready (rs := [2, 19]) (by kernel_rfl) (by simp) ?_
      refine AllReadyH.cons rfl (fun Kx hKx => ?_) (AllReadyH.cons rfl (fun Kx hKx => ?_) AllReadyH.nil)
      focus ((try rw [if_pos (by kernel_rfl)]); go_simp; refine (HSl.out _).mono ?_; rintro e w5 ⟨rfl, rfl⟩; refine hKx.out _ _ (HC.out _ (Below.drew (Below.refl _ _))) (fun hHeld => ?_); clear hKx Kx; (try simp only [Act.put, List.getElem_toArray, List.getElem_cons_zero, List.getElem_cons_succ, List.setIfInBounds_toArray, List.set_cons_zero, List.set_cons_succ]))
      rotate_left 1
      focus ((try rw [if_pos (by kernel_rfl)]); go_simp; refine hKx.out _ _ (HC.out _ ((Below.drew (Below.refl _ _)).alloc (Nat.le_refl _) _)) (fun hHeld => ?_); clear hKx Kx; (try simp only [Act.put, List.getElem_toArray, List.getElem_cons_zero, List.getElem_cons_succ, List.setIfInBounds_toArray, List.set_cons_zero, List.set_cons_succ]))
      all_goals try (refine wpAnyH_ready (rs := [2]) (by kernel_rfl) (by simp) ?_; refine AllReadyH.cons rfl (fun Kx hKx => ?_) AllReadyH.nil; (try rw [if_pos (by kernel_rfl)]); go_simp; refine (HSl.out _).mono ?_; rintro e w5 ⟨rfl, rfl⟩; refine hKx.out _ _ (HC.out _ ((Below.drew (Below.refl _ _)).alloc (Nat.le_refl _) _)) (fun hHeld => ?_); clear hKx Kx; (try simp only [Act.put, List.getElem_toArray, List.getElem_cons_zero, List.getElem_cons_succ, List.setIfInBounds_toArray, List.set_cons_zero, List.set_cons_succ]))
      rotate_right 1
      refine wpAnyH_ready (rs := [5, 19]) (by kernel_rfl) (by simp) ?_
      refine AllReadyH.cons rfl (fun Kx hKx => ?_) (AllReadyH.cons rfl (fun Kx hKx => ?_) AllReadyH.nil)
      focus ((try rw [if_pos (by kernel_rfl)]); go_simp; refine (HSs.out _).mono ?_; rintro e w5 ⟨rfl, rfl⟩; refine hKx.out _ _ (HC.out _ (Below.drew (Below.refl _ _))) (fun hHeld => ?_); clear hKx Kx; (try simp only [Act.put, List.getElem_toArray, List.getElem_cons_zero, List.getElem_cons_succ, List.setIfInBounds_toArray, List.set_cons_zero, List.set_cons_succ]))
      rotate_left 1
      focus ((try rw [if_pos (by kernel_rfl)]); go_simp; refine hKx.out _ _ (HC.out _ ((Below.drew (Below.refl _ _)).alloc (Nat.le_refl _) _)) (fun hHeld => ?_); clear hKx Kx; (try simp only [Act.put, List.getElem_toArray, List.getElem_cons_zero, List.getElem_cons_succ, List.setIfInBounds_toArray, List.set_cons_zero, List.set_cons_succ]))
      all_goals try (refine wpAnyH_ready (rs := [5]) (by kernel_rfl) (by simp) ?_; refine AllReadyH.cons rfl (fun Kx hKx => ?_) AllReadyH.nil; (try rw [if_pos (by kernel_rfl)]); go_simp; refine (HSs.out _).mono ?_; rintro e w5 ⟨rfl, rfl⟩; refine hKx.out _ _ (HC.out _ ((Below.drew (Below.refl _ _)).alloc (Nat.le_refl _) _)) (fun hHeld => ?_); clear hKx Kx; (try simp only [Act.put, List.getElem_toArray, List.getElem_cons_zero, List.getElem_cons_succ, List.setIfInBounds_toArray, List.set_cons_zero, List.set_cons_succ]))
      rotate_right 1
      refine wpAnyH_ready (rs := [8, 19]) (by kernel_rfl) (by simp) ?_
      refine AllReadyH.cons rfl (fun Kx hKx => ?_) (AllReadyH.cons rfl (fun Kx hKx => ?_) AllReadyH.nil)
      focus ((try rw [if_pos (by kernel_rfl)]); go_simp; refine (HSr.out _).mono ?_; rintro e w5 ⟨rfl, rfl⟩; refine hKx.out _ _ (HC.out _ (Below.drew (Below.refl _ _))) (fun hHeld => ?_); clear hKx Kx; (try simp only [Act.put, List.getElem_toArray, List.getElem_cons_zero, List.getElem_cons_succ, List.setIfInBounds_toArray, List.set_cons_zero, List.set_cons_succ]))
      rotate_left 1
      focus ((try rw [if_pos (by kernel_rfl)]); go_simp; refine hKx.out _ _ (HC.out _ ((Below.drew (Below.refl _ _)).alloc (Nat.le_refl _) _)) (fun hHeld => ?_); clear hKx Kx; (try simp only [Act.put, List.getElem_toArray, List.getElem_cons_zero, List.getElem_cons_succ, List.setIfInBounds_toArray, List.set_cons_zero, List.set_cons_succ]))
      all_goals try (refine wpAnyH_ready (rs := [8]) (by kernel_rfl) (by simp) ?_; refine AllReadyH.cons rfl (fun Kx hKx => ?_) AllReadyH.nil; (try rw [if_pos (by kernel_rfl)]); go_simp; refine (HSr.out _).mono ?_; rintro e w5 ⟨rfl, rfl⟩; refine hKx.out _ _ (HC.out _ ((Below.drew (Below.refl _ _)).alloc (Nat.le_refl _) _)) (fun hHeld => ?_); clear hKx Kx; (try simp only [Act.put, List.getElem_toArray, List.getElem_cons_zero, List.getElem_cons_succ, List.setIfInBounds_toArray, List.set_cons_zero, List.set_cons_succ]))
      rotate_right 1
      refine wpAnyH_ready (rs := [11, 19]) (by kernel_rfl) (by simp) ?_
      refine AllReadyH.cons rfl (fun Kx hKx => ?_) (AllReadyH.cons rfl (fun Kx hKx => ?_) AllReadyH.nil)
      focus ((try rw [if_pos (by kernel_rfl)]); go_simp; refine (HStl.out _).mono ?_; rintro e w5 ⟨rfl, rfl⟩; refine hKx.out _ _ (HC.out _ (Below.drew (Below.refl _ _))) (fun hHeld => ?_); clear hKx Kx; (try simp only [Act.put, List.getElem_toArray, List.getElem_cons_zero, List.getElem_cons_succ, List.setIfInBounds_toArray, List.set_cons_zero, List.set_cons_succ]))
      rotate_left 1
      focus ((try rw [if_pos (by kernel_rfl)]); go_simp; refine hKx.out _ _ (HC.out _ ((Below.drew (Below.refl _ _)).alloc (Nat.le_refl _) _)) (fun hHeld => ?_); clear hKx Kx; (try simp only [Act.put, List.getElem_toArray, List.getElem_cons_zero, List.getElem_cons_succ, List.setIfInBounds_toArray, List.set_cons_zero, List.set_cons_succ]))
      all_goals try (refine wpAnyH_ready (rs := [11]) (by kernel_rfl) (by simp) ?_; refine AllReadyH.cons rfl (fun Kx hKx => ?_) AllReadyH.nil; (try rw [if_pos (by kernel_rfl)]); go_simp; refine (HStl.out _).mono ?_; rintro e w5 ⟨rfl, rfl⟩; refine hKx.out _ _ (HC.out _ ((Below.drew (Below.refl _ _)).alloc (Nat.le_refl _) _)) (fun hHeld => ?_); clear hKx Kx; (try simp only [Act.put, List.getElem_toArray, List.getElem_cons_zero, List.getElem_cons_succ, List.setIfInBounds_toArray, List.set_cons_zero, List.set_cons_succ]))
      rotate_right 1
      refine wpAnyH_ready (rs := [14, 19]) (by kernel_rfl) (by simp) ?_
      refine AllReadyH.cons rfl (fun Kx hKx => ?_) (AllReadyH.cons rfl (fun Kx hKx => ?_) AllReadyH.nil)
      focus ((try rw [if_pos (by kernel_rfl)]); go_simp; refine (HSts.out _).mono ?_; rintro e w5 ⟨rfl, rfl⟩; refine hKx.out _ _ (HC.out _ (Below.drew (Below.refl _ _))) (fun hHeld => ?_); clear hKx Kx; (try simp only [Act.put, List.getElem_toArray, List.getElem_cons_zero, List.getElem_cons_succ, List.setIfInBounds_toArray, List.set_cons_zero, List.set_cons_succ]))
      rotate_left 1
      focus ((try rw [if_pos (by kernel_rfl)]); go_simp; refine hKx.out _ _ (HC.out _ ((Below.drew (Below.refl _ _)).alloc (Nat.le_refl _) _)) (fun hHeld => ?_); clear hKx Kx; (try simp only [Act.put, List.getElem_toArray, List.getElem_cons_zero, List.getElem_cons_succ, List.setIfInBounds_toArray, List.set_cons_zero, List.set_cons_succ]))
      all_goals try (refine wpAnyH_ready (rs := [14]) (by kernel_rfl) (by simp) ?_; refine AllReadyH.cons rfl (fun Kx hKx => ?_) AllReadyH.nil; (try rw [if_pos (by kernel_rfl)]); go_simp; refine (HSts.out _).mono ?_; rintro e w5 ⟨rfl, rfl⟩; refine hKx.out _ _ (HC.out _ ((Below.drew (Below.refl _ _)).alloc (Nat.le_refl _) _)) (fun hHeld => ?_); clear hKx Kx; (try simp only [Act.put, List.getElem_toArray, List.getElem_cons_zero, List.getElem_cons_succ, List.setIfInBounds_toArray, List.set_cons_zero, List.set_cons_succ]))
      rotate_right 1
      refine wpAnyH_ready (rs := [17, 19]) (by kernel_rfl) (by simp) ?_
      refine AllReadyH.cons rfl (fun Kx hKx => ?_) (AllReadyH.cons rfl (fun Kx hKx => ?_) AllReadyH.nil)
      focus ((try rw [if_pos (by kernel_rfl)]); go_simp; refine (HStr.out _).mono ?_; rintro e w5 ⟨rfl, rfl⟩; refine hKx.out _ _ (HC.out _ (Below.drew (Below.refl _ _))) (fun hHeld => ?_); clear hKx Kx; (try simp only [Act.put, List.getElem_toArray, List.getElem_cons_zero, List.getElem_cons_succ, List.setIfInBounds_toArray, List.set_cons_zero, List.set_cons_succ]))
      rotate_left 1
      focus ((try rw [if_pos (by kernel_rfl)]); go_simp; refine hKx.out _ _ (HC.out _ ((Below.drew (Below.refl _ _)).alloc (Nat.le_refl _) _)) (fun hHeld => ?_); clear hKx Kx; (try simp only [Act.put, List.getElem_toArray, List.getElem_cons_zero, List.getElem_cons_succ, List.setIfInBounds_toArray, List.set_cons_zero, List.set_cons_succ]))
      all_goals try (refine wpAnyH_ready (rs := [17]) (by kernel_rfl) (by simp) ?_; refine AllReadyH.cons rfl (fun Kx hKx => ?_) AllReadyH.nil; (try rw [if_pos (by kernel_rfl)]); go_simp; refine (HStr.out _).mono ?_; rintro e w5 ⟨rfl, rfl⟩; refine hKx.out _ _ (HC.out _ ((Below.drew (Below.refl _ _)).alloc (Nat.le_refl _) _)) (fun hHeld => ?_); clear hKx Kx; (try simp only [Act.put, List.getElem_toArray, List.getElem_cons_zero, List.getElem_cons_succ, List.setIfInBounds_toArray, List.set_cons_zero, List.set_cons_succ]))
      rotate_right 1
      all_goals (refine wpAnyH_take (i := 18) (v := .agg #[.string (shZ l.l), .string (shZ l.s), .string (shZ l.r), .string (shZ l.tl), .string (shZ l.ts), .string (shZ l.tr)]) rfl (by kernel_rfl) (by kernel_rfl) (by kernel_rfl) (fun c a w h => hKp c a _ _ w h) (Or.inl ⟨by kernel_rfl, fun w hSw => by go_simp⟩) (by assumption) ?_; simp only [Act.put, List.getElem_toArray, List.getElem_cons_zero, List.getElem_cons_succ, List.setIfInBounds_toArray, List.set_cons_zero, List.set_cons_succ])
      refine wpAnyH_ready (rs := [19]) (by kernel_rfl) (by simp) ?_
      refine AllReadyH.cons rfl (fun Kx hKx => ?_) AllReadyH.nil
      focus ((try rw [if_pos (by kernel_rfl)]); go_simp; refine hKx.out _ _ (HC.out _ ((Below.drew (Below.refl _ _)).alloc (Nat.le_refl _) _)) (fun hHeld => ?_); clear hKx Kx; (try simp only [Act.put, List.getElem_toArray, List.getElem_cons_zero, List.getElem_cons_succ, List.setIfInBounds_toArray, List.set_cons_zero, List.set_cons_succ]))
      all_goals (refine wpAnyH_ready (rs := [20]) (by kernel_rfl) (by simp) ?_; refine AllReadyH.cons rfl (fun Kx hKx => ?_) AllReadyH.nil; (try rw [if_pos (by kernel_rfl)]); go_simp; refine hKx.out _ _ (HC.out _ ((Below.drew (Below.refl _ _)).alloc (Nat.le_refl _) _)) (fun hHeld => ?_); clear hKx Kx; (try simp only [Act.put, List.getElem_toArray, List.getElem_cons_zero, List.getElem_cons_succ, List.setIfInBounds_toArray, List.set_cons_zero, List.set_cons_succ]); refine wpAnyH_done (by kernel_rfl) ?_ _; exact hfin _ ⟨hHeld.1, World.alloc_heap_new _ _⟩)
    rintro W3 ⟨hb3, hN3⟩
    go_wp2_with fail
    go_meet
    case rel => exact ⟨rfl, hN3, hb3⟩
  case rest =>
    obtain ⟨rfl, hX3, hb23⟩ := hcut
    obtain ⟨w3, rfl⟩ : ∃ x, x = wc := ⟨_, rfl⟩
    have hb3 := hb2.trans (hb23.mono hb2.size)
    clear HAW
    obtain ⟨c0, c1, c2, c3, c4, c5, c6, c7, c8⟩ := HR.out _ hb3
    go_upto_region 4 with fail
    obtain ⟨W4, hW4⟩ : ∃ W4, w3.alloc (.cells #[.int .i64 r.lv, .int .i64 r.co, .bool r.ow, .string ⟨#[]⟩, .string ⟨#[]⟩, .string ⟨#[]⟩, .string ⟨#[]⟩, .string ⟨#[]⟩, .string ⟨#[]⟩] 26) = W4 := ⟨_, rfl⟩
    have hY4 : W4.heap[w3.heap.size]? = some (.cells (upRl r 0) 26 (0, 0)) := by rw [← hW4]; exact World.alloc_heap_new _ _
    have hb4 : Below W1.heap.size W1 W4 := by rw [← hW4]; exact hb3.alloc hb3.size _
    have hX4 : W4.heap[w2.heap.size]? = some (.cells #[.string (shZ l.l), .string (shZ l.s), .string (shZ l.r), .string (shZ l.tl), .string (shZ l.ts), .string (shZ l.tr)] 23 (0, 0)) := by rw [← hW4]; exact (Below.heap_alloc _ _ _ (lt_of_block hX3)).trans hX3
    have hXY := lt_of_block hX3
    have hYl := lt_of_block hY4
    have hB3 : W1.heap.size ≤ w3.heap.size := hb3.size
    have hB2 : W1.heap.size ≤ w2.heap.size := hb2.size
    rw [hW4]
    clear hW4 hX3 hb23 hb3 c0 c1 c2 c3 c4 c5 c6 c7 c8 hb2
    generalize w3.heap.size = Y at *
    generalize w2.heap.size = X at *
    have HB4 := Lib.hid hb4
    have HX4 := Lib.hid hX4
    have HY4 := Lib.hid hY4
    clear hb4 hX4 hY4
    go_wp2_with fail
    go_loopw [10] (fun i wr => ∃ k : Nat, k ≤ 3 ∧ i = .int .i64 (k : Int) ∧ wr.heap[Y]? = some (.cells (upRl r k) 26 (0, 0)) ∧ W4.grownBy wr (some Y)) (fun i _ => 3 - (intOf i).toNat)
    case atStart => exact ⟨0, by decide, rfl, HY4.out, gr_reflZ⟩
    case round =>
      obtain ⟨k, hk, rfl, hYk, hgr⟩ := hrel
      have hbw : Below W1.heap.size W1 wr := HB4.out.grown hgr HB4.out.size (fun b e => by have := Option.some.inj e; omega)
      rcases (show k = 0 ∨ k = 1 ∨ k = 2 ∨ k = 3 by omega) with rfl | rfl | rfl | rfl
      · obtain ⟨c0, c1, c2, c3, c4, c5, c6, c7, c8⟩ := HR.out _ hbw
        have hYl2 : wr.heap[Y]? = some (.cells #[.int .i64 r.lv, .int .i64 r.co, .bool r.ow, .string ⟨#[]⟩, .string ⟨#[]⟩, .string ⟨#[]⟩, .string ⟨#[]⟩, .string ⟨#[]⟩, .string ⟨#[]⟩] 26 (0, 0)) := hYk
        obtain ⟨y0, y1, y2, y3, y4, y5, y6, y7, y8⟩ := cells9Q hYl2
        have f0 := frozenY hYl2 3
        have HYl2 := Lib.hid hYl2
        have HGr := Lib.hid hgr
        clear hYk hYl2 hgr
        go_upto_region 8 with (go_at_call 15; (with_reducible refine (HSd0.out _).mono ?_); rintro e w5 ⟨rfl, rfl⟩)
        obtain ⟨V1, hV1⟩ : ∃ V1, w5.setCell ⟨Y, 3, none⟩ (.string (shZ r.d0)) = V1 := ⟨_, rfl⟩
        have hYv : V1.heap[Y]? = some (.cells #[.int .i64 r.lv, .int .i64 r.co, .bool r.ow, .string (shZ r.d0), .string ⟨#[]⟩, .string ⟨#[]⟩, .string ⟨#[]⟩, .string ⟨#[]⟩, .string ⟨#[]⟩] 26 (0, 0)) := by rw [← hV1]; exact setY HYl2.out (.string (shZ r.d0))
        have hgv : W4.grownBy V1 (some Y) := by rw [← hV1]; exact gr_setZ HGr.out _ _
        have hbv : Below W1.heap.size W1 V1 := HB4.out.grown hgv HB4.out.size (fun b e => by have := Option.some.inj e; omega)
        rw [hV1]
        clear hV1 y0 y1 y2 y3 y4 y5 y6 y7 y8 f0 c0 c1 c2 c3 c4 c5 c6 c7 c8
        obtain ⟨c0, c1, c2, c3, c4, c5, c6, c7, c8⟩ := HR.out _ hbv
        obtain ⟨y0, y1, y2, y3, y4, y5, y6, y7, y8⟩ := cells9Q hYv
        have f0 := frozenY hYv 6
        have HYv := Lib.hid hYv
        have HGv := Lib.hid hgv
        clear hYv hgv hbv
        go_wp2_with (go_at_call 15; (with_reducible refine (HSs0.out _).mono ?_); rintro e w6 ⟨rfl, rfl⟩)
        go_roundw
        case rel => exact ⟨0 + 1, by decide, by go_num, setY HYv.out (.string (shZ r.s0)), gr_setZ HGv.out _ _⟩
        case measure => simp [intOf]
      · obtain ⟨c0, c1, c2, c3, c4, c5, c6, c7, c8⟩ := HR.out _ hbw
        have hYl2 : wr.heap[Y]? = some (.cells #[.int .i64 r.lv, .int .i64 r.co, .bool r.ow, .string (shZ r.d0), .string ⟨#[]⟩, .string ⟨#[]⟩, .string (shZ r.s0), .string ⟨#[]⟩, .string ⟨#[]⟩] 26 (0, 0)) := hYk
        obtain ⟨y0, y1, y2, y3, y4, y5, y6, y7, y8⟩ := cells9Q hYl2
        have f0 := frozenY hYl2 4
        have HYl2 := Lib.hid hYl2
        have HGr := Lib.hid hgr
        clear hYk hYl2 hgr
        go_upto_region 8 with (go_at_call 15; (with_reducible refine (HSd1.out _).mono ?_); rintro e w5 ⟨rfl, rfl⟩)
        obtain ⟨V1, hV1⟩ : ∃ V1, w5.setCell ⟨Y, 4, none⟩ (.string (shZ r.d1)) = V1 := ⟨_, rfl⟩
        have hYv : V1.heap[Y]? = some (.cells #[.int .i64 r.lv, .int .i64 r.co, .bool r.ow, .string (shZ r.d0), .string (shZ r.d1), .string ⟨#[]⟩, .string (shZ r.s0), .string ⟨#[]⟩, .string ⟨#[]⟩] 26 (0, 0)) := by rw [← hV1]; exact setY HYl2.out (.string (shZ r.d1))
        have hgv : W4.grownBy V1 (some Y) := by rw [← hV1]; exact gr_setZ HGr.out _ _
        have hbv : Below W1.heap.size W1 V1 := HB4.out.grown hgv HB4.out.size (fun b e => by have := Option.some.inj e; omega)
        rw [hV1]
        clear hV1 y0 y1 y2 y3 y4 y5 y6 y7 y8 f0 c0 c1 c2 c3 c4 c5 c6 c7 c8
        obtain ⟨c0, c1, c2, c3, c4, c5, c6, c7, c8⟩ := HR.out _ hbv
        obtain ⟨y0, y1, y2, y3, y4, y5, y6, y7, y8⟩ := cells9Q hYv
        have f0 := frozenY hYv 7
        have HYv := Lib.hid hYv
        have HGv := Lib.hid hgv
        clear hYv hgv hbv
        go_wp2_with (go_at_call 15; (with_reducible refine (HSs1.out _).mono ?_); rintro e w6 ⟨rfl, rfl⟩)
        go_roundw
        case rel => exact ⟨1 + 1, by decide, by go_num, setY HYv.out (.string (shZ r.s1)), gr_setZ HGv.out _ _⟩
        case measure => simp [intOf]
      · obtain ⟨c0, c1, c2, c3, c4, c5, c6, c7, c8⟩ := HR.out _ hbw
        have hYl2 : wr.heap[Y]? = some (.cells #[.int .i64 r.lv, .int .i64 r.co, .bool r.ow, .string (shZ r.d0), .string (shZ r.d1), .string ⟨#[]⟩, .string (shZ r.s0), .string (shZ r.s1), .string ⟨#[]⟩] 26 (0, 0)) := hYk
        obtain ⟨y0, y1, y2, y3, y4, y5, y6, y7, y8⟩ := cells9Q hYl2
        have f0 := frozenY hYl2 5
        have HYl2 := Lib.hid hYl2
        have HGr := Lib.hid hgr
        clear hYk hYl2 hgr
        go_upto_region 8 with (go_at_call 15; (with_reducible refine (HSd2.out _).mono ?_); rintro e w5 ⟨rfl, rfl⟩)
        obtain ⟨V1, hV1⟩ : ∃ V1, w5.setCell ⟨Y, 5, none⟩ (.string (shZ r.d2)) = V1 := ⟨_, rfl⟩
        have hYv : V1.heap[Y]? = some (.cells #[.int .i64 r.lv, .int .i64 r.co, .bool r.ow, .string (shZ r.d0), .string (shZ r.d1), .string (shZ r.d2), .string (shZ r.s0), .string (shZ r.s1), .string ⟨#[]⟩] 26 (0, 0)) := by rw [← hV1]; exact setY HYl2.out (.string (shZ r.d2))
        have hgv : W4.grownBy V1 (some Y) := by rw [← hV1]; exact gr_setZ HGr.out _ _
        have hbv : Below W1.heap.size W1 V1 := HB4.out.grown hgv HB4.out.size (fun b e => by have := Option.some.inj e; omega)
        rw [hV1]
        clear hV1 y0 y1 y2 y3 y4 y5 y6 y7 y8 f0 c0 c1 c2 c3 c4 c5 c6 c7 c8
        obtain ⟨c0, c1, c2, c3, c4, c5, c6, c7, c8⟩ := HR.out _ hbv
        obtain ⟨y0, y1, y2, y3, y4, y5, y6, y7, y8⟩ := cells9Q hYv
        have f0 := frozenY hYv 8
        have HYv := Lib.hid hYv
        have HGv := Lib.hid hgv
        clear hYv hgv hbv
        go_wp2_with (go_at_call 15; (with_reducible refine (HSs2.out _).mono ?_); rintro e w6 ⟨rfl, rfl⟩)
        go_roundw
        case rel => exact ⟨2 + 1, by decide, by go_num, setY HYv.out (.string (shZ r.s2)), gr_setZ HGv.out _ _⟩
        case measure => simp [intOf]
      · obtain ⟨y0, y1, y2, y3, y4, y5, y6, y7, y8⟩ := cells9Q (show wr.heap[Y]? = some (.cells #[.int .i64 r.lv, .int .i64 r.co, .bool r.ow, .string (shZ r.d0), .string (shZ r.d1), .string (shZ r.d2), .string (shZ r.s0), .string (shZ r.s1), .string (shZ r.s2)] 26 (0, 0)) from hYk)
        have HYk := Lib.hid (show wr.heap[Y]? = some (.cells #[.int .i64 r.lv, .int .i64 r.co, .bool r.ow, .string (shZ r.d0), .string (shZ r.d1), .string (shZ r.d2), .string (shZ r.s0), .string (shZ r.s1), .string (shZ r.s2)] 26 (0, 0)) from hYk)
        have HGr := Lib.hid hgr
        have hYr := lt_of_block hYk
        clear hYk hgr
        obtain ⟨c0, c1, -⟩ := HR.out _ hbw
        go_upto_region 10 with fail
        obtain ⟨W9, hW9⟩ : ∃ W9, wr.alloc (.cells #[.int .i64 r.lv, .int .i64 r.co, .bool r.ow, .string (shZ r.d0), .string (shZ r.d1), .string (shZ r.d2), .string (shZ r.s0), .string (shZ r.s1), .string (shZ r.s2)] 26) = W9 := ⟨_, rfl⟩
        have hZ9 : W9.heap[wr.heap.size]? = some (.cells #[.int .i64 r.lv, .int .i64 r.co, .bool r.ow, .string (shZ r.d0), .string (shZ r.d1), .string (shZ r.d2), .string (shZ r.s0), .string (shZ r.s1), .string (shZ r.s2)] 26 (0, 0)) := by rw [← hW9]; exact World.alloc_heap_new _ _
        have hbA : Below wr.heap.size wr W9 := by rw [← hW9]; exact (Below.refl _ _).alloc (Nat.le_refl _) _
        have hb9 := hbw.trans (hbA.mono hbw.size)
        have hY9 := (hbA.block _ hYr).trans HYk.out
        have hX9 := (hbA.block X (by have := HGr.out.size; omega)).trans ((HGr.out.block X (by omega) (fun e => by have := Option.some.inj e; omega)).trans HX4.out)
        have hXr : X < wr.heap.size := by have := HGr.out.size; omega
        rw [hW9]
        clear hW9 y0 y1 y2 y3 y4 y5 y6 y7 y8 c0 c1
        obtain ⟨c0, c1, -⟩ := HR.out _ hb9
        obtain ⟨z0, z1, -⟩ := cells9Q hZ9
        have f0 := frozenY hZ9 0
        have f1 := frozenY hZ9 1
        have hbz := hbA.size
        have hBr : W1.heap.size ≤ wr.heap.size := hbw.size
        generalize wr.heap.size = Z at *
        obtain ⟨p, hp⟩ : ∃ p, restV r.lv 5 = p := ⟨_, rfl⟩
        obtain ⟨q, hq⟩ : ∃ q, restV r.co 103 = q := ⟨_, rfl⟩
        have hp5 : p < 5 := by rw [← hp]; exact restV_lt _ _ (by decide)
        have hq103 : q < 103 := by rw [← hq]; exact restV_lt _ _ (by decide)
        have HP5 := Lib.hid (fun w' => show Calls Tryz.prog 16 #[.int .i64 r.lv, .int .i64 5] w' fun e w'' => e = .returned (.int .i64 (p : Int)) ∧ w'' = w' from by rw [← hp]; exact rest13E_any r.lv 5 w' (by decide) (by decide))
        have HQ3 := Lib.hid (fun w' => show Calls Tryz.prog 16 #[.int .i64 r.co, .int .i64 103] w' fun e w'' => e = .returned (.int .i64 (q : Int)) ∧ w'' = w' from by rw [← hq]; exact rest13E_any r.co 103 w' (by decide) (by decide))
        clear hp hq hbA HYk HGr
        go_upto_region 11 with (go_at_call 16; (with_reducible refine (HP5.out _).mono ?_); rintro e w5 ⟨rfl, rfl⟩)
        obtain ⟨V1, hV1⟩ : ∃ V1, w5.setCell ⟨Z, 0, none⟩ (.int .i64 (p : Int)) = V1 := ⟨_, rfl⟩
        have hZ1 : V1.heap[Z]? = some (.cells #[.int .i64 (p : Int), .int .i64 r.co, .bool r.ow, .string (shZ r.d0), .string (shZ r.d1), .string (shZ r.d2), .string (shZ r.s0), .string (shZ r.s1), .string (shZ r.s2)] 26 (0, 0)) := by rw [← hV1]; exact setY hZ9 _
        have hY1 : V1.heap[Y]? = some (.cells #[.int .i64 r.lv, .int .i64 r.co, .bool r.ow, .string (shZ r.d0), .string (shZ r.d1), .string (shZ r.d2), .string (shZ r.s0), .string (shZ r.s1), .string (shZ r.s2)] 26 (0, 0)) := by rw [← hV1]; exact (heap_setCellZ (by omega)).trans hY9
        have hX1 : V1.heap[X]? = some (.cells #[.string (shZ l.l), .string (shZ l.s), .string (shZ l.r), .string (shZ l.tl), .string (shZ l.ts), .string (shZ l.tr)] 23 (0, 0)) := by rw [← hV1]; exact (heap_setCellZ (by omega)).trans hX9
        have hbV1 : Below W1.heap.size W1 V1 := by rw [← hV1]; exact hb9.setCell (p := ⟨Z, 0, none⟩) hBr _
        rw [hV1]
        clear hV1 z0 z1 f0 f1 c0 c1 hZ9 hY9 hX9 hb9 hbz
        obtain ⟨c0, c1, -⟩ := HR.out _ hbV1
        obtain ⟨z0, z1, -⟩ := cells9Q hZ1
        have f1 := frozenY hZ1 1
        have hq0 : (0 : Int) ≤ (q : Int) := by omega
        have hq1 : (q : Int) ≤ 102 := by omega
        go_upto_region 12 with (go_at_call 16; (with_reducible refine (HQ3.out _).mono ?_); rintro e w6 ⟨rfl, rfl⟩)
        obtain ⟨V2, hV2⟩ : ∃ V2, w6.setCell ⟨Z, 1, none⟩ (.int .i64 ((q : Int) - 1)) = V2 := ⟨_, rfl⟩
        have hZ2 : V2.heap[Z]? = some (.cells #[.int .i64 (p : Int), .int .i64 ((q : Int) - 1), .bool r.ow, .string (shZ r.d0), .string (shZ r.d1), .string (shZ r.d2), .string (shZ r.s0), .string (shZ r.s1), .string (shZ r.s2)] 26 (0, 0)) := by rw [← hV2]; exact setY hZ1 _
        have hY2 : V2.heap[Y]? = some (.cells #[.int .i64 r.lv, .int .i64 r.co, .bool r.ow, .string (shZ r.d0), .string (shZ r.d1), .string (shZ r.d2), .string (shZ r.s0), .string (shZ r.s1), .string (shZ r.s2)] 26 (0, 0)) := by rw [← hV2]; exact (heap_setCellZ (by omega)).trans hY1
        have hX2 : V2.heap[X]? = some (.cells #[.string (shZ l.l), .string (shZ l.s), .string (shZ l.r), .string (shZ l.tl), .string (shZ l.ts), .string (shZ l.tr)] 23 (0, 0)) := by rw [← hV2]; exact (heap_setCellZ (by omega)).trans hX1
        have hbV2 : Below W1.heap.size W1 V2 := by rw [← hV2]; exact hbV1.setCell (p := ⟨Z, 1, none⟩) hBr _
        rw [hV2]
        clear hV2 z0 z1 f1 c0 c1 hZ1 hY1 hX1 hbV1
        go_cut [12] from 74 to 80 (fun u wx => u = .pointer (some ⟨V2.heap.size, 0, none⟩) ∧ wx.heap[V2.heap.size]? = some (.cells #[.string (shZ l.l), .string (shZ l.r)] 35 (0, 0)) ∧ Below V2.heap.size V2 wx)
        case first =>
          have HC := Lib.hid (fun w' (h : Below V2.heap.size V2 w') => show Below V2.heap.size V2 w' ∧ w'.cell? ⟨w.heap.size, 0, none⟩ = some (.string l.l) ∧ w'.cell? ⟨w.heap.size, 2, none⟩ = some (.string l.r) from ⟨h, (HL.out _ (hbV2.trans (h.mono hbV2.size))).1, (HL.out _ (hbV2.trans (h.mono hbV2.size))).2.2.1⟩)
          refine wp_region_held_drew (S := fun w' => Below V2.heap.size V2 w' ∧ w'.cell? ⟨w.heap.size, 0, none⟩ = some (.string l.l) ∧ w'.cell? ⟨w.heap.size, 2, none⟩ = some (.string l.r)) (by kernel_rfl) (HC.out _ (Below.drew (Below.refl _ _))) (fun hHeld => ?_)
          apply held_shellR (R := fun w' => Below V2.heap.size V2 w' ∧ w'.heap[V2.heap.size]? = some (.cells #[.string (shZ l.l), .string (shZ l.r)] 35 (0, 0)))
          exact fun _ _ d _ _ h => by cases d <;> exact h
          rotate_left 1
          · intro KK hKp hfin
            refine wpAnyH_take (i := 0) (v := .pointer (some ⟨w.heap.size, 0, none⟩)) rfl (by kernel_rfl) (by kernel_rfl) (by kernel_rfl) (fun c a w h => hKp c a _ _ w h) (Or.inl ⟨by kernel_rfl, fun w hSw => by dsimp only at hSw; obtain ⟨-, g0, g1⟩ := hSw; go_simp⟩) (by assumption) ?_
            simp only [Act.put, List.getElem_toArray, List.getElem_cons_zero, List.setIfInBounds_toArray, List.set_cons_zero, List.set_cons_succ]
            refine wpAnyH_take (i := 1) (v := .string l.l) rfl (by kernel_rfl) (by kernel_rfl) (by kernel_rfl) (fun c a w h => hKp c a _ _ w h) (Or.inl ⟨by kernel_rfl, fun w hSw => by dsimp only at hSw; obtain ⟨-, g0, g1⟩ := hSw; go_simp⟩) (by assumption) ?_
            simp only [Act.put, List.getElem_toArray, List.getElem_cons_zero, List.getElem_cons_succ, List.setIfInBounds_toArray, List.set_cons_zero, List.set_cons_succ]
            refine wpAnyH_take (i := 3) (v := .pointer (some ⟨w.heap.size, 2, none⟩)) rfl (by kernel_rfl) (by kernel_rfl) (by kernel_rfl) (fun c a w h => hKp c a _ _ w h) (Or.inl ⟨by kernel_rfl, fun w hSw => by dsimp only at hSw; obtain ⟨-, g0, g1⟩ := hSw; go_simp⟩) (by assumption) ?_
            simp only [Act.put, List.getElem_toArray, List.getElem_cons_zero, List.getElem_cons_succ, List.setIfInBounds_toArray, List.set_cons_zero, List.set_cons_succ]
            refine wpAnyH_take (i := 4) (v := .string l.r) rfl (by kernel_rfl) (by kernel_rfl) (by kernel_rfl) (fun c a w h => hKp c a _ _ w h) (Or.inl ⟨by kernel_rfl, fun w hSw => by dsimp only at hSw; obtain ⟨-, g0, g1⟩ := hSw; go_simp⟩) (by assumption) ?_
            simp only [Act.put, List.getElem_toArray, List.getElem_cons_zero, List.getElem_cons_succ, List.setIfInBounds_toArray, List.set_cons_zero, List.set_cons_succ]
            refine wpAnyH_ready (rs := [2, 7]) (by kernel_rfl) (by simp) ?_
            refine AllReadyH.cons rfl (fun Kx hKx => ?_) (AllReadyH.cons rfl (fun Kx hKx => ?_) AllReadyH.nil)
            focus ((try rw [if_pos (by kernel_rfl)]); go_simp; refine (HSl.out _).mono ?_; rintro e w5 ⟨rfl, rfl⟩; refine hKx.out _ _ (HC.out _ (Below.drew (Below.refl _ _))) (fun hHeld => ?_); clear hKx Kx; (try simp only [Act.put, List.getElem_toArray, List.getElem_cons_zero, List.getElem_cons_succ, List.setIfInBounds_toArray, List.set_cons_zero, List.set_cons_succ]))
            rotate_left 1
            focus ((try rw [if_pos (by kernel_rfl)]); go_simp; refine hKx.out _ _ (HC.out _ ((Below.drew (Below.refl _ _)).alloc (Nat.le_refl _) _)) (fun hHeld => ?_); clear hKx Kx; (try simp only [Act.put, List.getElem_toArray, List.getElem_cons_zero, List.getElem_cons_succ, List.setIfInBounds_toArray, List.set_cons_zero, List.set_cons_succ]))
            all_goals try (refine wpAnyH_ready (rs := [2]) (by kernel_rfl) (by simp) ?_; refine AllReadyH.cons rfl (fun Kx hKx => ?_) AllReadyH.nil; (try rw [if_pos (by kernel_rfl)]); go_simp; refine (HSl.out _).mono ?_; rintro e w5 ⟨rfl, rfl⟩; refine hKx.out _ _ (HC.out _ ((Below.drew (Below.refl _ _)).alloc (Nat.le_refl _) _)) (fun hHeld => ?_); clear hKx Kx; (try simp only [Act.put, List.getElem_toArray, List.getElem_cons_zero, List.getElem_cons_succ, List.setIfInBounds_toArray, List.set_cons_zero, List.set_cons_succ]))
            rotate_right 1
            refine wpAnyH_ready (rs := [5, 7]) (by kernel_rfl) (by simp) ?_
            refine AllReadyH.cons rfl (fun Kx hKx => ?_) (AllReadyH.cons rfl (fun Kx hKx => ?_) AllReadyH.nil)
            focus ((try rw [if_pos (by kernel_rfl)]); go_simp; refine (HSr.out _).mono ?_; rintro e w5 ⟨rfl, rfl⟩; refine hKx.out _ _ (HC.out _ (Below.drew (Below.refl _ _))) (fun hHeld => ?_); clear hKx Kx; (try simp only [Act.put, List.getElem_toArray, List.getElem_cons_zero, List.getElem_cons_succ, List.setIfInBounds_toArray, List.set_cons_zero, List.set_cons_succ]))
            rotate_left 1
            focus ((try rw [if_pos (by kernel_rfl)]); go_simp; refine hKx.out _ _ (HC.out _ ((Below.drew (Below.refl _ _)).alloc (Nat.le_refl _) _)) (fun hHeld => ?_); clear hKx Kx; (try simp only [Act.put, List.getElem_toArray, List.getElem_cons_zero, List.getElem_cons_succ, List.setIfInBounds_toArray, List.set_cons_zero, List.set_cons_succ]))
            all_goals try (refine wpAnyH_ready (rs := [5]) (by kernel_rfl) (by simp) ?_; refine AllReadyH.cons rfl (fun Kx hKx => ?_) AllReadyH.nil; (try rw [if_pos (by kernel_rfl)]); go_simp; refine (HSr.out _).mono ?_; rintro e w5 ⟨rfl, rfl⟩; refine hKx.out _ _ (HC.out _ ((Below.drew (Below.refl _ _)).alloc (Nat.le_refl _) _)) (fun hHeld => ?_); clear hKx Kx; (try simp only [Act.put, List.getElem_toArray, List.getElem_cons_zero, List.getElem_cons_succ, List.setIfInBounds_toArray, List.set_cons_zero, List.set_cons_succ]))
            rotate_right 1
            all_goals (refine wpAnyH_take (i := 6) (v := .agg #[.string (shZ l.l), .string (shZ l.r)]) rfl (by kernel_rfl) (by kernel_rfl) (by kernel_rfl) (fun c a w h => hKp c a _ _ w h) (Or.inl ⟨by kernel_rfl, fun w hSw => by go_simp⟩) (by assumption) ?_; simp only [Act.put, List.getElem_toArray, List.getElem_cons_zero, List.getElem_cons_succ, List.setIfInBounds_toArray, List.set_cons_zero, List.set_cons_succ])
            refine wpAnyH_ready (rs := [7]) (by kernel_rfl) (by simp) ?_
            refine AllReadyH.cons rfl (fun Kx hKx => ?_) AllReadyH.nil
            focus ((try rw [if_pos (by kernel_rfl)]); go_simp; refine hKx.out _ _ (HC.out _ ((Below.drew (Below.refl _ _)).alloc (Nat.le_refl _) _)) (fun hHeld => ?_); clear hKx Kx; (try simp only [Act.put, List.getElem_toArray, List.getElem_cons_zero, List.getElem_cons_succ, List.setIfInBounds_toArray, List.set_cons_zero, List.set_cons_succ]))
            all_goals (refine wpAnyH_ready (rs := [8]) (by kernel_rfl) (by simp) ?_; refine AllReadyH.cons rfl (fun Kx hKx => ?_) AllReadyH.nil; (try rw [if_pos (by kernel_rfl)]); go_simp; refine hKx.out _ _ (HC.out _ ((Below.drew (Below.refl _ _)).alloc (Nat.le_refl _) _)) (fun hHeld => ?_); clear hKx Kx; (try simp only [Act.put, List.getElem_toArray, List.getElem_cons_zero, List.getElem_cons_succ, List.setIfInBounds_toArray, List.set_cons_zero, List.set_cons_succ]); refine wpAnyH_done (by kernel_rfl) ?_ _; exact hfin _ ⟨hHeld.1, World.alloc_heap_new _ _⟩)
          rintro W13 ⟨hb13, hN13⟩
          go_wp2_with fail
          go_meet
          case rel => exact ⟨rfl, hN13, hb13⟩
        case rest =>
          obtain ⟨rfl, hM3, hbM⟩ := hcut
          obtain ⟨wm, rfl⟩ : ∃ x, x = wc := ⟨_, rfl⟩
          have hZ3 := (hbM.block _ (lt_of_block hZ2)).trans hZ2
          have hY3 := (hbM.block _ (lt_of_block hY2)).trans hY2
          have hX3 := (hbM.block _ (lt_of_block hX2)).trans hX2
          have hbm := hbV2.trans (hbM.mono hbV2.size)
          generalize V2.heap.size = M at *
          have HS := Lib.hid (fun w' (h : Below wm.heap.size wm w') => show Below wm.heap.size wm w' ∧ (w'.cell? ⟨X, 0, none⟩ = some (.string (shZ l.l)) ∧ w'.cell? ⟨X, 1, none⟩ = some (.string (shZ l.s)) ∧ w'.cell? ⟨X, 2, none⟩ = some (.string (shZ l.r)) ∧ w'.cell? ⟨X, 3, none⟩ = some (.string (shZ l.tl)) ∧ w'.cell? ⟨X, 4, none⟩ = some (.string (shZ l.ts)) ∧ w'.cell? ⟨X, 5, none⟩ = some (.string (shZ l.tr))) ∧ (w'.cell? ⟨Y, 0, none⟩ = some (.int .i64 r.lv) ∧ w'.cell? ⟨Y, 1, none⟩ = some (.int .i64 r.co) ∧ w'.cell? ⟨Y, 2, none⟩ = some (.bool r.ow) ∧ w'.cell? ⟨Y, 3, none⟩ = some (.string (shZ r.d0)) ∧ w'.cell? ⟨Y, 4, none⟩ = some (.string (shZ r.d1)) ∧ w'.cell? ⟨Y, 5, none⟩ = some (.string (shZ r.d2)) ∧ w'.cell? ⟨Y, 6, none⟩ = some (.string (shZ r.s0)) ∧ w'.cell? ⟨Y, 7, none⟩ = some (.string (shZ r.s1)) ∧ w'.cell? ⟨Y, 8, none⟩ = some (.string (shZ r.s2))) ∧ (w'.cell? ⟨Z, 0, none⟩ = some (.int .i64 (p : Int)) ∧ w'.cell? ⟨Z, 1, none⟩ = some (.int .i64 ((q : Int) - 1)) ∧ w'.cell? ⟨Z, 2, none⟩ = some (.bool r.ow) ∧ w'.cell? ⟨Z, 3, none⟩ = some (.string (shZ r.d0)) ∧ w'.cell? ⟨Z, 4, none⟩ = some (.string (shZ r.d1)) ∧ w'.cell? ⟨Z, 5, none⟩ = some (.string (shZ r.d2)) ∧ w'.cell? ⟨Z, 6, none⟩ = some (.string (shZ r.s0)) ∧ w'.cell? ⟨Z, 7, none⟩ = some (.string (shZ r.s1)) ∧ w'.cell? ⟨Z, 8, none⟩ = some (.string (shZ r.s2))) ∧ (w'.cell? ⟨M, 0, none⟩ = some (.string (shZ l.l)) ∧ w'.cell? ⟨M, 1, none⟩ = some (.string (shZ l.r))) from ⟨h, cells6 ((h.block _ (lt_of_block hX3)).trans hX3), cells9Q ((h.block _ (lt_of_block hY3)).trans hY3), cells9Q ((h.block _ (lt_of_block hZ3)).trans hZ3), cells2Z ((h.block _ (lt_of_block hM3)).trans hM3)⟩)
          have HBM := Lib.hid hbm
          clear hX2 hY2 hZ2 hX3 hY3 hZ3 hM3 hbM hbm hbV2
          obtain ⟨b1, hb1⟩ : ∃ b, rightLk (shLk l) = b := ⟨_, rfl⟩
          obtain ⟨b2, hb2⟩ : ∃ b, rightRl (shRl r) = b := ⟨_, rfl⟩
          obtain ⟨b3, hb3⟩ : ∃ b, rightRl { shRl r with lv := (p : Int), co := (q : Int) - 1 } = b := ⟨_, rfl⟩
          obtain ⟨b4, hb4⟩ : ∃ b, rightMb (shMb l) = b := ⟨_, rfl⟩
          have A1 := onward wm (fun w' => show Calls Tryz.prog 17 #[.agg #[.string (shZ l.l), .string (shZ l.s), .string (shZ l.r), .string (shZ l.tl), .string (shZ l.ts), .string (shZ l.tr)]] w' fun e w'' => e = .returned (.bool b1) ∧ Below w'.heap.size w' w'' from by rw [← hb1]; exact rightLk_any (shLk l) w' (shLk_s l))
          have A2 := onward wm (fun w' => show Calls Tryz.prog 18 #[.agg #[.string (shZ l.l), .string (shZ l.s), .string (shZ l.r), .string (shZ l.tl), .string (shZ l.ts), .string (shZ l.tr)]] w' fun e w'' => e = .returned (.bool b1) ∧ Below w'.heap.size w' w'' from by rw [← hb1]; exact rightLikelyD_any (shLk l) w' (shLk_s l))
          have A3 := onward wm (fun w' => show Calls Tryz.prog 19 #[.agg #[.int .i64 r.lv, .int .i64 r.co, .bool r.ow, .string (shZ r.d0), .string (shZ r.d1), .string (shZ r.d2), .string (shZ r.s0), .string (shZ r.s1), .string (shZ r.s2)]] w' fun e w'' => e = .returned (.bool b2) ∧ Below w'.heap.size w' w'' from by rw [← hb2]; exact rightRl_any (shRl r) w' ⟨hr1, hr2, shRl_s r⟩)
          have A4 := onward wm (fun w' => show Calls Tryz.prog 20 #[.agg #[.int .i64 r.lv, .int .i64 r.co, .bool r.ow, .string (shZ r.d0), .string (shZ r.d1), .string (shZ r.d2), .string (shZ r.s0), .string (shZ r.s1), .string (shZ r.s2)]] w' fun e w'' => e = .returned (.bool b2) ∧ Below w'.heap.size w' w'' from by rw [← hb2]; exact rightRuleD_any (shRl r) w' (shRl_s r))
          have A5 := onward wm (fun w' => show Calls Tryz.prog 19 #[.agg #[.int .i64 (p : Int), .int .i64 ((q : Int) - 1), .bool r.ow, .string (shZ r.d0), .string (shZ r.d1), .string (shZ r.d2), .string (shZ r.s0), .string (shZ r.s1), .string (shZ r.s2)]] w' fun e w'' => e = .returned (.bool b3) ∧ Below w'.heap.size w' w'' from by rw [← hb3]; exact rightRl_any { shRl r with lv := (p : Int), co := (q : Int) - 1 } w' ⟨(show (Lit.int .i64 (p : Int)).wf = true from wf_midZ ⟨by omega, by omega⟩), (show (Lit.int .i64 ((q : Int) - 1)).wf = true from wf_midZ ⟨by omega, by omega⟩), shRl_s r⟩)
          have A6 := onward wm (fun w' => show Calls Tryz.prog 20 #[.agg #[.int .i64 (p : Int), .int .i64 ((q : Int) - 1), .bool r.ow, .string (shZ r.d0), .string (shZ r.d1), .string (shZ r.d2), .string (shZ r.s0), .string (shZ r.s1), .string (shZ r.s2)]] w' fun e w'' => e = .returned (.bool b3) ∧ Below w'.heap.size w' w'' from by rw [← hb3]; exact rightRuleD_any { shRl r with lv := (p : Int), co := (q : Int) - 1 } w' (shRl_s r))
          have A7 := onward wm (fun w' => show Calls Tryz.prog 21 #[.agg #[.string (shZ l.l), .string (shZ l.r)]] w' fun e w'' => e = .returned (.bool b4) ∧ Below w'.heap.size w' w'' from by rw [← hb4]; exact rightMb_any (shMb l) w' (shMb_s l))
          have A8 := onward wm (fun w' => show Calls Tryz.prog 22 #[.agg #[.string (shZ l.l), .string (shZ l.r)]] w' fun e w'' => e = .returned (.bool b4) ∧ Below w'.heap.size w' w'' from by rw [← hb4]; exact rightMemberD_any (shMb l) w' (shMb_s l))
          have n1 : (b1 != b1) = false := bne_self_eq_false b1
          have n2 : (b2 != b2) = false := bne_self_eq_false b2
          have n3 : (b3 != b3) = false := bne_self_eq_false b3
          have n4 : (b4 != b4) = false := bne_self_eq_false b4
          clear hb1 hb2 hb3 hb4
          have hmd : Below wm.heap.size wm wm.drew := Below.drew (Below.refl _ _)
          go_upto_region 13 with fail
          go_cut [106] from 81 to 106 (fun u wx => u = .bool false ∧ Below W1.heap.size W1 wx)
          case first =>
            go_region_held3 (fun w' => Below wm.heap.size wm w' ∧ (w'.cell? ⟨X, 0, none⟩ = some (.string (shZ l.l)) ∧ w'.cell? ⟨X, 1, none⟩ = some (.string (shZ l.s)) ∧ w'.cell? ⟨X, 2, none⟩ = some (.string (shZ l.r)) ∧ w'.cell? ⟨X, 3, none⟩ = some (.string (shZ l.tl)) ∧ w'.cell? ⟨X, 4, none⟩ = some (.string (shZ l.ts)) ∧ w'.cell? ⟨X, 5, none⟩ = some (.string (shZ l.tr))) ∧ (w'.cell? ⟨Y, 0, none⟩ = some (.int .i64 r.lv) ∧ w'.cell? ⟨Y, 1, none⟩ = some (.int .i64 r.co) ∧ w'.cell? ⟨Y, 2, none⟩ = some (.bool r.ow) ∧ w'.cell? ⟨Y, 3, none⟩ = some (.string (shZ r.d0)) ∧ w'.cell? ⟨Y, 4, none⟩ = some (.string (shZ r.d1)) ∧ w'.cell? ⟨Y, 5, none⟩ = some (.string (shZ r.d2)) ∧ w'.cell? ⟨Y, 6, none⟩ = some (.string (shZ r.s0)) ∧ w'.cell? ⟨Y, 7, none⟩ = some (.string (shZ r.s1)) ∧ w'.cell? ⟨Y, 8, none⟩ = some (.string (shZ r.s2))) ∧ (w'.cell? ⟨Z, 0, none⟩ = some (.int .i64 (p : Int)) ∧ w'.cell? ⟨Z, 1, none⟩ = some (.int .i64 ((q : Int) - 1)) ∧ w'.cell? ⟨Z, 2, none⟩ = some (.bool r.ow) ∧ w'.cell? ⟨Z, 3, none⟩ = some (.string (shZ r.d0)) ∧ w'.cell? ⟨Z, 4, none⟩ = some (.string (shZ r.d1)) ∧ w'.cell? ⟨Z, 5, none⟩ = some (.string (shZ r.d2)) ∧ w'.cell? ⟨Z, 6, none⟩ = some (.string (shZ r.s0)) ∧ w'.cell? ⟨Z, 7, none⟩ = some (.string (shZ r.s1)) ∧ w'.cell? ⟨Z, 8, none⟩ = some (.string (shZ r.s2))) ∧ (w'.cell? ⟨M, 0, none⟩ = some (.string (shZ l.l)) ∧ w'.cell? ⟨M, 1, none⟩ = some (.string (shZ l.r))))
              (exact HS.out _ (by assumption))
              (first
                | (go_at_call 17; (with_reducible refine (A1.out _ (by assumption)).mono ?_); rintro e u1 ⟨rfl, hu1⟩)
                | (go_at_call 18; (with_reducible refine (A2.out _ (by assumption)).mono ?_); rintro e u2 ⟨rfl, hu2⟩)
                | (go_at_call 19; (with_reducible refine (A3.out _ (by assumption)).mono ?_); rintro e u3 ⟨rfl, hu3⟩)
                | (go_at_call 20; (with_reducible refine (A4.out _ (by assumption)).mono ?_); rintro e u4 ⟨rfl, hu4⟩)
                | (go_at_call 19; (with_reducible refine (A5.out _ (by assumption)).mono ?_); rintro e u5 ⟨rfl, hu5⟩)
                | (go_at_call 20; (with_reducible refine (A6.out _ (by assumption)).mono ?_); rintro e u6 ⟨rfl, hu6⟩)
                | (go_at_call 21; (with_reducible refine (A7.out _ (by assumption)).mono ?_); rintro e u7 ⟨rfl, hu7⟩)
                | (go_at_call 22; (with_reducible refine (A8.out _ (by assumption)).mono ?_); rintro e u8 ⟨rfl, hu8⟩))
            all_goals go_wp2_with fail
            all_goals go_meet
            all_goals exact ⟨rfl, HBM.out.trans (hu8.mono HBM.out.size)⟩
          case rest =>
            obtain ⟨rfl, hb14⟩ := hcut
            obtain ⟨wq, rfl⟩ : ∃ x, x = wc := ⟨_, rfl⟩
            obtain ⟨d0, d1, d2, d3, d4, d5, d6⟩ := H7.out _ hb14
            have HM2 := Lib.hid (made13_any S va0 vl0 vr0 vm0 wq (HSd.out _ hb14))
            clear A1 A2 A3 A4 A5 A6 A7 A8 n1 n2 n3 n4 HS hmd
            go_upto_region 16 with (go_at_call 23; (with_reducible refine HM2.out.mono ?_); intro e w5 hE; unfold MdE ImO at hE; obtain ⟨im0, hBI, va, vl, vr, vm, rfl, hO5, hb5⟩ := hE; obtain ⟨a1, m1, s1, rfl⟩ := own_sliceZ hO5.a; obtain ⟨rfl, -⟩ := own_lenZ hO5.a; obtain ⟨a2, m2, s2, rfl⟩ := own_sliceZ hO5.l; obtain ⟨rfl, -⟩ := own_lenZ hO5.l; obtain ⟨a3, m3, s3, rfl⟩ := own_sliceZ hO5.r; obtain ⟨rfl, -⟩ := own_lenZ hO5.r; obtain ⟨a4, m4, s4, rfl⟩ := own_sliceZ hO5.m; obtain ⟨rfl, -⟩ := own_lenZ hO5.m)
            have hFW := hBI.few (restV S.odd 12)
            generalize spI im0 (restV S.odd 12) = im at *
            obtain ⟨W6, hW6⟩ : ∃ W6, w5.alloc (.cells #[.slice a1 im.als.length s1, .slice a2 im.lks.length s2, .slice a3 im.rls.length s3, .slice a4 im.mbs.length s4, .int .i64 im.th, .int .i64 im.de] 44) = W6 := ⟨_, rfl⟩
            have hI6 : W6.heap[w5.heap.size]? = some (.cells #[.slice a1 im.als.length s1, .slice a2 im.lks.length s2, .slice a3 im.rls.length s3, .slice a4 im.mbs.length s4, .int .i64 im.th, .int .i64 im.de] 44 (0, 0)) := by rw [← hW6]; exact World.alloc_heap_new _ _
            have hb6 : Below w5.heap.size w5 W6 := by rw [← hW6]; exact (Below.refl _ _).alloc (Nat.le_refl _) _
            have hO6 := hO5.below hb6
            have hB6 : Below W1.heap.size W1 W6 := (hb14.trans (hb5.mono hb14.size)).trans (hb6.mono (Nat.le_trans hb14.size hb5.size))
            rw [hW6]
            clear hW6 hb6 hO5 hBI d0 d1 d2 d3 d4 d5 d6 HM2
            generalize w5.heap.size = nI at *
            obtain ⟨hA6, hL6, hR6, hM6, -, -⟩ := hFW
            obtain ⟨ra2, rc2, hv2, hrow2⟩ := hO6.rows.l.opened
            injection hv2 with e1 _ e3
            subst e1 e3
            obtain ⟨ra3, rc3, hv3, hrow3⟩ := hO6.rows.r.opened
            injection hv3 with e1 _ e3
            subst e1 e3
            obtain ⟨ra4, rc4, hv4, hrow4⟩ := hO6.rows.m.opened
            injection hv4 with e1 _ e3
            subst e1 e3
            have HW2 := Lib.hid hrow2
            have HW3 := Lib.hid hrow3
            have HW4 := Lib.hid hrow4
            have HI6 := Lib.hid hI6
            have HB6 := Lib.hid hB6
            have HSm := Lib.hid hO6.s
            clear hrow2 hrow3 hrow4 hI6 hB6 hO6 hb5 hb14
            go_wp2_with fail
            go_loopw [14] (fun i wr => ∃ k : Nat, k ≤ im.lks.length ∧ i = .int .i64 (k : Int) ∧ Below W6.heap.size W6 wr) (fun i _ => im.lks.length - (intOf i).toNat)
            case atStart => exact ⟨0, Nat.zero_le _, rfl, Below.refl _ _⟩
            case round =>
              obtain ⟨k, hk, rfl, hQ⟩ := hrel
              obtain ⟨z0, z1, z2, z3, z4, z5⟩ := cells6 ((hQ.block _ (lt_of_block HI6.out)).trans HI6.out)
              by_cases hlt : k < im.lks.length
              · have hki : (k : Int) < (im.lks.length : Int) := by omega
                have hk0 : (0 : Int) ≤ (k : Int) := by omega
                obtain ⟨x, hx⟩ : ∃ x, im.lks[k]? = some x := ⟨_, List.getElem?_eq_getElem hlt⟩
                obtain ⟨g, o, rfl, hcx⟩ := HW2.out k x hx
                have hm := List.mem_of_getElem? hx
                have HS := Lib.hid (fun w' (h : Below W6.heap.size W6 w') => show Below W6.heap.size W6 w' ∧ w'.cell? ⟨nI, 1, none⟩ = some (.slice (some ⟨g, o, none⟩) im.lks.length s2) ∧ (w'.cell? ⟨g, o + k * 6, none⟩ = some (.string x.l) ∧ w'.cell? ⟨g, o + k * 6 + 1, none⟩ = some (.string x.s) ∧ w'.cell? ⟨g, o + k * 6 + 2, none⟩ = some (.string x.r) ∧ w'.cell? ⟨g, o + k * 6 + 3, none⟩ = some (.string x.tl) ∧ w'.cell? ⟨g, o + k * 6 + 4, none⟩ = some (.string x.ts) ∧ w'.cell? ⟨g, o + k * 6 + 5, none⟩ = some (.string x.tr)) from ⟨h, (cells6 ((h.block _ (lt_of_block HI6.out)).trans HI6.out)).2.1, (h.cell (p := ⟨g, o + k * 6, none⟩) (lt_cellZ (hcx 0 _ rfl))).trans (hcx 0 _ rfl), (h.cell (p := ⟨g, o + k * 6 + 1, none⟩) (lt_cellZ (hcx 1 _ rfl))).trans (hcx 1 _ rfl), (h.cell (p := ⟨g, o + k * 6 + 2, none⟩) (lt_cellZ (hcx 2 _ rfl))).trans (hcx 2 _ rfl), (h.cell (p := ⟨g, o + k * 6 + 3, none⟩) (lt_cellZ (hcx 3 _ rfl))).trans (hcx 3 _ rfl), (h.cell (p := ⟨g, o + k * 6 + 4, none⟩) (lt_cellZ (hcx 4 _ rfl))).trans (hcx 4 _ rfl), (h.cell (p := ⟨g, o + k * 6 + 5, none⟩) (lt_cellZ (hcx 5 _ rfl))).trans (hcx 5 _ rfl)⟩)
                obtain ⟨b, hb⟩ : ∃ b, rightLk x = b := ⟨_, rfl⟩
                have A1 := onward W6 (fun w' => show Calls Tryz.prog 17 #[.agg #[.string x.l, .string x.s, .string x.r, .string x.tl, .string x.ts, .string x.tr]] w' fun e w'' => e = .returned (.bool b) ∧ Below w'.heap.size w' w'' from by rw [← hb]; exact rightLk_any x w' (HSm.out.lks x hm))
                have A2 := onward W6 (fun w' => show Calls Tryz.prog 18 #[.agg #[.string x.l, .string x.s, .string x.r, .string x.tl, .string x.ts, .string x.tr]] w' fun e w'' => e = .returned (.bool b) ∧ Below w'.heap.size w' w'' from by rw [← hb]; exact rightLikelyD_any x w' (HSm.out.lks x hm))
                have nb : (b != b) = false := bne_self_eq_false b
                have hQd := Below.drew hQ
                clear hb hx hcx hm
                go_upto_region 19 with fail
                go_region_held3 (fun w' => Below W6.heap.size W6 w' ∧ w'.cell? ⟨nI, 1, none⟩ = some (.slice (some ⟨g, o, none⟩) im.lks.length s2) ∧ (w'.cell? ⟨g, o + k * 6, none⟩ = some (.string x.l) ∧ w'.cell? ⟨g, o + k * 6 + 1, none⟩ = some (.string x.s) ∧ w'.cell? ⟨g, o + k * 6 + 2, none⟩ = some (.string x.r) ∧ w'.cell? ⟨g, o + k * 6 + 3, none⟩ = some (.string x.tl) ∧ w'.cell? ⟨g, o + k * 6 + 4, none⟩ = some (.string x.ts) ∧ w'.cell? ⟨g, o + k * 6 + 5, none⟩ = some (.string x.tr)))
                  (exact HS.out _ (by assumption))
                  (first
                    | (go_at_call 17; (with_reducible refine (A1.out _ (by assumption)).mono ?_); rintro e u1 ⟨rfl, hu1⟩)
                    | (go_at_call 18; (with_reducible refine (A2.out _ (by assumption)).mono ?_); rintro e u2 ⟨rfl, hu2⟩))
                all_goals go_wp2_with fail
                all_goals go_roundw
                all_goals first
                  | exact ⟨k + 1, by omega, by go_num, hu2⟩
                  | (simp [intOf]; omega)
              · obtain rfl : k = im.lks.length := by omega
                have hki : ¬ (im.lks.length : Int) < (im.lks.length : Int) := by omega
                go_wp2_with fail
                go_loopw [15] (fun i wr => ∃ k : Nat, k ≤ im.rls.length ∧ i = .int .i64 (k : Int) ∧ Below W6.heap.size W6 wr) (fun i _ => im.rls.length - (intOf i).toNat)
                case atStart => exact ⟨0, Nat.zero_le _, rfl, hQ⟩
                case round =>
                  obtain ⟨k, hk, rfl, hQ⟩ := hrel
                  obtain ⟨z0, z1, z2, z3, z4, z5⟩ := cells6 ((hQ.block _ (lt_of_block HI6.out)).trans HI6.out)
                  by_cases hlt : k < im.rls.length
                  · have hki : (k : Int) < (im.rls.length : Int) := by omega
                    have hk0 : (0 : Int) ≤ (k : Int) := by omega
                    obtain ⟨x, hx⟩ : ∃ x, im.rls[k]? = some x := ⟨_, List.getElem?_eq_getElem hlt⟩
                    obtain ⟨g, o, rfl, hcx⟩ := HW3.out k x hx
                    have hm := List.mem_of_getElem? hx
                    have HS := Lib.hid (fun w' (h : Below W6.heap.size W6 w') => show Below W6.heap.size W6 w' ∧ w'.cell? ⟨nI, 2, none⟩ = some (.slice (some ⟨g, o, none⟩) im.rls.length s3) ∧ (w'.cell? ⟨g, o + k * 9, none⟩ = some (.int .i64 x.lv) ∧ w'.cell? ⟨g, o + k * 9 + 1, none⟩ = some (.int .i64 x.co) ∧ w'.cell? ⟨g, o + k * 9 + 2, none⟩ = some (.bool x.ow) ∧ w'.cell? ⟨g, o + k * 9 + 3, none⟩ = some (.string x.d0) ∧ w'.cell? ⟨g, o + k * 9 + 4, none⟩ = some (.string x.d1) ∧ w'.cell? ⟨g, o + k * 9 + 5, none⟩ = some (.string x.d2) ∧ w'.cell? ⟨g, o + k * 9 + 6, none⟩ = some (.string x.s0) ∧ w'.cell? ⟨g, o + k * 9 + 7, none⟩ = some (.string x.s1) ∧ w'.cell? ⟨g, o + k * 9 + 8, none⟩ = some (.string x.s2)) from ⟨h, (cells6 ((h.block _ (lt_of_block HI6.out)).trans HI6.out)).2.2.1, (h.cell (p := ⟨g, o + k * 9, none⟩) (lt_cellZ (hcx 0 _ rfl))).trans (hcx 0 _ rfl), (h.cell (p := ⟨g, o + k * 9 + 1, none⟩) (lt_cellZ (hcx 1 _ rfl))).trans (hcx 1 _ rfl), (h.cell (p := ⟨g, o + k * 9 + 2, none⟩) (lt_cellZ (hcx 2 _ rfl))).trans (hcx 2 _ rfl), (h.cell (p := ⟨g, o + k * 9 + 3, none⟩) (lt_cellZ (hcx 3 _ rfl))).trans (hcx 3 _ rfl), (h.cell (p := ⟨g, o + k * 9 + 4, none⟩) (lt_cellZ (hcx 4 _ rfl))).trans (hcx 4 _ rfl), (h.cell (p := ⟨g, o + k * 9 + 5, none⟩) (lt_cellZ (hcx 5 _ rfl))).trans (hcx 5 _ rfl), (h.cell (p := ⟨g, o + k * 9 + 6, none⟩) (lt_cellZ (hcx 6 _ rfl))).trans (hcx 6 _ rfl), (h.cell (p := ⟨g, o + k * 9 + 7, none⟩) (lt_cellZ (hcx 7 _ rfl))).trans (hcx 7 _ rfl), (h.cell (p := ⟨g, o + k * 9 + 8, none⟩) (lt_cellZ (hcx 8 _ rfl))).trans (hcx 8 _ rfl)⟩)
                    obtain ⟨b, hb⟩ : ∃ b, rightRl x = b := ⟨_, rfl⟩
                    have A1 := onward W6 (fun w' => show Calls Tryz.prog 19 #[.agg #[.int .i64 x.lv, .int .i64 x.co, .bool x.ow, .string x.d0, .string x.d1, .string x.d2, .string x.s0, .string x.s1, .string x.s2]] w' fun e w'' => e = .returned (.bool b) ∧ Below w'.heap.size w' w'' from by rw [← hb]; exact rightRl_any x w' (HSm.out.rls x hm))
                    have A2 := onward W6 (fun w' => show Calls Tryz.prog 20 #[.agg #[.int .i64 x.lv, .int .i64 x.co, .bool x.ow, .string x.d0, .string x.d1, .string x.d2, .string x.s0, .string x.s1, .string x.s2]] w' fun e w'' => e = .returned (.bool b) ∧ Below w'.heap.size w' w'' from by rw [← hb]; exact rightRuleD_any x w' (HSm.out.rls x hm).z)
                    have nb : (b != b) = false := bne_self_eq_false b
                    have hQd := Below.drew hQ
                    clear hb hx hcx hm
                    go_upto_region 24 with fail
                    go_region_held3 (fun w' => Below W6.heap.size W6 w' ∧ w'.cell? ⟨nI, 2, none⟩ = some (.slice (some ⟨g, o, none⟩) im.rls.length s3) ∧ (w'.cell? ⟨g, o + k * 9, none⟩ = some (.int .i64 x.lv) ∧ w'.cell? ⟨g, o + k * 9 + 1, none⟩ = some (.int .i64 x.co) ∧ w'.cell? ⟨g, o + k * 9 + 2, none⟩ = some (.bool x.ow) ∧ w'.cell? ⟨g, o + k * 9 + 3, none⟩ = some (.string x.d0) ∧ w'.cell? ⟨g, o + k * 9 + 4, none⟩ = some (.string x.d1) ∧ w'.cell? ⟨g, o + k * 9 + 5, none⟩ = some (.string x.d2) ∧ w'.cell? ⟨g, o + k * 9 + 6, none⟩ = some (.string x.s0) ∧ w'.cell? ⟨g, o + k * 9 + 7, none⟩ = some (.string x.s1) ∧ w'.cell? ⟨g, o + k * 9 + 8, none⟩ = some (.string x.s2)))
                      (exact HS.out _ (by assumption))
                      (first
                        | (go_at_call 19; (with_reducible refine (A1.out _ (by assumption)).mono ?_); rintro e u1 ⟨rfl, hu1⟩)
                        | (go_at_call 20; (with_reducible refine (A2.out _ (by assumption)).mono ?_); rintro e u2 ⟨rfl, hu2⟩))
                    all_goals go_wp2_with fail
                    all_goals go_roundw
                    all_goals first
                      | exact ⟨k + 1, by omega, by go_num, hu2⟩
                      | (simp [intOf]; omega)
                  · obtain rfl : k = im.rls.length := by omega
                    have hki : ¬ (im.rls.length : Int) < (im.rls.length : Int) := by omega
                    go_wp2_with fail
                    go_loopw [16] (fun i wr => ∃ k : Nat, k ≤ im.mbs.length ∧ i = .int .i64 (k : Int) ∧ Below W6.heap.size W6 wr) (fun i _ => im.mbs.length - (intOf i).toNat)
                    case atStart => exact ⟨0, Nat.zero_le _, rfl, hQ⟩
                    case round =>
                      obtain ⟨k, hk, rfl, hQ⟩ := hrel
                      obtain ⟨z0, z1, z2, z3, z4, z5⟩ := cells6 ((hQ.block _ (lt_of_block HI6.out)).trans HI6.out)
                      by_cases hlt : k < im.mbs.length
                      · have hki : (k : Int) < (im.mbs.length : Int) := by omega
                        have hk0 : (0 : Int) ≤ (k : Int) := by omega
                        obtain ⟨x, hx⟩ : ∃ x, im.mbs[k]? = some x := ⟨_, List.getElem?_eq_getElem hlt⟩
                        obtain ⟨g, o, rfl, hcx⟩ := HW4.out k x hx
                        have hm := List.mem_of_getElem? hx
                        have HS := Lib.hid (fun w' (h : Below W6.heap.size W6 w') => show Below W6.heap.size W6 w' ∧ w'.cell? ⟨nI, 3, none⟩ = some (.slice (some ⟨g, o, none⟩) im.mbs.length s4) ∧ (w'.cell? ⟨g, o + k * 2, none⟩ = some (.string x.st) ∧ w'.cell? ⟨g, o + k * 2 + 1, none⟩ = some (.string x.rg)) from ⟨h, (cells6 ((h.block _ (lt_of_block HI6.out)).trans HI6.out)).2.2.2.1, (h.cell (p := ⟨g, o + k * 2, none⟩) (lt_cellZ (hcx 0 _ rfl))).trans (hcx 0 _ rfl), (h.cell (p := ⟨g, o + k * 2 + 1, none⟩) (lt_cellZ (hcx 1 _ rfl))).trans (hcx 1 _ rfl)⟩)
                        obtain ⟨b, hb⟩ : ∃ b, rightMb x = b := ⟨_, rfl⟩
                        have A1 := onward W6 (fun w' => show Calls Tryz.prog 21 #[.agg #[.string x.st, .string x.rg]] w' fun e w'' => e = .returned (.bool b) ∧ Below w'.heap.size w' w'' from by rw [← hb]; exact rightMb_any x w' (HSm.out.mbs x hm))
                        have A2 := onward W6 (fun w' => show Calls Tryz.prog 22 #[.agg #[.string x.st, .string x.rg]] w' fun e w'' => e = .returned (.bool b) ∧ Below w'.heap.size w' w'' from by rw [← hb]; exact rightMemberD_any x w' (HSm.out.mbs x hm))
                        have nb : (b != b) = false := bne_self_eq_false b
                        have hQd := Below.drew hQ
                        clear hb hx hcx hm
                        go_upto_region 29 with fail
                        go_region_held3 (fun w' => Below W6.heap.size W6 w' ∧ w'.cell? ⟨nI, 3, none⟩ = some (.slice (some ⟨g, o, none⟩) im.mbs.length s4) ∧ (w'.cell? ⟨g, o + k * 2, none⟩ = some (.string x.st) ∧ w'.cell? ⟨g, o + k * 2 + 1, none⟩ = some (.string x.rg)))
                          (exact HS.out _ (by assumption))
                          (first
                            | (go_at_call 21; (with_reducible refine (A1.out _ (by assumption)).mono ?_); rintro e u1 ⟨rfl, hu1⟩)
                            | (go_at_call 22; (with_reducible refine (A2.out _ (by assumption)).mono ?_); rintro e u2 ⟨rfl, hu2⟩))
                        all_goals go_wp2_with fail
                        all_goals go_roundw
                        all_goals first
                          | exact ⟨k + 1, by omega, by go_num, hu2⟩
                          | (simp [intOf]; omega)
                      · obtain rfl : k = im.mbs.length := by omega
                        have hki : ¬ (im.mbs.length : Int) < (im.mbs.length : Int) := by omega
                        go_wp2_with fail
                        go_ret
                        exact ⟨rfl, HB.out _ (HB6.out.trans (hQ.mono HB6.out.size))⟩
end Go.Proofs.YtknodboncpcjnaaGreatDoor
