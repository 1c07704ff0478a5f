/-
 The document's Made of layer 13. (Printed by wip/gen_zmade.py.)
-/
import Derived.Test.YthjfcfhibdpbnaaZMadeM
import Derived.StillTailTactics
import Derived.Deep.QuietTactic
import Derived.BigQuiet
import Derived.Deep.RegionHeld3
import Derived.Deep.CutRange
import Derived.Deep.AppendLies
import Derived.Deep.RegionLawGrows
namespace Go.Proofs.Ythjfcfhibdpbnaa
open Go Go.RowKit

set_option maxRecDepth 1000000 in
set_option maxHeartbeats 40000000 in
theorem made13_any (S : SeedZ) (va vl vr vm : Value) (w : World) (hS : SdR w va vl vr vm S) :
  Calls Try.prog 7 #[.agg #[va, vl, vr, vm, .int .i64 S.th, .int .i64 S.de, .int .i64 S.odd]] w (MdE w S) := by
 obtain ⟨xa, ca, rfl, hca⟩ := hS.a.opened
 obtain ⟨xl, cl, rfl, hcl⟩ := hS.l.opened
 obtain ⟨xr, cr, rfl, hcr⟩ := hS.r.opened
 obtain ⟨xm, cm, rfl, hcm⟩ := hS.m.opened
 have HCA := Lib.hid hca
 have HCL := Lib.hid hcl
 have HCR := Lib.hid hcr
 have HCM := Lib.hid hcm
 clear hca hcl hcr hcm hS
 obtain ⟨th, hth⟩ : ∃ th : Int, (restV S.th 256 : Int) = th := ⟨_, rfl⟩
 obtain ⟨de, hde⟩ : ∃ de : Int, (restV S.de 30 : Int) = de := ⟨_, rfl⟩
 have HT := Lib.hid (fun w' => show Calls Try.prog 15 #[.int .i64 S.th, .int .i64 256] w' fun e w'' => e = .returned (.int .i64 th) ∧ w'' = w' from by rw [← hth]; exact restE_any S.th 256 w' (by decide) (by decide))
 have HD := Lib.hid (fun w' => show Calls Try.prog 15 #[.int .i64 S.de, .int .i64 30] w' fun e w'' => e = .returned (.int .i64 de) ∧ w'' = w' from by rw [← hde]; exact restE_any S.de 30 w' (by decide) (by decide))
 have HTD := Lib.hid (And.intro hth hde)
 clear hth hde
 obtain ⟨W1, hW1⟩ : ∃ W1, (w.alloc (.cells #[.slice xa S.als.length ca, .slice xl S.lks.length cl, .slice xr S.rls.length cr, .slice xm S.mbs.length cm, .int .i64 S.th, .int .i64 S.de, .int .i64 S.odd] 25)).alloc (.cells #[.slice none 0 0, .slice none 0 0, .slice none 0 0, .slice none 0 0, .int .i64 0, .int .i64 0] 35) = W1 := ⟨_, rfl⟩
 have hb1 : Below w.heap.size w W1 := by rw [← hW1]; exact ((Below.refl _ w).alloc (Nat.le_refl _) _).alloc (by simp) _
 have hA : W1.heap[w.heap.size]? = some (.cells #[.slice xa S.als.length ca, .slice xl S.lks.length cl, .slice xr S.rls.length cr, .slice xm S.mbs.length cm, .int .i64 S.th, .int .i64 S.de, .int .i64 S.odd] 25 (0, 0)) := by rw [← hW1]; exact (Below.heap_alloc _ _ _ (by simp)).trans (World.alloc_heap_new w _)
 have hR : W1.heap[w.heap.size + 1]? = some (.cells #[.slice none 0 0, .slice none 0 0, .slice none 0 0, .slice none 0 0, .int .i64 0, .int .i64 0] 35 (0, 0)) := by rw [← hW1]; exact heap_alloc2_new w _ _
 have H7 := Lib.hid (fun w' (h : Below W1.heap.size W1 w') => cells7 ((h.block _ (lt_of_block hA)).trans hA))
 have HRs := Lib.hid (fun w' (h : Below W1.heap.size W1 w') => (h.block _ (lt_of_block hR)).trans hR)
 have HC1 := Lib.hid (fun w' (h : Below W1.heap.size W1 w') => show Below W1.heap.size W1 w' ∧ w'.cell? ⟨w.heap.size, 4, none⟩ = some (.int .i64 S.th) ∧ w'.cell? ⟨w.heap.size, 5, none⟩ = some (.int .i64 S.de) from ⟨h, (H7.out w' h).2.2.2.2.1, (H7.out w' h).2.2.2.2.2.1⟩)
 have HB := Lib.hid (fun w' (h : Below W1.heap.size W1 w') => hb1.trans (h.mono hb1.size))
 have hs1 := lt_of_block hR
 have HW1 := Lib.hid hW1
 obtain ⟨d0, d1, d2, d3, d4, d5, d6⟩ := H7.out _ (Below.refl _ _)
 clear hW1 hb1 hA hR
 go_enter Try.func7, Try.ntmps7
 go_upto_region 1 with fail
 rw [HW1.out]
 go_cut [3] from 19 to 25 (fun u wx => u = .pointer (some ⟨W1.heap.size, 0, none⟩) ∧ MkI W1 wx W1.heap.size ⟨[], [], [], [], th, de⟩ (.slice none 0 0) (.slice none 0 0) (.slice none 0 0) (.slice none 0 0))
 case first =>
  refine wp_region_held_drew (S := fun w' => Below W1.heap.size W1 w' ∧ w'.cell? ⟨w.heap.size, 4, none⟩ = some (.int .i64 S.th) ∧ w'.cell? ⟨w.heap.size, 5, none⟩ = some (.int .i64 S.de)) (by kernel_rfl) (HC1.out _ (Below.drew (Below.refl _ _))) (fun hHeld => ?_)
  apply held_shellR (R := fun w' => Below W1.heap.size W1 w' ∧ w'.heap[W1.heap.size]? = some (.cells #[.slice none 0 0, .slice none 0 0, .slice none 0 0, .slice none 0 0, .int .i64 th, .int .i64 de] 35 (0, 0)))
  exact fun _ _ d _ _ h => by cases d <;> exact h
  rotate_left 1
  intro KK hKp hfin
  refine wpAnyH_take (i := 0) (v := .pointer (some ⟨w.heap.size, 4, none⟩)) rfl (by kernel_rfl) (by kernel_rfl) (by kernel_rfl) (fun c a w h => hKp c a _ _ w h) (Or.inl ⟨by kernel_rfl, fun w hSw => by dsimp only at hSw; obtain ⟨-, g4, g5⟩ := hSw; go_simp⟩) (by assumption) ?_
  simp only [Act.put, List.getElem_toArray, List.getElem_cons_zero, List.setIfInBounds_toArray, List.set_cons_zero, List.set_cons_succ]
  refine wpAnyH_take (i := 1) (v := .int .i64 S.th) rfl (by kernel_rfl) (by kernel_rfl) (by kernel_rfl) (fun c a w h => hKp c a _ _ w h) (Or.inl ⟨by kernel_rfl, fun w hSw => by dsimp only at hSw; obtain ⟨-, g4, g5⟩ := hSw; go_simp⟩) (by assumption) ?_
  simp only [Act.put, List.getElem_toArray, List.getElem_cons_zero, List.getElem_cons_succ, List.setIfInBounds_toArray, List.set_cons_zero, List.set_cons_succ]
  refine wpAnyH_take (i := 3) (v := .pointer (some ⟨w.heap.size, 5, none⟩)) rfl (by kernel_rfl) (by kernel_rfl) (by kernel_rfl) (fun c a w h => hKp c a _ _ w h) (Or.inl ⟨by kernel_rfl, fun w hSw => by dsimp only at hSw; obtain ⟨-, g4, g5⟩ := hSw; go_simp⟩) (by assumption) ?_
  simp only [Act.put, List.getElem_toArray, List.getElem_cons_zero, List.getElem_cons_succ, List.setIfInBounds_toArray, List.set_cons_zero, List.set_cons_succ]
  refine wpAnyH_take (i := 4) (v := .int .i64 S.de) rfl (by kernel_rfl) (by kernel_rfl) (by kernel_rfl) (fun c a w h => hKp c a _ _ w h) (Or.inl ⟨by kernel_rfl, fun w hSw => by dsimp only at hSw; obtain ⟨-, g4, g5⟩ := hSw; go_simp⟩) (by assumption) ?_
  simp only [Act.put, List.getElem_toArray, List.getElem_cons_zero, List.getElem_cons_succ, List.setIfInBounds_toArray, List.set_cons_zero, List.set_cons_succ]
  refine wpAnyH_ready (rs := [2, 7]) (by kernel_rfl) (by simp) ?_
  refine AllReadyH.cons rfl (fun Kx hKx => ?_) (AllReadyH.cons rfl (fun Kx hKx => ?_) AllReadyH.nil)
  ·try rw [if_pos (by kernel_rfl)]
   go_simp
   refine (HT.out _).mono ?_
   rintro e w5 ⟨rfl, rfl⟩
   refine hKx.out _ _ (HC1.out _ (Below.drew (Below.refl _ _))) (fun hHeld => ?_)
   clear hKx Kx
   try simp only [Act.put, List.getElem_toArray, List.getElem_cons_zero, List.getElem_cons_succ, List.setIfInBounds_toArray, List.set_cons_zero, List.set_cons_succ]
   refine wpAnyH_ready (rs := [5, 7]) (by kernel_rfl) (by simp) ?_
   refine AllReadyH.cons rfl (fun Kx hKx => ?_) (AllReadyH.cons rfl (fun Kx hKx => ?_) AllReadyH.nil)
   ·try rw [if_pos (by kernel_rfl)]
    go_simp
    refine (HD.out _).mono ?_
    rintro e w5 ⟨rfl, rfl⟩
    refine hKx.out _ _ (HC1.out _ (Below.drew (Below.refl _ _))) (fun hHeld => ?_)
    clear hKx Kx
    try simp only [Act.put, List.getElem_toArray, List.getElem_cons_zero, List.getElem_cons_succ, List.setIfInBounds_toArray, List.set_cons_zero, List.set_cons_succ]
    refine wpAnyH_take (i := 6) (v := .agg #[.slice none 0 0, .slice none 0 0, .slice none 0 0, .slice none 0 0, .int .i64 th, .int .i64 de]) rfl (by kernel_rfl) (by kernel_rfl) (by kernel_rfl) (fun c a w h => hKp c a _ _ w h) (Or.inl ⟨by kernel_rfl, fun w hSw => by go_simp⟩) (by assumption) ?_
    simp only [Act.put, List.getElem_toArray, List.getElem_cons_zero, List.getElem_cons_succ, List.setIfInBounds_toArray, List.set_cons_zero, List.set_cons_succ]
    refine wpAnyH_ready (rs := [7]) (by kernel_rfl) (by simp) ?_
    refine AllReadyH.cons rfl (fun Kx hKx => ?_) AllReadyH.nil
    try rw [if_pos (by kernel_rfl)]
    go_simp
    refine hKx.out _ _ (HC1.out _ ((Below.drew (Below.refl _ _)).alloc (Nat.le_refl _) _)) (fun hHeld => ?_)
    clear hKx Kx
    try simp only [Act.put, List.getElem_toArray, List.getElem_cons_zero, List.getElem_cons_succ, List.setIfInBounds_toArray, List.set_cons_zero, List.set_cons_succ]
    refine wpAnyH_ready (rs := [8]) (by kernel_rfl) (by simp) ?_
    refine AllReadyH.cons rfl (fun Kx hKx => ?_) AllReadyH.nil
    try rw [if_pos (by kernel_rfl)]
    go_simp
    refine hKx.out _ _ (HC1.out _ ((Below.drew (Below.refl _ _)).alloc (Nat.le_refl _) _)) (fun hHeld => ?_)
    clear hKx Kx
    try simp only [Act.put, List.getElem_toArray, List.getElem_cons_zero, List.getElem_cons_succ, List.setIfInBounds_toArray, List.set_cons_zero, List.set_cons_succ]
    refine wpAnyH_done (by kernel_rfl) ?_ _
    exact hfin _ ⟨hHeld.1, World.alloc_heap_new _ _⟩
   ·try rw [if_pos (by kernel_rfl)]
    go_simp
    refine hKx.out _ _ (HC1.out _ ((Below.drew (Below.refl _ _)).alloc (Nat.le_refl _) _)) (fun hHeld => ?_)
    clear hKx Kx
    try simp only [Act.put, List.getElem_toArray, List.getElem_cons_zero, List.getElem_cons_succ, List.setIfInBounds_toArray, List.set_cons_zero, List.set_cons_succ]
    refine wpAnyH_ready (rs := [5]) (by kernel_rfl) (by simp) ?_
    refine AllReadyH.cons rfl (fun Kx hKx => ?_) AllReadyH.nil
    try rw [if_pos (by kernel_rfl)]
    go_simp
    refine (HD.out _).mono ?_
    rintro e w5 ⟨rfl, rfl⟩
    refine hKx.out _ _ (HC1.out _ ((Below.drew (Below.refl _ _)).alloc (Nat.le_refl _) _)) (fun hHeld => ?_)
    clear hKx Kx
    try simp only [Act.put, List.getElem_toArray, List.getElem_cons_zero, List.getElem_cons_succ, List.setIfInBounds_toArray, List.set_cons_zero, List.set_cons_succ]
    refine wpAnyH_take (i := 6) (v := .agg #[.slice none 0 0, .slice none 0 0, .slice none 0 0, .slice none 0 0, .int .i64 th, .int .i64 de]) rfl (by kernel_rfl) (by kernel_rfl) (by kernel_rfl) (fun c a w h => hKp c a _ _ w h) (Or.inl ⟨by kernel_rfl, fun w hSw => by go_simp⟩) (by assumption) ?_
    simp only [Act.put, List.getElem_toArray, List.getElem_cons_zero, List.getElem_cons_succ, List.setIfInBounds_toArray, List.set_cons_zero, List.set_cons_succ]
    refine wpAnyH_ready (rs := [8]) (by kernel_rfl) (by simp) ?_
    refine AllReadyH.cons rfl (fun Kx hKx => ?_) AllReadyH.nil
    try rw [if_pos (by kernel_rfl)]
    go_simp
    refine hKx.out _ _ (HC1.out _ ((Below.drew (Below.refl _ _)).alloc (Nat.le_refl _) _)) (fun hHeld => ?_)
    clear hKx Kx
    try simp only [Act.put, List.getElem_toArray, List.getElem_cons_zero, List.getElem_cons_succ, List.setIfInBounds_toArray, List.set_cons_zero, List.set_cons_succ]
    refine wpAnyH_done (by kernel_rfl) ?_ _
    exact hfin _ ⟨hHeld.1, World.alloc_heap_new _ _⟩
  ·try rw [if_pos (by kernel_rfl)]
   go_simp
   refine hKx.out _ _ (HC1.out _ ((Below.drew (Below.refl _ _)).alloc (Nat.le_refl _) _)) (fun hHeld => ?_)
   clear hKx Kx
   try simp only [Act.put, List.getElem_toArray, List.getElem_cons_zero, List.getElem_cons_succ, List.setIfInBounds_toArray, List.set_cons_zero, List.set_cons_succ]
   refine wpAnyH_ready (rs := [2]) (by kernel_rfl) (by simp) ?_
   refine AllReadyH.cons rfl (fun Kx hKx => ?_) AllReadyH.nil
   try rw [if_pos (by kernel_rfl)]
   go_simp
   refine (HT.out _).mono ?_
   rintro e w5 ⟨rfl, rfl⟩
   refine hKx.out _ _ (HC1.out _ ((Below.drew (Below.refl _ _)).alloc (Nat.le_refl _) _)) (fun hHeld => ?_)
   clear hKx Kx
   try simp only [Act.put, List.getElem_toArray, List.getElem_cons_zero, List.getElem_cons_succ, List.setIfInBounds_toArray, List.set_cons_zero, List.set_cons_succ]
   refine wpAnyH_ready (rs := [5]) (by kernel_rfl) (by simp) ?_
   refine AllReadyH.cons rfl (fun Kx hKx => ?_) AllReadyH.nil
   try rw [if_pos (by kernel_rfl)]
   go_simp
   refine (HD.out _).mono ?_
   rintro e w5 ⟨rfl, rfl⟩
   refine hKx.out _ _ (HC1.out _ ((Below.drew (Below.refl _ _)).alloc (Nat.le_refl _) _)) (fun hHeld => ?_)
   clear hKx Kx
   try simp only [Act.put, List.getElem_toArray, List.getElem_cons_zero, List.getElem_cons_succ, List.setIfInBounds_toArray, List.set_cons_zero, List.set_cons_succ]
   refine wpAnyH_take (i := 6) (v := .agg #[.slice none 0 0, .slice none 0 0, .slice none 0 0, .slice none 0 0, .int .i64 th, .int .i64 de]) rfl (by kernel_rfl) (by kernel_rfl) (by kernel_rfl) (fun c a w h => hKp c a _ _ w h) (Or.inl ⟨by kernel_rfl, fun w hSw => by go_simp⟩) (by assumption) ?_
   simp only [Act.put, List.getElem_toArray, List.getElem_cons_zero, List.getElem_cons_succ, List.setIfInBounds_toArray, List.set_cons_zero, List.set_cons_succ]
   refine wpAnyH_ready (rs := [8]) (by kernel_rfl) (by simp) ?_
   refine AllReadyH.cons rfl (fun Kx hKx => ?_) AllReadyH.nil
   try rw [if_pos (by kernel_rfl)]
   go_simp
   refine hKx.out _ _ (HC1.out _ ((Below.drew (Below.refl _ _)).alloc (Nat.le_refl _) _)) (fun hHeld => ?_)
   clear hKx Kx
   try simp only [Act.put, List.getElem_toArray, List.getElem_cons_zero, List.getElem_cons_succ, List.setIfInBounds_toArray, List.set_cons_zero, List.set_cons_succ]
   refine wpAnyH_done (by kernel_rfl) ?_ _
   exact hfin _ ⟨hHeld.1, World.alloc_heap_new _ _⟩
  rintro W3 ⟨hb3, hN3⟩
  go_wp2_with fail
  go_meet
  exact ⟨rfl, hN3, World.ownsRow_nil _ _ _ _, World.ownsRow_nil _ _ _ _, World.ownsRow_nil _ _ _ _, World.ownsRow_nil _ _ _ _, hb3, Nat.le_refl _, imS_nil _ _⟩
 case rest =>
  obtain ⟨rfl, hM0⟩ := hcut
  have HM0 := Lib.hid hM0
  clear hM0 d0 d1 d2 d3 d4 d5 d6
  go_step
  go_step
  go_cut [3] from 26 to 68 (fun u wx => ∃ als va, u = .pointer (some ⟨W1.heap.size, 0, none⟩) ∧ MathA (min S.als.length 8) als ∧ MkI W1 wx W1.heap.size ⟨als, [], [], [], th, de⟩ va (.slice none 0 0) (.slice none 0 0) (.slice none 0 0))
  case first =>
   go_wp2_with fail
   go_loopw [4] (fun i wr => ∃ (k : Nat) (als : List Al) (va : Value), k ≤ S.als.length ∧ k ≤ 8 ∧ i = .int .i64 (k : Int) ∧ MathA k als ∧ MkI W1 wr W1.heap.size ⟨als, [], [], [], th, de⟩ va (.slice none 0 0) (.slice none 0 0) (.slice none 0 0)) (fun i _ => 9 - (intOf i).toNat)
   case atStart => exact ⟨0, [], _, Nat.zero_le _, by omega, rfl, MathA.nil, HM0.out⟩
   case round =>
    obtain ⟨k, als, va, hk, hk8, rfl, hMA, hM1⟩ := hrel
    obtain ⟨d0, d1, d2, d3, d4, d5, d6⟩ := H7.out wr hM1.bel
    have hal := hMA.len
    have HMA := Lib.hid hMA
    have HM1 := Lib.hid hM1
    have hbw := hM1.bel
    have hlB := lt_of_block hM1.blk
    clear hMA hM1
    by_cases hlt : k < S.als.length
    ·have hki : (k : Int) < (S.als.length : Int) := by omega
     have hd : decide ((k : Int) < (S.als.length : Int)) = true := decide_eq_true hki
     by_cases hlt8 : k < 8
     ·have hki8 : (k : Int) < 8 := by omega
      have hk0 : (0 : Int) ≤ (k : Int) := by omega
      obtain ⟨s, hs⟩ : ∃ s, S.als[k]? = some s := ⟨_, List.getElem?_eq_getElem hlt⟩
      obtain ⟨g, o, rfl, hcc⟩ := HCA.out k s hs
      have c0 := ((HB.out wr hbw).cell (p := ⟨g, o + k * 7, none⟩) (lt_cellZ (hcc 0 _ rfl))).trans (hcc 0 _ rfl)
      have c1 := ((HB.out wr hbw).cell (p := ⟨g, o + k * 7 + 1, none⟩) (lt_cellZ (hcc 1 _ rfl))).trans (hcc 1 _ rfl)
      have c2 := ((HB.out wr hbw).cell (p := ⟨g, o + k * 7 + 2, none⟩) (lt_cellZ (hcc 2 _ rfl))).trans (hcc 2 _ rfl)
      have c3 := ((HB.out wr hbw).cell (p := ⟨g, o + k * 7 + 3, none⟩) (lt_cellZ (hcc 3 _ rfl))).trans (hcc 3 _ rfl)
      have c4 := ((HB.out wr hbw).cell (p := ⟨g, o + k * 7 + 4, none⟩) (lt_cellZ (hcc 4 _ rfl))).trans (hcc 4 _ rfl)
      have c5 := ((HB.out wr hbw).cell (p := ⟨g, o + k * 7 + 5, none⟩) (lt_cellZ (hcc 5 _ rfl))).trans (hcc 5 _ rfl)
      have c6 := ((HB.out wr hbw).cell (p := ⟨g, o + k * 7 + 6, none⟩) (lt_cellZ (hcc 6 _ rfl))).trans (hcc 6 _ rfl)
      obtain ⟨a, ha⟩ : ∃ a, madeA s = a := ⟨_, rfl⟩
      have HMd := Lib.hid (fun w' => show Calls Try.prog 16 #[.agg #[.int .i64 s.kind, .int .i64 s.a, .int .i64 s.b, .int .i64 s.l, .int .i64 s.s, .int .i64 s.r, .int .i64 s.odd]] w' fun e w'' => e = .returned (.agg #[.int .i64 a.k, .string a.a, .string a.b, .string a.l, .string a.s, .string a.r]) ∧ Below w'.heap.size w' w'' from by rw [← ha]; exact made_any s w')
      have HAS := Lib.hid (show AlS a from by rw [← ha]; exact made_small s)
      have HAM := Lib.hid (show ∃ s, a = madeA s from ⟨s, ha.symm⟩)
      clear hcc hs ha
      go_upto_region 6 with (go_at_call 16; (with_reducible refine (HMd.out _).mono ?_); rintro e w5 ⟨rfl, hb5⟩)
      obtain ⟨Wa, hWa⟩ : ∃ Wa, w5.alloc (.cells #[.int .i64 a.k, .string a.a, .string a.b, .string a.l, .string a.s, .string a.r] 54) = Wa := ⟨_, rfl⟩
      have hA5 : Wa.heap[w5.heap.size]? = some (.cells #[.int .i64 a.k, .string a.a, .string a.b, .string a.l, .string a.s, .string a.r] 54 (0, 0)) := by rw [← hWa]; exact World.alloc_heap_new _ _
      have hMa := (HM1.out.below hb5).below (show Below w5.heap.size w5 Wa by rw [← hWa]; exact (Below.refl _ _).alloc (Nat.le_refl _) _)
      obtain ⟨ra, rc, hva, hrow⟩ := hMa.rows.a.opened
      have HRW := Lib.hid hrow
      subst hva
      have HMa := Lib.hid hMa
      have HA5 := Lib.hid hA5
      rw [hWa]
      obtain ⟨wo, rfl⟩ : ∃ x, x = wr := ⟨_, rfl⟩
      obtain ⟨z0, z1, z2, z3, z4, z5⟩ := cells6 hMa.blk
      clear hWa hrow hMa hA5 HM1 HMd hb5 c0 c1 c2 c3 c4 c5 c6 d0 d1 d2 d3 d4 d5 d6 hbw hlB
      go_wp2_with fail
      go_loopw [6, 7] (fun t j wr => ∃ m : Nat, m ≤ als.length ∧ j = .int .i64 (m : Int) ∧ t = .bool (anyA als a m) ∧ Below Wa.heap.size Wa wr) (fun _ j _ => als.length - (intOf j).toNat)
      case atStart => exact ⟨0, Nat.zero_le _, rfl, rfl, Below.refl _ _⟩
      case round =>
       obtain ⟨m, hm, rfl, rfl, hQ⟩ := hrel
       clear z0 z1 z2 z3 z4 z5
       obtain ⟨z0, z1, z2, z3, z4, z5⟩ := cells6 ((HMa.out.below hQ).blk)
       by_cases hmlt : m < als.length
       ·have hmi : (m : Int) < (als.length : Int) := by omega
        have hm0 : (0 : Int) ≤ (m : Int) := by omega
        obtain ⟨x, hx⟩ : ∃ x, als[m]? = some x := ⟨_, List.getElem?_eq_getElem hmlt⟩
        have HANY := Lib.hid (show anyA als a (m + 1) = (anyA als a m || (cmpA x a == 0)) from any_takeZ _ hx)
        generalize anyA als a m = b at *
        cases b with
        | true =>
         clear hx
         go_upto_region 10 with fail
         go_quiet (fail)
         go_wp2_with fail
         go_roundw
         case rel => exact ⟨m + 1, by omega, by go_num, by rw [HANY.out]; rfl, below_drewN hQ _⟩
         case measure => simp [intOf]; omega
        | false =>
         obtain ⟨g, o, rfl, hcx⟩ := HRW.out m x hx
         obtain ⟨c, hc⟩ : ∃ c, cmpA x a = c := ⟨_, rfl⟩
         have HCM := Lib.hid (onward Wa (fun w' => show Calls Try.prog 17 #[.agg #[.int .i64 x.k, .string x.a, .string x.b, .string x.l, .string x.s, .string x.r], .agg #[.int .i64 a.k, .string a.a, .string a.b, .string a.l, .string a.s, .string a.r]] w' fun e w'' => e = .returned (.int .i64 c) ∧ Below w'.heap.size w' w'' from by rw [← hc]; exact compare_al_ref x a w')).out
         rw [hc] at HANY
         have HS := Lib.hid (fun w' (h : Below Wa.heap.size Wa w') => show Below Wa.heap.size Wa w' ∧ w'.cell? ⟨W1.heap.size, 0, none⟩ = some (.slice (some ⟨g, o, none⟩) als.length rc) ∧ w'.cell? ⟨g, o + m * 6, none⟩ = some (.int .i64 x.k) ∧ w'.cell? ⟨g, o + m * 6 + 1, none⟩ = some (.string x.a) ∧ w'.cell? ⟨g, o + m * 6 + 2, none⟩ = some (.string x.b) ∧ w'.cell? ⟨g, o + m * 6 + 3, none⟩ = some (.string x.l) ∧ w'.cell? ⟨g, o + m * 6 + 4, none⟩ = some (.string x.s) ∧ w'.cell? ⟨g, o + m * 6 + 5, none⟩ = some (.string x.r) ∧ w'.cell? ⟨w5.heap.size, 0, none⟩ = some (.int .i64 a.k) ∧ w'.cell? ⟨w5.heap.size, 1, none⟩ = some (.string a.a) ∧ w'.cell? ⟨w5.heap.size, 2, none⟩ = some (.string a.b) ∧ w'.cell? ⟨w5.heap.size, 3, none⟩ = some (.string a.l) ∧ w'.cell? ⟨w5.heap.size, 4, none⟩ = some (.string a.s) ∧ w'.cell? ⟨w5.heap.size, 5, none⟩ = some (.string a.r) from ⟨h, (cells6 (HMa.out.below h).blk).1, (h.cell (p := ⟨g, o + m * 6, none⟩) (lt_cellZ (hcx 0 _ rfl))).trans (hcx 0 _ rfl), (h.cell (p := ⟨g, o + m * 6 + 1, none⟩) (lt_cellZ (hcx 1 _ rfl))).trans (hcx 1 _ rfl), (h.cell (p := ⟨g, o + m * 6 + 2, none⟩) (lt_cellZ (hcx 2 _ rfl))).trans (hcx 2 _ rfl), (h.cell (p := ⟨g, o + m * 6 + 3, none⟩) (lt_cellZ (hcx 3 _ rfl))).trans (hcx 3 _ rfl), (h.cell (p := ⟨g, o + m * 6 + 4, none⟩) (lt_cellZ (hcx 4 _ rfl))).trans (hcx 4 _ rfl), (h.cell (p := ⟨g, o + m * 6 + 5, none⟩) (lt_cellZ (hcx 5 _ rfl))).trans (hcx 5 _ rfl), cells6 ((h.block _ (lt_of_block HA5.out)).trans HA5.out)⟩)
         have hQd : Below Wa.heap.size Wa wr.drew := Below.drew hQ
         have HQ := Lib.hid hQ
         clear hx hcx hc hQ
         cases hz : (c == 0)
         all_goals
          go_upto_region 10 with fail
          go_region_held3 (fun w' => Below Wa.heap.size Wa w' ∧ w'.cell? ⟨W1.heap.size, 0, none⟩ = some (.slice (some ⟨g, o, none⟩) als.length rc) ∧ w'.cell? ⟨g, o + m * 6, none⟩ = some (.int .i64 x.k) ∧ w'.cell? ⟨g, o + m * 6 + 1, none⟩ = some (.string x.a) ∧ w'.cell? ⟨g, o + m * 6 + 2, none⟩ = some (.string x.b) ∧ w'.cell? ⟨g, o + m * 6 + 3, none⟩ = some (.string x.l) ∧ w'.cell? ⟨g, o + m * 6 + 4, none⟩ = some (.string x.s) ∧ w'.cell? ⟨g, o + m * 6 + 5, none⟩ = some (.string x.r) ∧ w'.cell? ⟨w5.heap.size, 0, none⟩ = some (.int .i64 a.k) ∧ w'.cell? ⟨w5.heap.size, 1, none⟩ = some (.string a.a) ∧ w'.cell? ⟨w5.heap.size, 2, none⟩ = some (.string a.b) ∧ w'.cell? ⟨w5.heap.size, 3, none⟩ = some (.string a.l) ∧ w'.cell? ⟨w5.heap.size, 4, none⟩ = some (.string a.s) ∧ w'.cell? ⟨w5.heap.size, 5, none⟩ = some (.string a.r))
           (exact HS.out _ (by assumption))
           (first | (go_at_call 17; (with_reducible refine (HCM.out _ (by assumption)).mono ?_); rintro e w6 ⟨rfl, hb6⟩))
          all_goals go_wp2_with fail
          all_goals go_roundw
          all_goals first
           | exact ⟨m + 1, by omega, by go_num, by rw [HANY.out, hz]; rfl, by assumption⟩
           | (simp [intOf]; omega)
       ·obtain rfl : m = als.length := by omega
        have hmi : ¬ (als.length : Int) < (als.length : Int) := by omega
        obtain ⟨b, hb⟩ : ∃ b, anyA als a als.length = b := ⟨_, rfl⟩
        rw [hb]
        cases b with
        | true =>
         have HX := Lib.hid (HMa.out.below hQ)
         clear hb
         go_wp2_with fail
         go_roundw
         case rel => exact ⟨k + 1, als, _, by omega, by omega, by go_num, HMA.out.up (by omega), HX.out⟩
         case measure => simp [intOf]; omega
        | false =>
         have HMA2 := Lib.hid (HMA.out.push hb HAM.out)
         have HX := Lib.hid (HMa.out.below hQ)
         have hlX := lt_of_block HX.out.blk
         have hA6 := (hQ.block _ (lt_of_block HA5.out)).trans HA5.out
         obtain ⟨a0, a1, a2, a3, a4, a5⟩ := cells6 hA6
         obtain ⟨i0, hi, hz0, hz1, hz2⟩ := info_parts alInfo
         clear hb hA6
         go_wp2_with (at_builtin; refine wpList_append_own _ rfl _ _ 30 rfl (W1.heap.size + 1) 54 i0 (.agg #[.int .i64 0, .string ByteArray.empty, .string ByteArray.empty, .string ByteArray.empty, .string ByteArray.empty, .string ByteArray.empty]) 6 88 Try.underlying30 hi hz0 hz1 hz2 rfl (by decide) _ _ _ rfl (HX.out.a.alloc _) ⟨_, 0, none⟩ 1 1 [.int .i64 a.k, .string a.a, .string a.b, .string a.l, .string a.s, .string a.r] rfl rfl (cell_newsZ _ [.int .i64 a.k, .string a.a, .string a.b, .string a.l, .string a.s, .string a.r] _) (fun u hu => List.all_eq_true.1 (show ([.int .i64 a.k, .string a.a, .string a.b, .string a.l, .string a.s, .string a.r] : List Value).all (·.oneCell') = true from rfl) u hu) (by unfold maxLen; first | omega | ((try dsimp only); omega) | (simp; done) | (simp; omega)) (by first | omega | ((try dsimp only); omega) | (simp; done) | (simp; omega)) (by first | (simp; done) | (simp; omega)) ?_; intro v' w7 hown7 hgrow7 _; obtain ⟨g1, g2⟩ := HX.out.grownA hgrow7; obtain ⟨q0, q1, q2, q3, q4, q5⟩ := cells6 g1; have f7 := frozenY g1 0; have HM7 := Lib.hid (HX.out.pushA (xs := [a]) hgrow7 hown7 rfl (fun x hx => by obtain rfl := List.mem_singleton.1 hx; exact HAS.out)); clear g1 g2 hgrow7; obtain ⟨va7, vn7, vc7, rfl⟩ := own_sliceZ hown7; clear hown7)
         go_roundw
         case rel => exact ⟨k + 1, als ++ [a], _, by omega, by omega, by go_num, HMA2.out, HM7.out⟩
         case measure => simp [intOf]; omega
     ·obtain rfl : k = 8 := by omega
      go_wp2_with fail
      go_meet
      case rel => exact ⟨als, _, rfl, HMA.out.up (by omega), HM1.out⟩
    ·have hki : ¬ (k : Int) < (S.als.length : Int) := by omega
     have hd : decide ((k : Int) < (S.als.length : Int)) = false := decide_eq_false hki
     go_wp2_with fail
     go_meet
     case rel => exact ⟨als, _, rfl, HMA.out.up (by omega), HM1.out⟩
  case rest =>
   obtain ⟨als, va, rfl, hMA, hM1⟩ := hcut
   have HMA := Lib.hid hMA
   have HM1 := Lib.hid hM1
   clear hMA hM1 HM0
   go_step
   go_step
   go_cut [3] from 69 to 145 (fun u wx => ∃ lks vl, u = .pointer (some ⟨W1.heap.size, 0, none⟩) ∧ MathL (2 * min S.lks.length 8) lks ∧ MkI W1 wx W1.heap.size ⟨als, lks, [], [], th, de⟩ va vl (.slice none 0 0) (.slice none 0 0))
   case first =>
    go_wp2_with fail
    go_loopw [8] (fun i wr => ∃ (k : Nat) (lks : List Lk) (vl : Value), k ≤ S.lks.length ∧ k ≤ 8 ∧ i = .int .i64 (k : Int) ∧ MathL (2 * k) lks ∧ MkI W1 wr W1.heap.size ⟨als, lks, [], [], th, de⟩ va vl (.slice none 0 0) (.slice none 0 0)) (fun i _ => 9 - (intOf i).toNat)
    case atStart => exact ⟨0, [], _, Nat.zero_le _, by omega, rfl, MathL.nil, HM1.out⟩
    case round =>
     obtain ⟨k, lks, vl, hk, hk8, rfl, hML, hM2⟩ := hrel
     obtain ⟨d0, d1, d2, d3, d4, d5, d6⟩ := H7.out wr hM2.bel
     have hll := hML.len
     have HML := Lib.hid hML
     have HM2 := Lib.hid hM2
     have hbw := hM2.bel
     have hlB := lt_of_block hM2.blk
     clear hML hM2
     by_cases hlt : k < S.lks.length
     ·have hki : (k : Int) < (S.lks.length : Int) := by omega
      have hd : decide ((k : Int) < (S.lks.length : Int)) = true := decide_eq_true hki
      by_cases hlt8 : k < 8
      ·have hki8 : (k : Int) < 8 := by omega
       have hk0 : (0 : Int) ≤ (k : Int) := by omega
       obtain ⟨s, hs⟩ : ∃ s, S.lks[k]? = some s := ⟨_, List.getElem?_eq_getElem hlt⟩
       obtain ⟨g, o, rfl, hcc⟩ := HCL.out k s hs
       have c0 : wr.cell? ⟨g, o + k, none⟩ = some (.int .i64 s) := by have h := ((HB.out wr hbw).cell (p := ⟨g, o + k * 1 + 0, none⟩) (lt_cellZ (hcc 0 _ rfl))).trans (hcc 0 _ rfl); rwa [Nat.mul_one, Nat.add_zero] at h
       have HLk := Lib.hid (fun w' => likely_any s w')
       clear hcc hs
       go_upto_region 17 with (go_at_call 18; (with_reducible refine (HLk.out _).mono ?_); rintro e w5 ⟨l, gl, cl5, rfl, hRl, hl2, hls, hlp, hgl, hb5⟩)
       have hM5 := HM2.out.below hb5
       have hw5 := hb5.size
       have HY := Lib.hid (show ∀ i y, l[i]? = some y → ∀ j v, (lkC y)[j]? = some v → w5.cell? ⟨gl, i * 6 + j, none⟩ = some v from fun i y hy j v hv => by
        obtain ⟨ao, cap, he, hr⟩ := hRl.opened
        obtain ⟨g, o, rfl, hc⟩ := hr i y hy
        injection he with e1 e2 e3
        injection e1 with e1
        injection e1 with e1 e2
        subst e1 e2
        have h := hc j v hv
        rwa [Nat.zero_add] at h)
       have hne5 : vl.ownBlock ≠ some gl := fun e => by have := (HM2.out.l.lt gl e).2; omega
       have HLS := Lib.hid hls
       have HLP := Lib.hid hlp
       clear hlp
       have HM5 := Lib.hid hM5
       have HNE := Lib.hid hne5
       obtain ⟨wo, rfl⟩ : ∃ x, x = wr := ⟨_, rfl⟩
       clear hRl hls hM5 hne5 HLk hb5 c0 d0 d1 d2 d3 d4 d5 d6 hbw
       go_wp2_with fail
       go_loopw [10] (fun i wr => ∃ (m : Nat) (lks2 : List Lk) (vl2 : Value), m ≤ l.length ∧ i = .int .i64 (m : Int) ∧ MathL (2 * k + m) lks2 ∧ MkI W1 wr W1.heap.size ⟨als, lks2, [], [], th, de⟩ va vl2 (.slice none 0 0) (.slice none 0 0) ∧ wr.heap[gl]? = w5.heap[gl]? ∧ w5.heap.size ≤ wr.heap.size ∧ Hid (vl2.ownBlock ≠ some gl)) (fun i _ => l.length - (intOf i).toNat)
       case atStart => exact ⟨0, lks, _, Nat.zero_le _, rfl, HML.out, HM5.out, rfl, Nat.le_refl _, HNE⟩
       case round =>
        obtain ⟨m, lks2, vl2, hm, rfl, hML2, hM6, hgl6, hsz6, HNE2⟩ := hrel
        have hll2 := hML2.len
        have HML2 := Lib.hid hML2
        have HM6 := Lib.hid hM6
        have HG6 := Lib.hid hgl6
        have hlB6 := lt_of_block hM6.blk
        clear hML2 hgl6 hM6 HM5 HNE HM2 HML
        by_cases hmlt : m < l.length
        ·have hmi : (m : Int) < (l.length : Int) := by omega
         have hm0 : (0 : Int) ≤ (m : Int) := by omega
         obtain ⟨y, hy⟩ : ∃ y, l[m]? = some y := ⟨_, List.getElem?_eq_getElem hmlt⟩
         have HYC := Lib.hid (fun w' (h : Below wr.heap.size wr w') (j : Nat) (v : Value) (hv : (lkC y)[j]? = some v) => show w'.cell? ⟨gl, m * 6 + j, none⟩ = some v from by
          have h1 := HY.out m y hy j v hv
          have h2 : wr.cell? ⟨gl, m * 6 + j, none⟩ = some v := (World.cell?_of_block (a := ⟨gl, m * 6 + j, none⟩) HG6.out).trans h1
          exact (h.cell (p := ⟨gl, m * 6 + j, none⟩) (lt_cellZ h2)).trans h2)
         have hglt : gl < w5.heap.size := lt_cellZ (HY.out m y hy 0 _ rfl)
         have HYS := Lib.hid (HLS.out y (List.mem_of_getElem? hy))
         have HYP := Lib.hid (HLP.out y (List.mem_of_getElem? hy))
         obtain ⟨ra, rc, hvl, hrow⟩ := HM6.out.rows.l.opened
         have HRW := Lib.hid hrow
         subst hvl
         obtain ⟨wp, rfl⟩ : ∃ x, x = wr := ⟨_, rfl⟩
         obtain ⟨z0, z1, z2, z3, z4, z5⟩ := cells6 HM6.out.blk
         clear hrow hy
         go_wp2_with fail
         go_loopw [11, 12, 13] (fun t j _ wr => ∃ q : Nat, q ≤ lks2.length ∧ j = .int .i64 (q : Int) ∧ t = .bool (anyL lks2 y q) ∧ Below wp.heap.size wp wr) (fun _ j _ _ => lks2.length - (intOf j).toNat)
         case atStart => exact ⟨0, Nat.zero_le _, rfl, rfl, Below.refl _ _⟩
         case round =>
          obtain ⟨q, hq, rfl, rfl, hQ⟩ := hrel
          clear z0 z1 z2 z3 z4 z5
          obtain ⟨z0, z1, z2, z3, z4, z5⟩ := cells6 ((HM6.out.below hQ).blk)
          by_cases hqlt : q < lks2.length
          ·have hqi : (q : Int) < (lks2.length : Int) := by omega
           have hq0 : (0 : Int) ≤ (q : Int) := by omega
           obtain ⟨x, hx⟩ : ∃ x, lks2[q]? = some x := ⟨_, List.getElem?_eq_getElem hqlt⟩
           have HANY := Lib.hid (show anyL lks2 y (q + 1) = (anyL lks2 y q || sameLk x y) from any_takeZ _ hx)
           obtain ⟨g, o, rfl, hcx⟩ := HRW.out q x hx
           have b0 := (hQ.cell (p := ⟨g, o + q * 6, none⟩) (lt_cellZ (hcx 0 _ rfl))).trans (hcx 0 _ rfl)
           have b1 := (hQ.cell (p := ⟨g, o + q * 6 + 1, none⟩) (lt_cellZ (hcx 1 _ rfl))).trans (hcx 1 _ rfl)
           have b2 := (hQ.cell (p := ⟨g, o + q * 6 + 2, none⟩) (lt_cellZ (hcx 2 _ rfl))).trans (hcx 2 _ rfl)
           have b3 := (hQ.cell (p := ⟨g, o + q * 6 + 3, none⟩) (lt_cellZ (hcx 3 _ rfl))).trans (hcx 3 _ rfl)
           have b4 := (hQ.cell (p := ⟨g, o + q * 6 + 4, none⟩) (lt_cellZ (hcx 4 _ rfl))).trans (hcx 4 _ rfl)
           have b5 := (hQ.cell (p := ⟨g, o + q * 6 + 5, none⟩) (lt_cellZ (hcx 5 _ rfl))).trans (hcx 5 _ rfl)
           clear hcx hx
           go_upto_region 25 with fail
           obtain ⟨W6, hW6⟩ : ∃ W6, wr.alloc (.cells #[.string x.l, .string x.s, .string x.r, .string x.tl, .string x.ts, .string x.tr] 61) = W6 := ⟨_, rfl⟩
           have hX6 : W6.heap[wr.heap.size]? = some (.cells #[.string x.l, .string x.s, .string x.r, .string x.tl, .string x.ts, .string x.tr] 61 (0, 0)) := by rw [← hW6]; exact World.alloc_heap_new _ _
           have hQ6 : Below wp.heap.size wp W6 := by rw [← hW6]; exact hQ.alloc hQ.size _
           rw [hW6]
           obtain ⟨x0, x1, x2, x3, x4, x5⟩ := cells6 hX6
           have y0 : W6.cell? ⟨gl, m * 6, none⟩ = some (.string y.l) := HYC.out _ hQ6 0 _ rfl
           have y1 : W6.cell? ⟨gl, m * 6 + 1, none⟩ = some (.string y.s) := HYC.out _ hQ6 1 _ rfl
           have y2 : W6.cell? ⟨gl, m * 6 + 2, none⟩ = some (.string y.r) := HYC.out _ hQ6 2 _ rfl
           have HQ6 := Lib.hid hQ6
           clear hW6 hX6 hQ6 b0 b1 b2 b3 b4 b5 z0 z1 z2 z3 z4 z5 x3 x4 x5 hQ
           generalize anyL lks2 y q = b at *
           generalize wr.heap.size = nX at *
           cases b with
           | true =>
            go_quiet (fail)
            go_wp2_with fail
            go_roundw
            case rel => exact ⟨q + 1, by omega, by go_num, by rw [HANY.out]; rfl, below_drewN HQ6.out _⟩
            case measure => simp [intOf]; omega
           | false =>
            cases e1 : (x.l.toList == y.l.toList)
            case' true => cases e2 : (x.s.toList == y.s.toList)
            case' true.true => cases e3 : (x.r.toList == y.r.toList)
            all_goals go_quiet (fail)
            all_goals go_wp2_with fail
            all_goals go_roundw
            all_goals first
             | exact ⟨q + 1, by omega, by go_num, by rw [HANY.out]; unfold sameLk; simp only [*]; rfl, below_drewN HQ6.out _⟩
             | (simp [intOf]; omega)
          ·obtain rfl : q = lks2.length := by omega
           have hqi : ¬ (lks2.length : Int) < (lks2.length : Int) := by omega
           obtain ⟨b, hb⟩ : ∃ b, anyL lks2 y lks2.length = b := ⟨_, rfl⟩
           rw [hb]
           have hMq := HM6.out.below hQ
           have hGq : wr.heap[gl]? = w5.heap[gl]? := (hQ.block gl (by omega)).trans HG6.out
           have hSq := hQ.size
           have HMq := Lib.hid hMq
           have HGq := Lib.hid hGq
           cases b with
           | true =>
            clear hb hMq hGq
            go_wp2_with fail
            go_roundw
            case rel => exact ⟨m + 1, lks2, _, by omega, by go_num, HML2.out.up (by omega), HMq.out, HGq.out, by omega, HNE2⟩
            case measure => simp [intOf]; omega
           | false =>
            have HML3 := Lib.hid (HML2.out.push hb HYP.out)
            have HD := Lib.hid (hMq.below (Below.drew (Below.refl _ _)))
            have HA := Lib.hid ((hMq.below ((Below.refl _ _).alloc (Nat.le_refl _) (.cells #[.string y.l, .string y.s, .string y.r, .string y.tl, .string y.ts, .string y.tr] 61))).below (Below.drew (Below.refl _ _)))
            obtain ⟨-, e1, -⟩ := cells6 HD.out.blk
            obtain ⟨-, a1, -⟩ := cells6 HA.out.blk
            have y0 : wr.drew.cell? ⟨gl, m * 6, none⟩ = some (.string y.l) := HYC.out _ (Below.drew hQ) 0 _ rfl
            have y1 : wr.drew.cell? ⟨gl, m * 6 + 1, none⟩ = some (.string y.s) := HYC.out _ (Below.drew hQ) 1 _ rfl
            have y2 : wr.drew.cell? ⟨gl, m * 6 + 2, none⟩ = some (.string y.r) := HYC.out _ (Below.drew hQ) 2 _ rfl
            have y3 : wr.drew.cell? ⟨gl, m * 6 + 3, none⟩ = some (.string y.tl) := HYC.out _ (Below.drew hQ) 3 _ rfl
            have y4 : wr.drew.cell? ⟨gl, m * 6 + 4, none⟩ = some (.string y.ts) := HYC.out _ (Below.drew hQ) 4 _ rfl
            have y5 : wr.drew.cell? ⟨gl, m * 6 + 5, none⟩ = some (.string y.tr) := HYC.out _ (Below.drew hQ) 5 _ rfl
            have hnb : (wr.alloc (.cells #[.string y.l, .string y.s, .string y.r, .string y.tl, .string y.ts, .string y.tr] 61)).drew.heap[wr.heap.size]? = some (.cells #[.string y.l, .string y.s, .string y.r, .string y.tl, .string y.ts, .string y.tr] 61 (0, 0)) := World.alloc_heap_new wr _
            have HNB := Lib.hid hnb
            have hlw := lt_of_block hMq.blk
            have hls : (wr.alloc (.cells #[.string y.l, .string y.s, .string y.r, .string y.tl, .string y.ts, .string y.tr] 61)).drew.heap.size = wr.heap.size + 1 := by simp
            have HLSz := Lib.hid hls
            obtain ⟨i0, hi, hz0, hz1, hz2⟩ := info_parts lkInfo
            have HQ := Lib.hid hQ
            clear hb hMq hGq hnb hls hQ
            go_upto_region 27 with fail
            go_region_law (refine step_append_lies _ rfl _ _ 31 rfl (W1.heap.size + 1) 61 i0 (.agg #[.string ByteArray.empty, .string ByteArray.empty, .string ByteArray.empty, .string ByteArray.empty, .string ByteArray.empty, .string ByteArray.empty]) 6 96 Try.underlying31 hi hz0 hz1 hz2 rfl (by decide) (.slice ra lks2.length rc) lks2.length ((lks2.map lkC).flatMap id) rfl HA.out.l ⟨_, 0, none⟩ 1 1 [.string y.l, .string y.s, .string y.r, .string y.tl, .string y.ts, .string y.tr] rfl rfl (World.news_of_block HNB.out) (fun u hu => List.all_eq_true.1 (show ([.string y.l, .string y.s, .string y.r, .string y.tl, .string y.ts, .string y.tr] : List Value).all (·.oneCell') = true from rfl) u hu) (by decide) (by unfold maxLen; omega) (by omega) (by rw [HLSz.out]; omega) (wr.heap.size + 1) HLSz.out ?_; intro g7 cap7 w7 hown7 hgrow7 hor7 _; obtain ⟨g1, g2⟩ := HMq.out.grownL (o := .cells #[.string y.l, .string y.s, .string y.r, .string y.tl, .string y.ts, .string y.tr] 61) ⟨hgrow7.os, hgrow7.tape, hgrow7.output, hgrow7.size, hgrow7.block⟩; obtain ⟨q0, q1, q2, q3, q4, q5⟩ := cells6 g1; have f7 := frozenY g1 1; have HX7 := Lib.hid (HMq.out.pushL (o := .cells #[.string y.l, .string y.s, .string y.r, .string y.tl, .string y.ts, .string y.tr] 61) (xs := [y]) ⟨hgrow7.os, hgrow7.tape, hgrow7.output, hgrow7.size, hgrow7.block⟩ hown7 rfl (fun x hx => by obtain rfl := List.mem_singleton.1 hx; exact HYS.out)); have HG7 := Lib.hid ((hgrow7.block gl (by rw [HLSz.out]; omega) (fun e => HNE2.out e.symm)).trans ((Below.heap_alloc wr (.cells #[.string y.l, .string y.s, .string y.r, .string y.tl, .string y.ts, .string y.tr] 61) gl (by omega)).trans HGq.out)); have HS7 := Lib.hid (show w5.heap.size ≤ w7.heap.size by have h1 := hgrow7.size; have h2 := HLSz.out; omega); have HO7 := Lib.hid hor7; clear g1 g2 hgrow7 hown7 hor7)
            all_goals (try go_wp2_with fail)
            all_goals go_roundw
            any_goals (simp [intOf]; omega)
            all_goals exact ⟨m + 1, lks2 ++ [y], _, by omega, by go_num, HML3.out, HX7.out, (heap_setCellZ (by omega)).trans HG7.out, setCell_sizeZ HS7.out, Lib.hid (ne_liesZ HO7.out HNE2.out (by omega) _ _)⟩
        ·obtain rfl : m = l.length := by omega
         have hmi : ¬ (l.length : Int) < (l.length : Int) := by omega
         obtain ⟨z0, z1, z2, z3, z4, z5⟩ := cells6 HM6.out.blk
         go_wp2_with fail
         go_roundw
         case rel => exact ⟨k + 1, lks2, _, by omega, by omega, by go_num, HML2.out.up (by omega), HM6.out⟩
         case measure => simp [intOf]; omega
      ·obtain rfl : k = 8 := by omega
       go_wp2_with fail
       go_meet
       case rel => exact ⟨lks, _, rfl, HML.out.up (by omega), HM2.out⟩
     ·have hki : ¬ (k : Int) < (S.lks.length : Int) := by omega
      have hd : decide ((k : Int) < (S.lks.length : Int)) = false := decide_eq_false hki
      go_wp2_with fail
      go_meet
      case rel => exact ⟨lks, _, rfl, HML.out.up (by omega), HM2.out⟩
   case rest =>
    obtain ⟨lks, vl, rfl, hML, hM2⟩ := hcut
    have HML := Lib.hid hML
    have HM2 := Lib.hid hM2
    clear hML hM2 HM1
    go_step
    go_step
    go_cut [3] from 146 to 167 (fun u wx => ∃ rls vr, u = .pointer (some ⟨W1.heap.size, 0, none⟩) ∧ rls.length ≤ min S.rls.length 8 ∧ MkI W1 wx W1.heap.size ⟨als, lks, rls, [], th, de⟩ va vl vr (.slice none 0 0))
    case first =>
     go_wp2_with fail
     go_loopw [14] (fun i wr => ∃ (k : Nat) (rls : List Rl) (vr : Value), k ≤ S.rls.length ∧ k ≤ 8 ∧ i = .int .i64 (k : Int) ∧ rls.length ≤ k ∧ MkI W1 wr W1.heap.size ⟨als, lks, rls, [], th, de⟩ va vl vr (.slice none 0 0)) (fun i _ => 9 - (intOf i).toNat)
     case atStart => exact ⟨0, [], _, Nat.zero_le _, by omega, rfl, Nat.le_refl _, HM2.out⟩
     case round =>
      obtain ⟨k, rls, vr, hk, hk8, rfl, hrl, hM3⟩ := hrel
      obtain ⟨d0, d1, d2, d3, d4, d5, d6⟩ := H7.out wr hM3.bel
      have HM3 := Lib.hid hM3
      have hbw := hM3.bel
      have hlB := lt_of_block hM3.blk
      clear hM3
      by_cases hlt : k < S.rls.length
      ·have hki : (k : Int) < (S.rls.length : Int) := by omega
       have hd : decide ((k : Int) < (S.rls.length : Int)) = true := decide_eq_true hki
       by_cases hlt8 : k < 8
       ·have hki8 : (k : Int) < 8 := by omega
        have hk0 : (0 : Int) ≤ (k : Int) := by omega
        obtain ⟨s, hs⟩ : ∃ s, S.rls[k]? = some s := ⟨_, List.getElem?_eq_getElem hlt⟩
        obtain ⟨g, o, rfl, hcc⟩ := HCR.out k s hs
        have c0 : wr.cell? ⟨g, o + k, none⟩ = some (.int .i64 s) := by have h := ((HB.out wr hbw).cell (p := ⟨g, o + k * 1 + 0, none⟩) (lt_cellZ (hcc 0 _ rfl))).trans (hcc 0 _ rfl); rwa [Nat.mul_one, Nat.add_zero] at h
        have HRu := Lib.hid (fun w' => rule_any s w')
        obtain ⟨ra, rn, rc, rfl⟩ := own_sliceZ HM3.out.r
        obtain ⟨rfl, -⟩ := own_lenZ HM3.out.r
        have HD := Lib.hid (HM3.out.below (Below.drew (Below.refl _ _)))
        obtain ⟨-, -, e2, -⟩ := cells6 HD.out.blk
        have c0d : wr.drew.cell? ⟨g, o + k, none⟩ = some (.int .i64 s) := c0
        have d2d : wr.drew.cell? ⟨w.heap.size, 2, none⟩ = some (.slice (some ⟨g, o, none⟩) S.rls.length cr) := d2
        obtain ⟨i0, hi, hz0, hz1, hz2⟩ := info_parts rlInfo
        clear hcc hs
        go_upto_region 31 with fail
        clear c0 d0 d1 d2 d3 d4 d5 d6
        go_region_law (first
         | (go_simp; go_at_call 19; (with_reducible refine (HRu.out _).mono ?_); rintro e w5 ⟨x, rfl, hxs, hb5⟩; have HS5 := Lib.hid (HD.out.below hb5); obtain ⟨-, -, a2, -⟩ := cells6 HS5.out.blk; have HS6 := Lib.hid (HS5.out.below ((Below.refl _ _).alloc (Nat.le_refl _) (.cells #[.int .i64 x.lv, .int .i64 x.co, .bool x.ow, .string x.d0, .string x.d1, .string x.d2, .string x.s0, .string x.s1, .string x.s2] 64))); obtain ⟨-, -, b2, -⟩ := cells6 HS6.out.blk; have HNB := Lib.hid (World.alloc_heap_new w5 (.cells #[.int .i64 x.lv, .int .i64 x.co, .bool x.ow, .string x.d0, .string x.d1, .string x.d2, .string x.s0, .string x.s1, .string x.s2] 64)); have hl5 := lt_of_block HS5.out.blk; have HXS := Lib.hid hxs; clear hb5 hxs)
         | (refine step_append_lies _ rfl _ _ 32 rfl (W1.heap.size + 1) 64 i0 (.agg #[.int .i64 0, .int .i64 0, .bool false, .string ByteArray.empty, .string ByteArray.empty, .string ByteArray.empty, .string ByteArray.empty, .string ByteArray.empty, .string ByteArray.empty]) 9 120 Try.underlying32 hi hz0 hz1 hz2 rfl (by decide) (.slice ra rls.length rc) rls.length ((rls.map rlC).flatMap id) rfl HS6.out.r ⟨_, 0, none⟩ 1 1 [.int .i64 x.lv, .int .i64 x.co, .bool x.ow, .string x.d0, .string x.d1, .string x.d2, .string x.s0, .string x.s1, .string x.s2] rfl rfl (World.news_of_block HNB.out) (fun u hu => List.all_eq_true.1 (show ([.int .i64 x.lv, .int .i64 x.co, .bool x.ow, .string x.d0, .string x.d1, .string x.d2, .string x.s0, .string x.s1, .string x.s2] : List Value).all (·.oneCell') = true from rfl) u hu) (by decide) (by unfold maxLen; omega) (by omega) (by simp; omega) _ rfl ?_; intro g7 cap7 w7 hown7 hgrow7 _ _; obtain ⟨g1, g2⟩ := HS5.out.grownR (o := .cells #[.int .i64 x.lv, .int .i64 x.co, .bool x.ow, .string x.d0, .string x.d1, .string x.d2, .string x.s0, .string x.s1, .string x.s2] 64) hgrow7; obtain ⟨q0, q1, q2, q3, q4, q5⟩ := cells6 g1; have f7 := frozenY g1 2; have HX7 := Lib.hid (HS5.out.pushR (o := .cells #[.int .i64 x.lv, .int .i64 x.co, .bool x.ow, .string x.d0, .string x.d1, .string x.d2, .string x.s0, .string x.s1, .string x.s2] 64) (xs := [x]) hgrow7 hown7 rfl (fun z hz => by obtain rfl := List.mem_singleton.1 hz; exact HXS.out)); clear g1 g2 hgrow7 hown7))
        all_goals (try go_wp2_with fail)
        all_goals go_roundw
        all_goals first
         | exact ⟨k + 1, rls ++ [x], _, by omega, by omega, by go_num, by rw [List.length_append]; exact Nat.succ_le_succ hrl, HX7.out⟩
         | (simp [intOf]; omega)
       ·obtain rfl : k = 8 := by omega
        go_wp2_with fail
        go_meet
        case rel => exact ⟨rls, _, rfl, by omega, HM3.out⟩
      ·have hki : ¬ (k : Int) < (S.rls.length : Int) := by omega
       have hd : decide ((k : Int) < (S.rls.length : Int)) = false := decide_eq_false hki
       go_wp2_with fail
       go_meet
       case rel => exact ⟨rls, _, rfl, by omega, HM3.out⟩
    case rest =>
     obtain ⟨rls, vr, rfl, hrl, hM3⟩ := hcut
     have HM3 := Lib.hid hM3
     have hrl8 : rls.length ≤ 8 := by omega
     clear hM3 HM2
     go_upto_region 32 with fail
     go_cut [3] from 168 to 181 (fun u wx => ∃ vr, u = .pointer (some ⟨W1.heap.size, 0, none⟩) ∧ MkI W1 wx W1.heap.size ⟨als, lks, (rls ++ DEF3), [], th, de⟩ va vl vr (.slice none 0 0))
     case first =>
      obtain ⟨i0a, hia, hz0a, hz1a, hz2a⟩ := info_parts rlInfo
      obtain ⟨z0, z1, z2, z3, z4, z5⟩ := cells6 HM3.out.blk
      have hlB := lt_of_block HM3.out.blk
      obtain ⟨ra, rn, rc, rfl⟩ := own_sliceZ HM3.out.r
      obtain ⟨rfl, -⟩ := own_lenZ HM3.out.r
      go_wp2_with (first | (at_builtin; refine wpList_append_own _ rfl _ _ 32 rfl (W1.heap.size + 1) 64 i0a (.agg #[.int .i64 0, .int .i64 0, .bool false, .string ByteArray.empty, .string ByteArray.empty, .string ByteArray.empty, .string ByteArray.empty, .string ByteArray.empty, .string ByteArray.empty]) 9 120 Try.underlying32 hia hz0a hz1a hz2a rfl (by decide) _ _ _ rfl (HM3.out.r.alloc _) ⟨_, 0, none⟩ 3 3 [.int .i64 1, .int .i64 80, .bool false, .string { data := #[42] }, .string ⟨#[]⟩, .string ⟨#[]⟩, .string { data := #[42] }, .string ⟨#[]⟩, .string ⟨#[]⟩, .int .i64 2, .int .i64 50, .bool false, .string { data := #[42] }, .string { data := #[42] }, .string ⟨#[]⟩, .string { data := #[42] }, .string { data := #[42] }, .string ⟨#[]⟩, .int .i64 3, .int .i64 4, .bool false, .string { data := #[42] }, .string { data := #[42] }, .string { data := #[42] }, .string { data := #[42] }, .string { data := #[42] }, .string { data := #[42] }] rfl rfl (cell_newsZ _ [.int .i64 1, .int .i64 80, .bool false, .string { data := #[42] }, .string ⟨#[]⟩, .string ⟨#[]⟩, .string { data := #[42] }, .string ⟨#[]⟩, .string ⟨#[]⟩, .int .i64 2, .int .i64 50, .bool false, .string { data := #[42] }, .string { data := #[42] }, .string ⟨#[]⟩, .string { data := #[42] }, .string { data := #[42] }, .string ⟨#[]⟩, .int .i64 3, .int .i64 4, .bool false, .string { data := #[42] }, .string { data := #[42] }, .string { data := #[42] }, .string { data := #[42] }, .string { data := #[42] }, .string { data := #[42] }] _) def3_oneZ (by unfold maxLen; first | omega | ((try dsimp only); omega) | (simp; done) | (simp; omega)) (by first | omega | ((try dsimp only); omega) | (simp; done) | (simp; omega)) (by first | (simp; done) | (simp; omega)) ?_; intro v'a w7a hown7a hgrow7aa _; obtain ⟨g1, g2⟩ := HM3.out.grownR hgrow7aa; obtain ⟨q0a, q1a, q2a, q3a, q4a, q5a⟩ := cells6 g1; have f7a := frozenY g1 2; have HM7a := Lib.hid (HM3.out.pushR (xs := DEF3) hgrow7aa hown7a rfl (fun z hz => by simp only [DEF3, List.mem_cons, List.not_mem_nil, or_false] at hz; rcases hz with rfl | rfl | rfl <;> exact ⟨by decide, by decide, by intro t ht; simp only [rlT, List.mem_cons, List.not_mem_nil, or_false] at ht; rcases ht with rfl | rfl | rfl | rfl | rfl | rfl <;> decide⟩)); clear g1 g2 hgrow7aa; obtain ⟨va7a, vn7a, vc7a, rfl⟩ := own_sliceZ hown7a; clear hown7a))
      go_meet
      case rel => exact ⟨_, rfl, HM7a.out⟩
     case rest =>
      obtain ⟨vr, rfl, hM3b⟩ := hcut
      have HM3b := Lib.hid hM3b
      clear hM3b HM3
      go_upto_region 33 with fail
      go_cut [3] from 182 to 187 (fun u wx => ∃ vm, u = .pointer (some ⟨W1.heap.size, 0, none⟩) ∧ MkI W1 wx W1.heap.size ⟨als, lks, (rls ++ DEF3), [⟨EUz, DEz⟩], th, de⟩ va vl vr vm)
      case first =>
       obtain ⟨i0b, hib, hz0b, hz1b, hz2b⟩ := info_parts mbInfo
       obtain ⟨z0, z1, z2, z3, z4, z5⟩ := cells6 HM3b.out.blk
       have hlB := lt_of_block HM3b.out.blk
       go_wp2_with (first | (at_builtin; refine wpList_append_own _ rfl _ _ 33 rfl (W1.heap.size + 1) 67 i0b (.agg #[.string ByteArray.empty, .string ByteArray.empty]) 2 32 Try.underlying33 hib hz0b hz1b hz2b rfl (by decide) _ _ _ rfl (HM3b.out.m.alloc _) ⟨_, 0, none⟩ 1 1 [.string { data := #[101, 117] }, .string { data := #[100, 101] }] rfl rfl (cell_newsZ _ [.string { data := #[101, 117] }, .string { data := #[100, 101] }] _) (fun u hu => List.all_eq_true.1 (show ([.string { data := #[101, 117] }, .string { data := #[100, 101] }] : List Value).all (·.oneCell') = true from rfl) u hu) (by unfold maxLen; first | omega | ((try dsimp only); omega) | (simp; done) | (simp; omega)) (by first | omega | ((try dsimp only); omega) | (simp; done) | (simp; omega)) (by first | (simp; done) | (simp; omega)) ?_; intro v'b w7b hown7b hgrow7bb _; obtain ⟨g1, g2⟩ := HM3b.out.grownM hgrow7bb; obtain ⟨q0b, q1b, q2b, q3b, q4b, q5b⟩ := cells6 g1; have f7b := frozenY g1 3; have HM7b := Lib.hid (HM3b.out.pushM (xs := [⟨EUz, DEz⟩]) hgrow7bb hown7b rfl (fun z hz => by obtain rfl := List.mem_singleton.1 hz; exact ⟨by decide, by decide⟩)); clear g1 g2 hgrow7bb; obtain ⟨va7b, vn7b, vc7b, rfl⟩ := own_sliceZ hown7b; clear hown7b))
       go_meet
       case rel => exact ⟨_, rfl, HM7b.out⟩
      case rest =>
       obtain ⟨vm, rfl, hM4⟩ := hcut
       have HM4 := Lib.hid hM4
       clear hM4 HM3b
       go_step
       go_step
       go_cut [3] from 188 to 232 (fun u wx => ∃ mbs vm, u = .pointer (some ⟨W1.heap.size, 0, none⟩) ∧ MathM (min S.mbs.length 6) mbs ∧ MkI W1 wx W1.heap.size ⟨als, lks, (rls ++ DEF3), mbs, th, de⟩ va vl vr vm)
       case first =>
        go_wp2_with fail
        go_loopw [15] (fun i wr => ∃ (k : Nat) (mbs : List Mb) (vm : Value), k ≤ S.mbs.length ∧ k ≤ 6 ∧ i = .int .i64 (k : Int) ∧ MathM k mbs ∧ MkI W1 wr W1.heap.size ⟨als, lks, (rls ++ DEF3), mbs, th, de⟩ va vl vr vm) (fun i _ => 7 - (intOf i).toNat)
        case atStart => exact ⟨0, _, _, Nat.zero_le _, by omega, rfl, MathM.start, HM4.out⟩
        case round =>
         obtain ⟨k, mbs, vm, hk, hk8, rfl, hMM, hM5⟩ := hrel
         obtain ⟨d0, d1, d2, d3, d4, d5, d6⟩ := H7.out wr hM5.bel
         have hml := hMM.len
         have HMM := Lib.hid hMM
         have HM5 := Lib.hid hM5
         have hbw := hM5.bel
         have hlB := lt_of_block hM5.blk
         clear hMM hM5
         by_cases hlt : k < S.mbs.length
         ·have hki : (k : Int) < (S.mbs.length : Int) := by omega
          have hd : decide ((k : Int) < (S.mbs.length : Int)) = true := decide_eq_true hki
          by_cases hlt8 : k < 6
          ·have hki8 : (k : Int) < 6 := by omega
           have hk0 : (0 : Int) ≤ (k : Int) := by omega
           obtain ⟨s, hs⟩ : ∃ s, S.mbs[k]? = some s := ⟨_, List.getElem?_eq_getElem hlt⟩
           obtain ⟨g, o, rfl, hcc⟩ := HCM.out k s hs
           have c0 : wr.cell? ⟨g, o + k, none⟩ = some (.int .i64 s) := by have h := ((HB.out wr hbw).cell (p := ⟨g, o + k * 1 + 0, none⟩) (lt_cellZ (hcc 0 _ rfl))).trans (hcc 0 _ rfl); rwa [Nat.mul_one, Nat.add_zero] at h
           have hbA : Below wr.heap.size wr (wr.alloc (.cells #[.string { data := #[102, 114] }, .string { data := #[103, 98] }, .string { data := #[117, 115] }, .string { data := #[52, 49, 57] }, .string { data := #[114, 111] }] 9)) := (Below.refl _ _).alloc (Nat.le_refl _) _
           have c0a := (hbA.cell (p := ⟨g, o + k, none⟩) (lt_cellZ c0)).trans c0
           have d3a := (hbA.cell (p := ⟨w.heap.size, 3, none⟩) (lt_cellZ d3)).trans d3
           obtain ⟨r, hr⟩ : ∃ r, pickS [(⟨#[102, 114]⟩ : ByteArray), (⟨#[103, 98]⟩ : ByteArray), (⟨#[117, 115]⟩ : ByteArray), (⟨#[52, 49, 57]⟩ : ByteArray), (⟨#[114, 111]⟩ : ByteArray)] s = r := ⟨_, rfl⟩
           have HPk := Lib.hid (show Calls Try.prog 20 #[.slice (some ⟨wr.heap.size, 0, none⟩) 5 5, .int .i64 s] (wr.alloc (.cells #[.string { data := #[102, 114] }, .string { data := #[103, 98] }, .string { data := #[117, 115] }, .string { data := #[52, 49, 57] }, .string { data := #[114, 111] }] 9)) fun e w'' => e = .returned (.string r) ∧ (wr.alloc (.cells #[.string { data := #[102, 114] }, .string { data := #[103, 98] }, .string { data := #[117, 115] }, .string { data := #[52, 49, 57] }, .string { data := #[114, 111] }] 9)) = w'' from by rw [← hr]; exact pickY_ref _ [(⟨#[102, 114]⟩ : ByteArray), (⟨#[103, 98]⟩ : ByteArray), (⟨#[117, 115]⟩ : ByteArray), (⟨#[52, 49, 57]⟩ : ByteArray), (⟨#[114, 111]⟩ : ByteArray)] s _ (RowP.of_block _ 5 5 rfl (World.alloc_heap_new _ _)) (by decide) (by decide))
           have hrs : r.size ≤ 1000 := by rw [← hr]; exact Nat.le_trans (pickS_size (m := 3) (by decide) (by decide)) (by decide)
           have HRS := Lib.hid hrs
           have HMA5 := Lib.hid (HM5.out.below hbA)
           clear hcc hs hr c0
           go_upto_region 38 with (go_at_call 20; (with_reducible refine HPk.out.mono ?_); rintro e w6 ⟨rfl, rfl⟩)
           obtain ⟨wo, hwo⟩ : ∃ x, wr.alloc (.cells #[.string { data := #[102, 114] }, .string { data := #[103, 98] }, .string { data := #[117, 115] }, .string { data := #[52, 49, 57] }, .string { data := #[114, 111] }] 9) = x := ⟨_, rfl⟩
           rw [hwo] at HMA5 ⊢
           clear hwo hbA c0a d3a HPk d0 d1 d2 d3 d4 d5 d6 hrs
           obtain ⟨ra, rc, hvm, hrow⟩ := HMA5.out.rows.m.opened
           have HRW := Lib.hid hrow
           subst hvm
           obtain ⟨z0, z1, z2, z3, z4, z5⟩ := cells6 HMA5.out.blk
           clear hrow
           go_wp2_with fail
           go_loopw [17, 18] (fun t j wr => ∃ q : Nat, q ≤ mbs.length ∧ j = .int .i64 (q : Int) ∧ t = .bool (anyM mbs r q) ∧ Below wo.heap.size wo wr) (fun _ j _ => mbs.length - (intOf j).toNat)
           case atStart => exact ⟨0, Nat.zero_le _, rfl, rfl, Below.refl _ _⟩
           case round =>
            obtain ⟨q, hq, rfl, rfl, hQ⟩ := hrel
            clear z0 z1 z2 z3 z4 z5
            obtain ⟨z0, z1, z2, z3, z4, z5⟩ := cells6 ((HMA5.out.below hQ).blk)
            by_cases hqlt : q < mbs.length
            ·have hqi : (q : Int) < (mbs.length : Int) := by omega
             have hq0 : (0 : Int) ≤ (q : Int) := by omega
             obtain ⟨x, hx⟩ : ∃ x, mbs[q]? = some x := ⟨_, List.getElem?_eq_getElem hqlt⟩
             have HANY := Lib.hid (show anyM mbs r (q + 1) = (anyM mbs r q || (x.rg.toList == r.toList)) from any_takeZ _ hx)
             obtain ⟨g, o, rfl, hcx⟩ := HRW.out q x hx
             have b1 := (hQ.cell (p := ⟨g, o + q * 2 + 1, none⟩) (lt_cellZ (hcx 1 _ rfl))).trans (hcx 1 _ rfl)
             have HQ := Lib.hid hQ
             clear hcx hx hQ
             generalize anyM mbs r q = b at *
             cases b with
             | true =>
              go_wp2_with fail
              go_roundw
              case rel => exact ⟨q + 1, by omega, by go_num, by rw [HANY.out]; rfl, HQ.out⟩
              case measure => simp [intOf]; omega
             | false =>
              cases e1 : (x.rg.toList == r.toList)
              all_goals go_wp2_with fail
              all_goals go_roundw
              all_goals first
               | exact ⟨q + 1, by omega, by go_num, by rw [HANY.out, e1]; rfl, HQ.out⟩
               | (simp [intOf]; omega)
            ·obtain rfl : q = mbs.length := by omega
             have hqi : ¬ (mbs.length : Int) < (mbs.length : Int) := by omega
             obtain ⟨b, hb⟩ : ∃ b, anyM mbs r mbs.length = b := ⟨_, rfl⟩
             rw [hb]
             have HX := Lib.hid (HMA5.out.below hQ)
             cases b with
             | true =>
              clear hb
              go_wp2_with fail
              go_roundw
              case rel => exact ⟨k + 1, mbs, _, by omega, by omega, by go_num, HMM.out.up (by omega), HX.out⟩
              case measure => simp [intOf]; omega
             | false =>
              have HMM2 := Lib.hid (HMM.out.push hb)
              have hlX := lt_of_block HX.out.blk
              obtain ⟨i0, hi, hz0, hz1, hz2⟩ := info_parts mbInfo
              clear hb
              go_wp2_with (at_builtin; refine wpList_append_own _ rfl _ _ 33 rfl (W1.heap.size + 1) 67 i0 (.agg #[.string ByteArray.empty, .string ByteArray.empty]) 2 32 Try.underlying33 hi hz0 hz1 hz2 rfl (by decide) _ _ _ rfl (HX.out.m.alloc _) ⟨_, 0, none⟩ 1 1 [.string { data := #[101, 117] }, .string r] rfl rfl (cell_newsZ _ [.string { data := #[101, 117] }, .string r] _) (fun u hu => List.all_eq_true.1 (show ([.string { data := #[101, 117] }, .string r] : List Value).all (·.oneCell') = true from rfl) u hu) (by unfold maxLen; first | omega | ((try dsimp only); omega) | (simp; done) | (simp; omega)) (by first | omega | ((try dsimp only); omega) | (simp; done) | (simp; omega)) (by first | (simp; done) | (simp; omega)) ?_; intro v' w7 hown7 hgrow7 _; obtain ⟨g1, g2⟩ := HX.out.grownM hgrow7; obtain ⟨q0, q1, q2, q3, q4, q5⟩ := cells6 g1; have f7 := frozenY g1 3; have HM7 := Lib.hid (HX.out.pushM (xs := [⟨EUz, r⟩]) hgrow7 hown7 rfl (fun z hz => by obtain rfl := List.mem_singleton.1 hz; exact mbS_eu HRS.out)); clear g1 g2 hgrow7; obtain ⟨va7, vn7, vc7, rfl⟩ := own_sliceZ hown7; clear hown7)
              go_roundw
              case rel => exact ⟨k + 1, mbs ++ [⟨EUz, r⟩], _, by omega, by omega, by go_num, HMM2.out, HM7.out⟩
              case measure => simp [intOf]; omega
          ·obtain rfl : k = 6 := by omega
           go_wp2_with fail
           go_meet
           case rel => exact ⟨mbs, _, rfl, HMM.out.up (by omega), HM5.out⟩
         ·have hki : ¬ (k : Int) < (S.mbs.length : Int) := by omega
          have hd : decide ((k : Int) < (S.mbs.length : Int)) = false := decide_eq_false hki
          go_wp2_with fail
          go_meet
          case rel => exact ⟨mbs, _, rfl, HMM.out.up (by omega), HM5.out⟩
       case rest =>
        obtain ⟨mbs, vm, rfl, hMM, hM5⟩ := hcut
        have HMM := Lib.hid hMM
        have HM5 := Lib.hid hM5
        obtain ⟨odd, hodd⟩ : ∃ odd, restV S.odd 12 = odd := ⟨_, rfl⟩
        have HOD := Lib.hid (fun w' => show Calls Try.prog 15 #[.int .i64 S.odd, .int .i64 12] w' fun e w'' => e = .returned (.int .i64 (odd : Int)) ∧ w'' = w' from by rw [← hodd]; exact restE_any S.odd 12 w' (by decide) (by decide))
        have ho12 : odd < 12 := by rw [← hodd]; exact restV_lt S.odd 12 (by decide)
        have HBI := Lib.hid (show BaseI S ⟨als, lks, rls ++ DEF3, mbs, th, de⟩ from ⟨HMA.out, HML.out, ⟨rls, rfl, hrl⟩, HMM.out, HTD.out.1.symm, HTD.out.2.symm, HM5.out.s⟩)
        have HOdd := Lib.hid hodd
        have hla := HMA.out.len
        have hll := HML.out.len
        have hlm := HMM.out.len
        have hld : (rls ++ DEF3).length = rls.length + 3 := by rw [List.length_append]; rfl
        have hlB := lt_of_block HM5.out.blk
        have hMd := HM5.out.below (Below.drew (Below.refl _ _))
        have HSp := Lib.hid (spoilt13_any ⟨als, lks, rls ++ DEF3, mbs, th, de⟩ va vl vr vm odd (W1.heap.size + 1) ho12 W1 wc.drew hMd.four hMd.bel (Nat.le_succ _) hlB (by show als.length ≤ 50; omega) (by show lks.length ≤ 50; omega) (by show (rls ++ DEF3).length ≤ 50; omega) (by show mbs.length ≤ 50; omega) (by show 2 ≤ (rls ++ DEF3).length; omega))
        obtain ⟨d0, d1, d2, d3, d4, d5, d6⟩ := H7.out wc HM5.out.bel
        obtain ⟨z0, z1, z2, z3, z4, z5⟩ := cells6 HM5.out.blk
        obtain ⟨sa1, sn1, sc1, rfl⟩ := own_sliceZ HM5.out.a
        obtain ⟨sa2, sn2, sc2, rfl⟩ := own_sliceZ HM5.out.l
        obtain ⟨sa3, sn3, sc3, rfl⟩ := own_sliceZ HM5.out.r
        obtain ⟨sa4, sn4, sc4, rfl⟩ := own_sliceZ HM5.out.m
        clear hMM hM5 hodd hMd hld hla hll hlm
        go_upto_region 45 with fail
        refine wp_region_still_tail 4 (by kernel_rfl) (by kernel_rfl) ?_
        simp only [List.take_succ_cons, List.take_zero, List.drop_succ_cons, List.drop_zero]
        still_step
        still_step
        still_step
        still_call (HOD.out _)
        refine wpStill_nil ?_
        change wpList _ _ _ _ _ wc.drew
        go_wp2_with (first | (go_at_call 21; (with_reducible refine HSp.out.mono ?_); intro e w6 hE; unfold SpE at hE; obtain ⟨ta, tl, tr, tm, rfl, hO6, hb6⟩ := hE; obtain ⟨ta1, tn1, tc1, rfl⟩ := own_sliceZ hO6.a; obtain ⟨ta2, tn2, tc2, rfl⟩ := own_sliceZ hO6.l; obtain ⟨ta3, tn3, tc3, rfl⟩ := own_sliceZ hO6.r; obtain ⟨ta4, tn4, tc4, rfl⟩ := own_sliceZ hO6.m; have hRR := HRs.out _ hb6; have HR6 := Lib.hid hRR; have HO6 := Lib.hid hO6; have HB6 := Lib.hid hb6; clear hRR hO6 hb6) | (refine wpList_store_row rfl _ _ _ rfl _ _ rfl rfl _ _ HR6.out sizeImg rfl (by simp [Value.oneCell']) ?_))
        refine bodyPost_ret (results_cell_row rfl _ _ (w.heap.size + 1) 35 _ (0, 0) _ rfl (setRow_heap _ _ _ _ _ _ HR6.out) Try.underlying35 rfl sizeImg) rfl ?_
        unfold MdE
        rw [HOdd.out]
        exact ⟨_, HBI.out, _, _, _, _, rfl, (HO6.out.kept (gr_setRowZ _ _ _) HR6.out).low (by omega), belowZ_setRow (HB.out _ HB6.out) (Nat.le_succ _) _⟩
end Go.Proofs.Ythjfcfhibdpbnaa
