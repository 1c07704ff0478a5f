/-
 ImageTurned: in whatever order aliases, likely rows and members stand, the bytes are the same. (Printed by wip/gen_zturned.py.)
-/
import Derived.Test.YtknodboncpcjnaaGreatDoorZRot
import Derived.Test.YtknodboncpcjnaaGreatDoorWApp
import Derived.Deep.QuietTactic
import Derived.BigQuiet
import Derived.Deep.CutRange
namespace Go.Proofs.YtknodboncpcjnaaGreatDoor
open Go Go.RowKit

set_option maxRecDepth 1000000 in
set_option maxHeartbeats 40000000 in
theorem imageTurned_law (S : SeedZ) (va0 vl0 vr0 vm0 : Value) (by_ : Int) (w : World) (hS : SdR w va0 vl0 vr0 vm0 S) (hg : GL w) :
  Calls Tryz.prog 7 #[.agg #[va0, vl0, vr0, vm0, .int .i64 S.th, .int .i64 S.de, .int .i64 S.odd], .int .i64 by_] w fun e w' => e = .returned (.bool true) ∧ Below w.heap.size w w' := by
 obtain ⟨W1, hW1⟩ : ∃ W1, w.alloc (.cells #[va0, vl0, vr0, vm0, .int .i64 S.th, .int .i64 S.de, .int .i64 S.odd] 30) = W1 := ⟨_, rfl⟩
 have hb1 : Below w.heap.size w W1 := by rw [← hW1]; exact (Below.refl _ w).alloc (Nat.le_refl _) _
 have hA : W1.heap[w.heap.size]? = some (.cells #[va0, vl0, vr0, vm0, .int .i64 S.th, .int .i64 S.de, .int .i64 S.odd] 30 (0, 0)) := by rw [← hW1]; exact World.alloc_heap_new w _
 have H7 := Lib.hid (fun w' (h : Below W1.heap.size W1 w') => cells7 ((h.block _ (lt_of_block hA)).trans hA))
 have HAW := Lib.hid (awake13_any W1 (hg.below hb1 hg.size))
 have HMD := Lib.hid (fun w' (h : Below W1.heap.size W1 w') => made13_any S va0 vl0 vr0 vm0 w' (hS.below (hb1.trans (h.mono hb1.size))))
 have HGL := Lib.hid (fun w' (h : Below w.heap.size w w') => hg.below h hg.size)
 have HB1 := Lib.hid hb1
 have HW1 := Lib.hid hW1
 clear hW1 hA hb1 hS hg
 go_enter Tryz.func7, Tryz.ntmps7
 go_upto_region 1 with fail
 rw [HW1.out]
 go_upto_region 2 with (go_at_call 14; (with_reducible refine HAW.out.mono ?_); rintro e w2 ⟨rfl, hb2⟩)
 obtain ⟨d0, d1, d2, d3, d4, d5, d6⟩ := H7.out _ hb2
 have HM2 := Lib.hid (HMD.out _ hb2)
 have HB2 := Lib.hid (HB1.out.trans (hb2.mono HB1.out.size))
 clear hb2
 go_upto_region 3 with (go_at_call 23; (with_reducible refine HM2.out.mono ?_); intro e w5 hE; unfold MdE ImO at hE; obtain ⟨im0, hBI, va, vl, vr, vm, rfl, hO5, hb5⟩ := hE; obtain ⟨a1, c1, a2, c2, a3, c3, a4, c4, h1, h2, h3, h4⟩ := hO5.rows.slices; subst h1 h2 h3 h4)
 have hFW := hBI.few (restV S.odd 12)
 generalize spI im0 (restV S.odd 12) = im at *
 obtain ⟨W6, hW6⟩ : ∃ W6, w5.alloc (.cells #[.slice a1 (cntN im 0) c1, .slice a2 (cntN im 1) c2, .slice a3 (cntN im 2) c3, .slice a4 (cntN im 3) c4, .int .i64 im.th, .int .i64 im.de] 44) = W6 := ⟨_, rfl⟩
 have hI6 : W6.heap[w5.heap.size]? = some (.cells #[.slice a1 (cntN im 0) c1, .slice a2 (cntN im 1) c2, .slice a3 (cntN im 2) c3, .slice a4 (cntN im 3) c4, .int .i64 im.th, .int .i64 im.de] 44 (0, 0)) := by rw [← hW6]; exact World.alloc_heap_new _ _
 have hb6 : Below w5.heap.size w5 W6 := by rw [← hW6]; exact (Below.refl _ _).alloc (Nat.le_refl _) _
 have hO6 := hO5.below hb6
 have hB6 : Below w.heap.size w W6 := (HB2.out.trans (hb5.mono HB2.out.size)).trans (hb6.mono (Nat.le_trans HB2.out.size hb5.size))
 have hB5 : w.heap.size ≤ w2.heap.size := HB2.out.size
 have hB56 : w2.heap.size ≤ w5.heap.size := hb5.size
 rw [hW6]
 clear hW6 hb6 hO5 hBI d0 d1 d2 d3 d4 d5 d6 HM2 HMD HAW
 have HE6 := Lib.hid (show Calls Tryz.prog 27 #[.agg #[.slice a1 (cntN im 0) c1, .slice a2 (cntN im 1) c2, .slice a3 (cntN im 2) c3, .slice a4 (cntN im 3) c4, .int .i64 im.th, .int .i64 im.de]] W6 fun e w' => ∃ v, e = .returned (.tuple #[.string (encB im), v]) ∧ ((encE im = none ∧ v = .nilIface) ∨ (encE im ≠ none ∧ ∃ p, v = .iface 131 p)) ∧ Below W6.heap.size W6 w' from by
  refine (encode_im a1 a2 a3 a4 c1 c2 c3 c4 im W6 hO6.rows hO6.s (HGL.out _ hB6)).mono fun e w' ⟨v, p, q, r⟩ => ⟨v, p, ?_, r⟩
  cases hx : encE im with
  | none => rw [hx] at q; exact .inl ⟨rfl, q⟩
  | some t => rw [hx] at q; obtain ⟨b, rfl, _⟩ := q; exact .inr ⟨(fun h => by cases h), _, rfl⟩)
 obtain ⟨z0, z1, z2, z3, z4, z5⟩ := cells6 hI6
 have HI6 := Lib.hid hI6
 have HO6 := Lib.hid hO6
 have HB6 := Lib.hid hB6
 clear hI6 hO6 hB6
 go_upto_region 4 with (go_at_call 27; (with_reducible refine HE6.out.mono ?_); rintro e w7 ⟨ev1, rfl, hev1, hb7⟩)
 have HEV := Lib.hid hev1
 have hI7 := (hb7.block _ (lt_of_block HI6.out)).trans HI6.out
 have hs7 : w5.heap.size < w7.heap.size := lt_of_block hI7
 clear z0 z1 z2 z3 z4 z5 hev1
 obtain ⟨z0, z1, z2, z3, z4, z5⟩ := cells6 hI7
 have HB7 := Lib.hid hb7
 have HI7 := Lib.hid hI7
 clear hI7 hb7
 go_upto_region 5 with fail
 obtain ⟨wr, hwr⟩ : ∃ W8, w7.alloc (.cells #[.slice a1 (cntN im 0) c1, .slice a2 (cntN im 1) c2, .slice a3 (cntN im 2) c3, .slice a4 (cntN im 3) c4, .int .i64 im.th, .int .i64 im.de] 44) = W8 := ⟨_, rfl⟩
 have hb8 : Below w7.heap.size w7 wr := by rw [← hwr]; exact (Below.refl _ _).alloc (Nat.le_refl _) _
 have hX8 : wr.heap[w7.heap.size]? = some (.cells #[.slice a1 (cntN im 0) c1, .slice a2 (cntN im 1) c2, .slice a3 (cntN im 2) c3, .slice a4 (cntN im 3) c4, .int .i64 im.th, .int .i64 im.de] 44 (0, 0)) := by rw [← hwr]; exact World.alloc_heap_new _ _
 have hO8 := (HO6.out.below HB7.out).below hb8
 have hbz := hb8.size
 have HTU0 : TuI w wr w5.heap.size w7.heap.size w2.heap.size im im _ _ _ _ _ _ _ := ⟨(hb8.block _ (lt_of_block HI7.out)).trans HI7.out, hX8, hO8, hO8, (HB6.out.trans (HB7.out.mono HB6.out.size)).trans (hb8.mono (Nat.le_trans HB6.out.size HB7.out.size)), by omega, by omega, by omega⟩
 rw [hwr]
 clear hwr hb8 hX8 hO8 z0 z1 z2 z3 z4 z5
 generalize w5.heap.size = nI at *
 generalize w7.heap.size = nX at *
 generalize w2.heap.size = b at *
 generalize (Value.slice a1 (cntN im 0) c1) = va at *
 generalize (Value.slice a2 (cntN im 1) c2) = vl at *
 generalize (Value.slice a3 (cntN im 2) c3) = vr at *
 generalize (Value.slice a4 (cntN im 3) c4) = vm at *
 clear HI7 HI6 HO6 HB7 HB6 HE6 hs7 hbz hB5 hB56 HB2
 obtain ⟨xi, hxi⟩ : ∃ z, im = z := ⟨_, rfl⟩
 have HP := Lib.hid (show PermI xi im by rw [← hxi]; exact PermI.refl _)
 have HTU := Lib.hid (show TuI w wr nI nX b im xi va vl vr vm va vl vm by rw [← hxi]; exact HTU0)
 clear HTU0 hxi
 have HFW := Lib.hid hFW
 clear hFW
 obtain ⟨nA, hn⟩ : ∃ n, (if 0 < im.als.length then restV by_ im.als.length else 0) = n := ⟨_, rfl⟩
 have hnR : nA ≤ im.als.length ∧ (0 < im.als.length → nA < im.als.length) := by
  rw [← hn]
  by_cases h : 0 < im.als.length
  ·rw [if_pos h]; have := restV_lt by_ im.als.length h; exact ⟨by omega, fun _ => this⟩
  ·rw [if_neg h]; exact ⟨by omega, fun h' => absurd h' h⟩
 have RSA := Lib.hid (fun (w5 : World) (h : 0 < im.als.length) => show Calls Tryz.prog 16 #[.int .i64 by_, .int .i64 (im.als.length : Int)] w5 fun e w' => e = .returned (.int .i64 (nA : Int)) ∧ w5 = w' by
  have := rest13_any by_ im.als.length w5 h (by have := HFW.out.a; omega)
  rw [if_pos h] at hn
  rwa [hn] at this)
 have HNA := Lib.hid (fun (h : ¬ 0 < im.als.length) => show nA = 0 by rw [if_neg h] at hn; exact hn.symm)
 clear hn
 obtain ⟨nL, hn⟩ : ∃ n, (if 0 < im.lks.length then restV by_ im.lks.length else 0) = n := ⟨_, rfl⟩
 have hnR : nL ≤ im.lks.length ∧ (0 < im.lks.length → nL < im.lks.length) := by
  rw [← hn]
  by_cases h : 0 < im.lks.length
  ·rw [if_pos h]; have := restV_lt by_ im.lks.length h; exact ⟨by omega, fun _ => this⟩
  ·rw [if_neg h]; exact ⟨by omega, fun h' => absurd h' h⟩
 have RSL := Lib.hid (fun (w5 : World) (h : 0 < im.lks.length) => show Calls Tryz.prog 16 #[.int .i64 by_, .int .i64 (im.lks.length : Int)] w5 fun e w' => e = .returned (.int .i64 (nL : Int)) ∧ w5 = w' by
  have := rest13_any by_ im.lks.length w5 h (by have := HFW.out.l; omega)
  rw [if_pos h] at hn
  rwa [hn] at this)
 have HNL := Lib.hid (fun (h : ¬ 0 < im.lks.length) => show nL = 0 by rw [if_neg h] at hn; exact hn.symm)
 clear hn
 obtain ⟨nM, hn⟩ : ∃ n, (if 0 < im.mbs.length then restV by_ im.mbs.length else 0) = n := ⟨_, rfl⟩
 have hnR : nM ≤ im.mbs.length ∧ (0 < im.mbs.length → nM < im.mbs.length) := by
  rw [← hn]
  by_cases h : 0 < im.mbs.length
  ·rw [if_pos h]; have := restV_lt by_ im.mbs.length h; exact ⟨by omega, fun _ => this⟩
  ·rw [if_neg h]; exact ⟨by omega, fun h' => absurd h' h⟩
 have RSM := Lib.hid (fun (w5 : World) (h : 0 < im.mbs.length) => show Calls Tryz.prog 16 #[.int .i64 by_, .int .i64 (im.mbs.length : Int)] w5 fun e w' => e = .returned (.int .i64 (nM : Int)) ∧ w5 = w' by
  have := rest13_any by_ im.mbs.length w5 h (by have := HFW.out.m; omega)
  rw [if_pos h] at hn
  rwa [hn] at this)
 have HNM := Lib.hid (fun (h : ¬ 0 < im.mbs.length) => show nM = 0 by rw [if_neg h] at hn; exact hn.symm)
 clear hn
 have hmm := HFW.out.m1
 have hlA := HFW.out.a
 have hlL := HFW.out.l
 have hlM := HFW.out.m
 skip
 obtain ⟨z0, z1, z2, z3, z4, z5⟩ := cells6 HTU.out.i
 obtain ⟨saA, snA, scA, hvA⟩ := own_sliceZ HTU.out.o.a
 rw [hvA] at z0
 obtain ⟨hsA, -⟩ := own_lenZ (hvA ▸ HTU.out.o.a)
 rw [hsA] at z0
 have HVA := Lib.hid (And.intro hvA hsA)
 clear hvA hsA
 go_upto_if 25 with fail
 go_cut [10] from 25 to 30 (fun u wx => u = .int .i64 (nA : Int) ∧ wx = wr)
 case first =>
  by_cases hz : 0 < im.als.length
  ·have hd : decide (0 < im.als.length) = true := decide_eq_true hz
   have hd2 : (0 : Int) < (im.als.length : Int) := by omega
   have RR := Lib.hid (fun w5 => RSA.out w5 hz)
   clear hz
   go_wp2_with (go_at_call 16; (with_reducible refine (RR.out _).mono ?_); rintro e w' ⟨rfl, rfl⟩)
   go_meet
   case rel => exact ⟨rfl, rfl⟩
  ·have hd : decide (0 < im.als.length) = false := decide_eq_false hz
   have hd2 : ¬ (0 : Int) < (im.als.length : Int) := by omega
   have e0 := HNA.out hz
   clear hz
   go_wp2_with fail
   go_meet
   case rel => exact ⟨by rw [e0]; rfl, rfl⟩
 case rest =>
  obtain ⟨rfl, hwx⟩ := hcut
  obtain rfl : wr = _ := hwx.symm
  clear z0 z1 z2 z3 z4 z5
  go_upto_region 8 with fail
  go_cut [9] from 31 to 42 (fun u wx => ∃ v', u = .pointer (some ⟨nX, 0, none⟩) ∧ TuI w wx nI nX b im { xi with als := rotZ nA im.als } va vl vr vm v' vl vm)
  case first =>
   obtain ⟨i0, hi, hz0, hz1, hz2⟩ := info_parts alInfo
   have HN1 := Lib.hid (own_emptyZ wr.drew 68 6)
   have HBA := Lib.hid (show Below wr.heap.size wr (wr.drew.alloc (.cells #[] 68)) from (Below.drew (Below.refl wr.heap.size wr)).alloc (Nat.le_refl _) _)
   have HL1 := Lib.hid (show (((im.als.map alC).flatMap id).drop (nA * 6)).length = (im.als.length - nA) * 6 by rw [List.length_drop, HTU.out.o.a.1]; omega)
   have HL2 := Lib.hid (show (((im.als.map alC).flatMap id).take (nA * 6)).length = nA * 6 by rw [List.length_take, HTU.out.o.a.1]; omega)
   have HOW := Lib.hid HTU.out.o.a
   have HOA := Lib.hid (own_belowW HTU.out.o.a HBA.out)
   have hsI := lt_of_block HTU.out.i
   rcases slice_casesZ HTU.out.o.a with ⟨hv, hz⟩ | ⟨g, hv, hz⟩ | ⟨g, cap, hv, hle, hpos, hmax⟩
   ·have HZ0 := Lib.hid (show (nA : Int) = 0 by omega)
    skip
    subst hv
    have HX0 := Lib.hid (show ((im.als.map alC).flatMap id) = [] from List.eq_nil_of_length_eq_zero (HTU.out.o.a.1.trans (by rw [hz, Nat.zero_mul])))
    have hy1 : nA ≤ 0 := by omega
    have hy2 : im.als.length ≤ 0 := by omega
    clear hz
    have HC := Lib.hid (fun w' (h : Below wr.heap.size wr w') => show w'.cell? ⟨nI, 0, none⟩ = some (.slice none 0 0) from (cells6 (HTU.out.below h).i).1)
    refine wp_region_held_drew (S := fun w' => w'.cell? ⟨nI, 0, none⟩ = some (.slice none 0 0)) (by kernel_rfl) (HC.out _ (Below.drew (Below.refl _ _))) (fun hHeld => ?_)
    apply held_shellV (R := fun (_ : Value) (a8 : Option Addr) (m8 c8 : Nat) (w' : World) => TuI w w' nI nX b im { xi with als := rotZ nA im.als } (.slice none 0 0) vl vr vm (.slice a8 m8 c8) vl vm)
    exact fun _ _ d _ _ h => by cases d <;> exact h
    rotate_left 1
    intro KK hKp hfin
    refine wpAnyH_take (i := 1) (v := .pointer (some ⟨nI, 0, none⟩)) rfl (by kernel_rfl) (by kernel_rfl) (by kernel_rfl) (fun c a w h => hKp c a _ _ w h) (Or.inl ⟨by kernel_rfl, fun w hSw => by dsimp only at hSw; obtain g0 := hSw; go_simp⟩) (by assumption) ?_
    simp only [Act.put, List.getElem_toArray, List.getElem_cons_zero, List.getElem_cons_succ, List.setIfInBounds_toArray, List.set_cons_zero, List.set_cons_succ]
    refine wpAnyH_take (i := 2) (v := .slice none 0 0) rfl (by kernel_rfl) (by kernel_rfl) (by kernel_rfl) (fun c a w h => hKp c a _ _ w h) (Or.inl ⟨by kernel_rfl, fun w hSw => by dsimp only at hSw; obtain g0 := hSw; go_simp⟩) (by assumption) ?_
    simp only [Act.put, List.getElem_toArray, List.getElem_cons_zero, List.getElem_cons_succ, List.setIfInBounds_toArray, List.set_cons_zero, List.set_cons_succ]
    refine wpAnyH_take (i := 3) (v := .int .i64 (nA : Int)) rfl (by kernel_rfl) (by kernel_rfl) (by kernel_rfl) (fun c a w h => hKp c a _ _ w h) (Or.inl ⟨by kernel_rfl, fun w hSw => by dsimp only at hSw; obtain g0 := hSw; go_simp⟩) (by assumption) ?_
    simp only [Act.put, List.getElem_toArray, List.getElem_cons_zero, List.getElem_cons_succ, List.setIfInBounds_toArray, List.set_cons_zero, List.set_cons_succ]
    refine wpAnyH_take (i := 4) (v := .slice none 0 0) rfl (by kernel_rfl) (by kernel_rfl) (by kernel_rfl) (fun c a w h => hKp c a _ _ w h) (Or.inl ⟨by kernel_rfl, fun w hSw => by dsimp only at hSw; obtain g0 := hSw; have hz0 := HZ0.out; go_simp⟩) (by assumption) ?_
    simp only [Act.put, List.getElem_toArray, List.getElem_cons_zero, List.getElem_cons_succ, List.setIfInBounds_toArray, List.set_cons_zero, List.set_cons_succ]
    refine wpAnyH_take (i := 6) (v := .pointer (some ⟨nI, 0, none⟩)) rfl (by kernel_rfl) (by kernel_rfl) (by kernel_rfl) (fun c a w h => hKp c a _ _ w h) (Or.inl ⟨by kernel_rfl, fun w hSw => by dsimp only at hSw; obtain g0 := hSw; go_simp⟩) (by assumption) ?_
    simp only [Act.put, List.getElem_toArray, List.getElem_cons_zero, List.getElem_cons_succ, List.setIfInBounds_toArray, List.set_cons_zero, List.set_cons_succ]
    refine wpAnyH_take (i := 7) (v := .slice none 0 0) rfl (by kernel_rfl) (by kernel_rfl) (by kernel_rfl) (fun c a w h => hKp c a _ _ w h) (Or.inl ⟨by kernel_rfl, fun w hSw => by dsimp only at hSw; obtain g0 := hSw; go_simp⟩) (by assumption) ?_
    simp only [Act.put, List.getElem_toArray, List.getElem_cons_zero, List.getElem_cons_succ, List.setIfInBounds_toArray, List.set_cons_zero, List.set_cons_succ]
    refine wpAnyH_take (i := 8) (v := .int .i64 (nA : Int)) rfl (by kernel_rfl) (by kernel_rfl) (by kernel_rfl) (fun c a w h => hKp c a _ _ w h) (Or.inl ⟨by kernel_rfl, fun w hSw => by dsimp only at hSw; obtain g0 := hSw; go_simp⟩) (by assumption) ?_
    simp only [Act.put, List.getElem_toArray, List.getElem_cons_zero, List.getElem_cons_succ, List.setIfInBounds_toArray, List.set_cons_zero, List.set_cons_succ]
    refine wpAnyH_take (i := 9) (v := .slice none 0 0) rfl (by kernel_rfl) (by kernel_rfl) (by kernel_rfl) (fun c a w h => hKp c a _ _ w h) (Or.inl ⟨by kernel_rfl, fun w hSw => by dsimp only at hSw; obtain g0 := hSw; have hz0 := HZ0.out; go_simp⟩) (by assumption) ?_
    simp only [Act.put, List.getElem_toArray, List.getElem_cons_zero, List.getElem_cons_succ, List.setIfInBounds_toArray, List.set_cons_zero, List.set_cons_succ]
    refine wpAnyH_ready (rs := [0]) (by kernel_rfl) (by simp) ?_
    refine AllReadyH.cons rfl (fun Kx hKx => ?_) AllReadyH.nil
    try rw [if_pos (by kernel_rfl)]
    go_simp
    refine hKx.out _ _ (HC.out _ HBA.out) (fun hHeld => ?_)
    clear hKx Kx
    try simp only [Act.put, List.getElem_toArray, List.getElem_cons_zero, List.getElem_cons_succ, List.setIfInBounds_toArray, List.set_cons_zero, List.set_cons_succ]
    refine wpAnyH_ready (rs := [5]) (by kernel_rfl) (by simp) ?_
    refine AllReadyH.cons rfl (fun Kx hKx => ?_) AllReadyH.nil
    refine step_append_anyW _ rfl _ _ 39 rfl wr.heap.size 68 i0 (.agg #[.int .i64 0, .string ByteArray.empty, .string ByteArray.empty, .string ByteArray.empty, .string ByteArray.empty, .string ByteArray.empty]) 6 88 Tryz.underlying39 hi hz0 hz1 hz2 rfl (by decide) _ 0 [] rfl HN1.out _ _ _ (((im.als.map alC).flatMap id).drop (nA * 6)) rfl (HL1.out.trans (by omega)) (fun h => by first | rfl | cases h) (fun ad ha j u hu => by cases ha) (fun u hu => alC_oneZ _ u (List.mem_of_mem_drop hu)) (by unfold maxLen; omega) (by omega) (by simp) ?_
    intro v6 w6 hown6 hgrow6
    have hb6 := HBA.out.grown hgrow6 (by simp) (fun r e => by cases e; exact Nat.le_refl _)
    refine hKx.out _ _ (HC.out _ hb6) (fun hHeld => ?_)
    clear hKx Kx
    try simp only [Act.put, List.getElem_toArray, List.getElem_cons_zero, List.getElem_cons_succ, List.setIfInBounds_toArray, List.set_cons_zero, List.set_cons_succ]
    refine wpAnyH_ready (rs := [10]) (by kernel_rfl) (by simp) ?_
    refine AllReadyH.cons rfl (fun Kx hKx => ?_) AllReadyH.nil
    refine step_append_anyW _ rfl _ _ 39 rfl wr.heap.size 68 i0 (.agg #[.int .i64 0, .string ByteArray.empty, .string ByteArray.empty, .string ByteArray.empty, .string ByteArray.empty, .string ByteArray.empty]) 6 88 Tryz.underlying39 hi hz0 hz1 hz2 rfl (by decide) _ _ _ rfl hown6 _ _ _ (((im.als.map alC).flatMap id).take (nA * 6)) rfl (HL2.out.trans (by omega)) (fun h => by first | rfl | cases h) (fun ad ha j u hu => by cases ha) (fun u hu => alC_oneZ _ u (List.mem_of_mem_take hu)) (by unfold maxLen; omega) (by omega) hb6.size ?_
    intro v8 w8 hown8 hgrow8
    have hb8 := hb6.grown hgrow8 hb6.size (fun r e => (hown6.lt r e).1)
    refine hKx.out _ _ (HC.out _ hb8) (fun hHeld => ?_)
    clear hKx Kx
    try simp only [Act.put, List.getElem_toArray, List.getElem_cons_zero, List.getElem_cons_succ, List.setIfInBounds_toArray, List.set_cons_zero, List.set_cons_succ]
    have hx8 := (HTU.out.below hb8).x
    obtain ⟨q0, q1, q2, q3, q4, q5⟩ := cells6 hx8
    have f7 := frozenY hx8 0
    have hT8 := HTU.out.turnA hb8 (l := rotZ nA im.als) (by rw [rot_cellsZ nA im.als (alC_all _)]; rw [List.nil_append] at hown8; exact hown8) (by rw [(rotZ_perm nA im.als).length_eq]; omega) (fun y hy => HTU.out.o.s.als y ((rotZ_perm nA im.als).mem_iff.1 hy))
    have hC8 := HC.out _ hb8
    obtain ⟨va8, vn8, vc8, rfl⟩ := own_sliceZ hown8
    refine wpAnyH_take (i := 11) (v := .pointer (some ⟨nX, 0, none⟩)) rfl (by kernel_rfl) (by kernel_rfl) (by kernel_rfl) (fun c a w h => hKp c a _ _ w h) (Or.inl ⟨by kernel_rfl, fun w hSw => by dsimp only at hSw; obtain g0 := hSw; go_simp⟩) (by assumption) ?_
    simp only [Act.put, List.getElem_toArray, List.getElem_cons_zero, List.getElem_cons_succ, List.setIfInBounds_toArray, List.set_cons_zero, List.set_cons_succ]
    have HT8 := Lib.hid hT8
    have HC9 := Lib.hid ((World.cell?_of_block (a := ⟨nI, 0, none⟩) (heap_setCellZ (W := w8) (k := 0) (v := .slice va8 vn8 vc8) HTU.out.ne)).trans hC8)
    clear hT8 hx8 hC8
    refine wpAnyH_ready (rs := [12]) (by kernel_rfl) (by simp) ?_
    refine AllReadyH.cons rfl (fun Kx hKx => ?_) AllReadyH.nil
    try rw [if_pos (by kernel_rfl)]
    go_simp
    refine hKx.out _ _ HC9.out (fun hHeld => ?_)
    clear hKx Kx
    try simp only [Act.put, List.getElem_toArray, List.getElem_cons_zero, List.getElem_cons_succ, List.setIfInBounds_toArray, List.set_cons_zero, List.set_cons_succ]
    refine wpAnyH_done (by kernel_rfl) ?_ _
    exact hfin v6 va8 vn8 vc8 _ HT8.out
    rintro u1 a8 m8 c8 W9 hT9
    go_wp2_with fail
    go_meet
    exact ⟨_, rfl, hT9⟩
   ·have HZ0 := Lib.hid (show (nA : Int) = 0 by omega)
    rw [hz] at hv
    subst hv
    have HX0 := Lib.hid (show ((im.als.map alC).flatMap id) = [] from List.eq_nil_of_length_eq_zero (HTU.out.o.a.1.trans (by rw [hz, Nat.zero_mul])))
    have hy1 : nA ≤ 0 := by omega
    have hy2 : im.als.length ≤ 0 := by omega
    clear hz
    have HC := Lib.hid (fun w' (h : Below wr.heap.size wr w') => show w'.cell? ⟨nI, 0, none⟩ = some (.slice (some ⟨g, 0, none⟩) 0 0) from (cells6 (HTU.out.below h).i).1)
    refine wp_region_held_drew (S := fun w' => w'.cell? ⟨nI, 0, none⟩ = some (.slice (some ⟨g, 0, none⟩) 0 0)) (by kernel_rfl) (HC.out _ (Below.drew (Below.refl _ _))) (fun hHeld => ?_)
    apply held_shellV (R := fun (_ : Value) (a8 : Option Addr) (m8 c8 : Nat) (w' : World) => TuI w w' nI nX b im { xi with als := rotZ nA im.als } (.slice (some ⟨g, 0, none⟩) 0 0) vl vr vm (.slice a8 m8 c8) vl vm)
    exact fun _ _ d _ _ h => by cases d <;> exact h
    rotate_left 1
    intro KK hKp hfin
    refine wpAnyH_take (i := 1) (v := .pointer (some ⟨nI, 0, none⟩)) rfl (by kernel_rfl) (by kernel_rfl) (by kernel_rfl) (fun c a w h => hKp c a _ _ w h) (Or.inl ⟨by kernel_rfl, fun w hSw => by dsimp only at hSw; obtain g0 := hSw; go_simp⟩) (by assumption) ?_
    simp only [Act.put, List.getElem_toArray, List.getElem_cons_zero, List.getElem_cons_succ, List.setIfInBounds_toArray, List.set_cons_zero, List.set_cons_succ]
    refine wpAnyH_take (i := 2) (v := .slice (some ⟨g, 0, none⟩) 0 0) rfl (by kernel_rfl) (by kernel_rfl) (by kernel_rfl) (fun c a w h => hKp c a _ _ w h) (Or.inl ⟨by kernel_rfl, fun w hSw => by dsimp only at hSw; obtain g0 := hSw; go_simp⟩) (by assumption) ?_
    simp only [Act.put, List.getElem_toArray, List.getElem_cons_zero, List.getElem_cons_succ, List.setIfInBounds_toArray, List.set_cons_zero, List.set_cons_succ]
    refine wpAnyH_take (i := 3) (v := .int .i64 (nA : Int)) rfl (by kernel_rfl) (by kernel_rfl) (by kernel_rfl) (fun c a w h => hKp c a _ _ w h) (Or.inl ⟨by kernel_rfl, fun w hSw => by dsimp only at hSw; obtain g0 := hSw; go_simp⟩) (by assumption) ?_
    simp only [Act.put, List.getElem_toArray, List.getElem_cons_zero, List.getElem_cons_succ, List.setIfInBounds_toArray, List.set_cons_zero, List.set_cons_succ]
    refine wpAnyH_take (i := 4) (v := .slice (some ⟨g, 0, none⟩) 0 0) rfl (by kernel_rfl) (by kernel_rfl) (by kernel_rfl) (fun c a w h => hKp c a _ _ w h) (Or.inl ⟨by kernel_rfl, fun w hSw => by dsimp only at hSw; obtain g0 := hSw; have hz0 := HZ0.out; go_simp⟩) (by assumption) ?_
    simp only [Act.put, List.getElem_toArray, List.getElem_cons_zero, List.getElem_cons_succ, List.setIfInBounds_toArray, List.set_cons_zero, List.set_cons_succ]
    refine wpAnyH_take (i := 6) (v := .pointer (some ⟨nI, 0, none⟩)) rfl (by kernel_rfl) (by kernel_rfl) (by kernel_rfl) (fun c a w h => hKp c a _ _ w h) (Or.inl ⟨by kernel_rfl, fun w hSw => by dsimp only at hSw; obtain g0 := hSw; go_simp⟩) (by assumption) ?_
    simp only [Act.put, List.getElem_toArray, List.getElem_cons_zero, List.getElem_cons_succ, List.setIfInBounds_toArray, List.set_cons_zero, List.set_cons_succ]
    refine wpAnyH_take (i := 7) (v := .slice (some ⟨g, 0, none⟩) 0 0) rfl (by kernel_rfl) (by kernel_rfl) (by kernel_rfl) (fun c a w h => hKp c a _ _ w h) (Or.inl ⟨by kernel_rfl, fun w hSw => by dsimp only at hSw; obtain g0 := hSw; go_simp⟩) (by assumption) ?_
    simp only [Act.put, List.getElem_toArray, List.getElem_cons_zero, List.getElem_cons_succ, List.setIfInBounds_toArray, List.set_cons_zero, List.set_cons_succ]
    refine wpAnyH_take (i := 8) (v := .int .i64 (nA : Int)) rfl (by kernel_rfl) (by kernel_rfl) (by kernel_rfl) (fun c a w h => hKp c a _ _ w h) (Or.inl ⟨by kernel_rfl, fun w hSw => by dsimp only at hSw; obtain g0 := hSw; go_simp⟩) (by assumption) ?_
    simp only [Act.put, List.getElem_toArray, List.getElem_cons_zero, List.getElem_cons_succ, List.setIfInBounds_toArray, List.set_cons_zero, List.set_cons_succ]
    refine wpAnyH_take (i := 9) (v := .slice (some ⟨g, 0, none⟩) 0 0) rfl (by kernel_rfl) (by kernel_rfl) (by kernel_rfl) (fun c a w h => hKp c a _ _ w h) (Or.inl ⟨by kernel_rfl, fun w hSw => by dsimp only at hSw; obtain g0 := hSw; have hz0 := HZ0.out; go_simp⟩) (by assumption) ?_
    simp only [Act.put, List.getElem_toArray, List.getElem_cons_zero, List.getElem_cons_succ, List.setIfInBounds_toArray, List.set_cons_zero, List.set_cons_succ]
    refine wpAnyH_ready (rs := [0]) (by kernel_rfl) (by simp) ?_
    refine AllReadyH.cons rfl (fun Kx hKx => ?_) AllReadyH.nil
    try rw [if_pos (by kernel_rfl)]
    go_simp
    refine hKx.out _ _ (HC.out _ HBA.out) (fun hHeld => ?_)
    clear hKx Kx
    try simp only [Act.put, List.getElem_toArray, List.getElem_cons_zero, List.getElem_cons_succ, List.setIfInBounds_toArray, List.set_cons_zero, List.set_cons_succ]
    refine wpAnyH_ready (rs := [5]) (by kernel_rfl) (by simp) ?_
    refine AllReadyH.cons rfl (fun Kx hKx => ?_) AllReadyH.nil
    refine step_append_anyW _ rfl _ _ 39 rfl wr.heap.size 68 i0 (.agg #[.int .i64 0, .string ByteArray.empty, .string ByteArray.empty, .string ByteArray.empty, .string ByteArray.empty, .string ByteArray.empty]) 6 88 Tryz.underlying39 hi hz0 hz1 hz2 rfl (by decide) _ 0 [] rfl HN1.out _ _ _ (((im.als.map alC).flatMap id).drop (nA * 6)) rfl (HL1.out.trans (by omega)) (fun h => by cases h) (fun ad ha j u hu => by rw [HX0.out] at hu; simp at hu) (fun u hu => alC_oneZ _ u (List.mem_of_mem_drop hu)) (by unfold maxLen; omega) (by omega) (by simp) ?_
    intro v6 w6 hown6 hgrow6
    have hb6 := HBA.out.grown hgrow6 (by simp) (fun r e => by cases e; exact Nat.le_refl _)
    refine hKx.out _ _ (HC.out _ hb6) (fun hHeld => ?_)
    clear hKx Kx
    try simp only [Act.put, List.getElem_toArray, List.getElem_cons_zero, List.getElem_cons_succ, List.setIfInBounds_toArray, List.set_cons_zero, List.set_cons_succ]
    refine wpAnyH_ready (rs := [10]) (by kernel_rfl) (by simp) ?_
    refine AllReadyH.cons rfl (fun Kx hKx => ?_) AllReadyH.nil
    refine step_append_anyW _ rfl _ _ 39 rfl wr.heap.size 68 i0 (.agg #[.int .i64 0, .string ByteArray.empty, .string ByteArray.empty, .string ByteArray.empty, .string ByteArray.empty, .string ByteArray.empty]) 6 88 Tryz.underlying39 hi hz0 hz1 hz2 rfl (by decide) _ _ _ rfl hown6 _ _ _ (((im.als.map alC).flatMap id).take (nA * 6)) rfl (HL2.out.trans (by omega)) (fun h => by cases h) (fun ad ha j u hu => by rw [HX0.out] at hu; simp at hu) (fun u hu => alC_oneZ _ u (List.mem_of_mem_take hu)) (by unfold maxLen; omega) (by omega) hb6.size ?_
    intro v8 w8 hown8 hgrow8
    have hb8 := hb6.grown hgrow8 hb6.size (fun r e => (hown6.lt r e).1)
    refine hKx.out _ _ (HC.out _ hb8) (fun hHeld => ?_)
    clear hKx Kx
    try simp only [Act.put, List.getElem_toArray, List.getElem_cons_zero, List.getElem_cons_succ, List.setIfInBounds_toArray, List.set_cons_zero, List.set_cons_succ]
    have hx8 := (HTU.out.below hb8).x
    obtain ⟨q0, q1, q2, q3, q4, q5⟩ := cells6 hx8
    have f7 := frozenY hx8 0
    have hT8 := HTU.out.turnA hb8 (l := rotZ nA im.als) (by rw [rot_cellsZ nA im.als (alC_all _)]; rw [List.nil_append] at hown8; exact hown8) (by rw [(rotZ_perm nA im.als).length_eq]; omega) (fun y hy => HTU.out.o.s.als y ((rotZ_perm nA im.als).mem_iff.1 hy))
    have hC8 := HC.out _ hb8
    obtain ⟨va8, vn8, vc8, rfl⟩ := own_sliceZ hown8
    refine wpAnyH_take (i := 11) (v := .pointer (some ⟨nX, 0, none⟩)) rfl (by kernel_rfl) (by kernel_rfl) (by kernel_rfl) (fun c a w h => hKp c a _ _ w h) (Or.inl ⟨by kernel_rfl, fun w hSw => by dsimp only at hSw; obtain g0 := hSw; go_simp⟩) (by assumption) ?_
    simp only [Act.put, List.getElem_toArray, List.getElem_cons_zero, List.getElem_cons_succ, List.setIfInBounds_toArray, List.set_cons_zero, List.set_cons_succ]
    have HT8 := Lib.hid hT8
    have HC9 := Lib.hid ((World.cell?_of_block (a := ⟨nI, 0, none⟩) (heap_setCellZ (W := w8) (k := 0) (v := .slice va8 vn8 vc8) HTU.out.ne)).trans hC8)
    clear hT8 hx8 hC8
    refine wpAnyH_ready (rs := [12]) (by kernel_rfl) (by simp) ?_
    refine AllReadyH.cons rfl (fun Kx hKx => ?_) AllReadyH.nil
    try rw [if_pos (by kernel_rfl)]
    go_simp
    refine hKx.out _ _ HC9.out (fun hHeld => ?_)
    clear hKx Kx
    try simp only [Act.put, List.getElem_toArray, List.getElem_cons_zero, List.getElem_cons_succ, List.setIfInBounds_toArray, List.set_cons_zero, List.set_cons_succ]
    refine wpAnyH_done (by kernel_rfl) ?_ _
    exact hfin v6 va8 vn8 vc8 _ HT8.out
    rintro u1 a8 m8 c8 W9 hT9
    go_wp2_with fail
    go_meet
    exact ⟨_, rfl, hT9⟩
   ·subst hv
    have hn1 : (0 : Int) ≤ (nA : Int) := by omega
    have hn2 : (nA : Int) ≤ (im.als.length : Int) := by omega
    have hn3 : (nA : Int) ≤ (cap : Int) := by omega
    have hn4 : ¬ cap = nA := by omega
    have hn5 : (im.als.length : Int) ≤ (cap : Int) := by omega
    unfold maxLen at hmax
    have HC := Lib.hid (fun w' (h : Below wr.heap.size wr w') => show w'.cell? ⟨nI, 0, none⟩ = some (.slice (some ⟨g, 0, none⟩) im.als.length cap) from (cells6 (HTU.out.below h).i).1)
    refine wp_region_held_drew (S := fun w' => w'.cell? ⟨nI, 0, none⟩ = some (.slice (some ⟨g, 0, none⟩) im.als.length cap)) (by kernel_rfl) (HC.out _ (Below.drew (Below.refl _ _))) (fun hHeld => ?_)
    apply held_shellV (R := fun (_ : Value) (a8 : Option Addr) (m8 c8 : Nat) (w' : World) => TuI w w' nI nX b im { xi with als := rotZ nA im.als } (.slice (some ⟨g, 0, none⟩) im.als.length cap) vl vr vm (.slice a8 m8 c8) vl vm)
    exact fun _ _ d _ _ h => by cases d <;> exact h
    rotate_left 1
    intro KK hKp hfin
    refine wpAnyH_take (i := 1) (v := .pointer (some ⟨nI, 0, none⟩)) rfl (by kernel_rfl) (by kernel_rfl) (by kernel_rfl) (fun c a w h => hKp c a _ _ w h) (Or.inl ⟨by kernel_rfl, fun w hSw => by dsimp only at hSw; obtain g0 := hSw; go_simp⟩) (by assumption) ?_
    simp only [Act.put, List.getElem_toArray, List.getElem_cons_zero, List.getElem_cons_succ, List.setIfInBounds_toArray, List.set_cons_zero, List.set_cons_succ]
    refine wpAnyH_take (i := 2) (v := .slice (some ⟨g, 0, none⟩) im.als.length cap) rfl (by kernel_rfl) (by kernel_rfl) (by kernel_rfl) (fun c a w h => hKp c a _ _ w h) (Or.inl ⟨by kernel_rfl, fun w hSw => by dsimp only at hSw; obtain g0 := hSw; go_simp⟩) (by assumption) ?_
    simp only [Act.put, List.getElem_toArray, List.getElem_cons_zero, List.getElem_cons_succ, List.setIfInBounds_toArray, List.set_cons_zero, List.set_cons_succ]
    refine wpAnyH_take (i := 3) (v := .int .i64 (nA : Int)) rfl (by kernel_rfl) (by kernel_rfl) (by kernel_rfl) (fun c a w h => hKp c a _ _ w h) (Or.inl ⟨by kernel_rfl, fun w hSw => by dsimp only at hSw; obtain g0 := hSw; go_simp⟩) (by assumption) ?_
    simp only [Act.put, List.getElem_toArray, List.getElem_cons_zero, List.getElem_cons_succ, List.setIfInBounds_toArray, List.set_cons_zero, List.set_cons_succ]
    refine wpAnyH_take (i := 4) (v := .slice (some ⟨g, nA * 6, none⟩) (im.als.length - nA) (cap - nA)) rfl (by kernel_rfl) (by kernel_rfl) (by kernel_rfl) (fun c a w h => hKp c a _ _ w h) (Or.inl ⟨by kernel_rfl, fun w hSw => by dsimp only at hSw; obtain g0 := hSw; go_simp⟩) (by assumption) ?_
    simp only [Act.put, List.getElem_toArray, List.getElem_cons_zero, List.getElem_cons_succ, List.setIfInBounds_toArray, List.set_cons_zero, List.set_cons_succ]
    refine wpAnyH_take (i := 6) (v := .pointer (some ⟨nI, 0, none⟩)) rfl (by kernel_rfl) (by kernel_rfl) (by kernel_rfl) (fun c a w h => hKp c a _ _ w h) (Or.inl ⟨by kernel_rfl, fun w hSw => by dsimp only at hSw; obtain g0 := hSw; go_simp⟩) (by assumption) ?_
    simp only [Act.put, List.getElem_toArray, List.getElem_cons_zero, List.getElem_cons_succ, List.setIfInBounds_toArray, List.set_cons_zero, List.set_cons_succ]
    refine wpAnyH_take (i := 7) (v := .slice (some ⟨g, 0, none⟩) im.als.length cap) rfl (by kernel_rfl) (by kernel_rfl) (by kernel_rfl) (fun c a w h => hKp c a _ _ w h) (Or.inl ⟨by kernel_rfl, fun w hSw => by dsimp only at hSw; obtain g0 := hSw; go_simp⟩) (by assumption) ?_
    simp only [Act.put, List.getElem_toArray, List.getElem_cons_zero, List.getElem_cons_succ, List.setIfInBounds_toArray, List.set_cons_zero, List.set_cons_succ]
    refine wpAnyH_take (i := 8) (v := .int .i64 (nA : Int)) rfl (by kernel_rfl) (by kernel_rfl) (by kernel_rfl) (fun c a w h => hKp c a _ _ w h) (Or.inl ⟨by kernel_rfl, fun w hSw => by dsimp only at hSw; obtain g0 := hSw; go_simp⟩) (by assumption) ?_
    simp only [Act.put, List.getElem_toArray, List.getElem_cons_zero, List.getElem_cons_succ, List.setIfInBounds_toArray, List.set_cons_zero, List.set_cons_succ]
    refine wpAnyH_take (i := 9) (v := .slice (some ⟨g, 0, none⟩) nA cap) rfl (by kernel_rfl) (by kernel_rfl) (by kernel_rfl) (fun c a w h => hKp c a _ _ w h) (Or.inl ⟨by kernel_rfl, fun w hSw => by dsimp only at hSw; obtain g0 := hSw; go_simp⟩) (by assumption) ?_
    simp only [Act.put, List.getElem_toArray, List.getElem_cons_zero, List.getElem_cons_succ, List.setIfInBounds_toArray, List.set_cons_zero, List.set_cons_succ]
    refine wpAnyH_ready (rs := [0]) (by kernel_rfl) (by simp) ?_
    refine AllReadyH.cons rfl (fun Kx hKx => ?_) AllReadyH.nil
    try rw [if_pos (by kernel_rfl)]
    go_simp
    refine hKx.out _ _ (HC.out _ HBA.out) (fun hHeld => ?_)
    clear hKx Kx
    try simp only [Act.put, List.getElem_toArray, List.getElem_cons_zero, List.getElem_cons_succ, List.setIfInBounds_toArray, List.set_cons_zero, List.set_cons_succ]
    refine wpAnyH_ready (rs := [5]) (by kernel_rfl) (by simp) ?_
    refine AllReadyH.cons rfl (fun Kx hKx => ?_) AllReadyH.nil
    refine step_append_anyW _ rfl _ _ 39 rfl wr.heap.size 68 i0 (.agg #[.int .i64 0, .string ByteArray.empty, .string ByteArray.empty, .string ByteArray.empty, .string ByteArray.empty, .string ByteArray.empty]) 6 88 Tryz.underlying39 hi hz0 hz1 hz2 rfl (by decide) _ 0 [] rfl HN1.out _ _ _ (((im.als.map alC).flatMap id).drop (nA * 6)) rfl (HL1.out.trans (by omega)) (fun h => by cases h) (fun ad ha j u hu => by cases ha; exact own_newsZ HOA.out j u hu) (fun u hu => alC_oneZ _ u (List.mem_of_mem_drop hu)) (by unfold maxLen; omega) (by omega) (by simp) ?_
    intro v6 w6 hown6 hgrow6
    have hb6 := HBA.out.grown hgrow6 (by simp) (fun r e => by cases e; exact Nat.le_refl _)
    have HO6 := own_belowW (HOW.out) hb6
    refine hKx.out _ _ (HC.out _ hb6) (fun hHeld => ?_)
    clear hKx Kx
    try simp only [Act.put, List.getElem_toArray, List.getElem_cons_zero, List.getElem_cons_succ, List.setIfInBounds_toArray, List.set_cons_zero, List.set_cons_succ]
    refine wpAnyH_ready (rs := [10]) (by kernel_rfl) (by simp) ?_
    refine AllReadyH.cons rfl (fun Kx hKx => ?_) AllReadyH.nil
    refine step_append_anyW _ rfl _ _ 39 rfl wr.heap.size 68 i0 (.agg #[.int .i64 0, .string ByteArray.empty, .string ByteArray.empty, .string ByteArray.empty, .string ByteArray.empty, .string ByteArray.empty]) 6 88 Tryz.underlying39 hi hz0 hz1 hz2 rfl (by decide) _ _ _ rfl hown6 _ _ _ (((im.als.map alC).flatMap id).take (nA * 6)) rfl (HL2.out.trans (by omega)) (fun h => by cases h) (fun ad ha j u hu => by cases ha; exact own_newsT HO6 j u hu) (fun u hu => alC_oneZ _ u (List.mem_of_mem_take hu)) (by unfold maxLen; omega) (by omega) hb6.size ?_
    intro v8 w8 hown8 hgrow8
    have hb8 := hb6.grown hgrow8 hb6.size (fun r e => (hown6.lt r e).1)
    refine hKx.out _ _ (HC.out _ hb8) (fun hHeld => ?_)
    clear hKx Kx
    try simp only [Act.put, List.getElem_toArray, List.getElem_cons_zero, List.getElem_cons_succ, List.setIfInBounds_toArray, List.set_cons_zero, List.set_cons_succ]
    have hx8 := (HTU.out.below hb8).x
    obtain ⟨q0, q1, q2, q3, q4, q5⟩ := cells6 hx8
    have f7 := frozenY hx8 0
    have hT8 := HTU.out.turnA hb8 (l := rotZ nA im.als) (by rw [rot_cellsZ nA im.als (alC_all _)]; rw [List.nil_append] at hown8; exact hown8) (by rw [(rotZ_perm nA im.als).length_eq]; omega) (fun y hy => HTU.out.o.s.als y ((rotZ_perm nA im.als).mem_iff.1 hy))
    have hC8 := HC.out _ hb8
    obtain ⟨va8, vn8, vc8, rfl⟩ := own_sliceZ hown8
    refine wpAnyH_take (i := 11) (v := .pointer (some ⟨nX, 0, none⟩)) rfl (by kernel_rfl) (by kernel_rfl) (by kernel_rfl) (fun c a w h => hKp c a _ _ w h) (Or.inl ⟨by kernel_rfl, fun w hSw => by dsimp only at hSw; obtain g0 := hSw; go_simp⟩) (by assumption) ?_
    simp only [Act.put, List.getElem_toArray, List.getElem_cons_zero, List.getElem_cons_succ, List.setIfInBounds_toArray, List.set_cons_zero, List.set_cons_succ]
    have HT8 := Lib.hid hT8
    have HC9 := Lib.hid ((World.cell?_of_block (a := ⟨nI, 0, none⟩) (heap_setCellZ (W := w8) (k := 0) (v := .slice va8 vn8 vc8) HTU.out.ne)).trans hC8)
    clear hT8 hx8 hC8
    refine wpAnyH_ready (rs := [12]) (by kernel_rfl) (by simp) ?_
    refine AllReadyH.cons rfl (fun Kx hKx => ?_) AllReadyH.nil
    try rw [if_pos (by kernel_rfl)]
    go_simp
    refine hKx.out _ _ HC9.out (fun hHeld => ?_)
    clear hKx Kx
    try simp only [Act.put, List.getElem_toArray, List.getElem_cons_zero, List.getElem_cons_succ, List.setIfInBounds_toArray, List.set_cons_zero, List.set_cons_succ]
    refine wpAnyH_done (by kernel_rfl) ?_ _
    exact hfin v6 va8 vn8 vc8 _ HT8.out
    rintro u1 a8 m8 c8 W9 hT9
    go_wp2_with fail
    go_meet
    exact ⟨_, rfl, hT9⟩
  case rest =>
   obtain ⟨v0, rfl, hT⟩ := hcut
   have HP2 := Lib.hid (HP.out.setA nA)
   obtain ⟨xj, hxj⟩ : ∃ z, { xi with als := rotZ nA im.als } = z := ⟨_, rfl⟩
   rw [hxj] at hT HP2
   clear hxj HP HTU
   obtain ⟨HP, rfl⟩ : ∃ h, h = HP2 := ⟨_, rfl⟩
   obtain ⟨xi, rfl⟩ : ∃ z, z = xj := ⟨_, rfl⟩
   obtain ⟨wr, rfl⟩ : ∃ x, x = wc := ⟨_, rfl⟩
   have HTU := Lib.hid hT
   clear hT
   obtain ⟨z0, z1, z2, z3, z4, z5⟩ := cells6 HTU.out.i
   obtain ⟨saL, snL, scL, hvL⟩ := own_sliceZ HTU.out.o.l
   rw [hvL] at z1
   obtain ⟨hsL, -⟩ := own_lenZ (hvL ▸ HTU.out.o.l)
   rw [hsL] at z1
   have HVL := Lib.hid (And.intro hvL hsL)
   clear hvL hsL
   go_upto_if 46 with fail
   go_cut [10] from 46 to 51 (fun u wx => u = .int .i64 (nL : Int) ∧ wx = wr)
   case first =>
    by_cases hz : 0 < im.lks.length
    ·have hd : decide (0 < im.lks.length) = true := decide_eq_true hz
     have hd2 : (0 : Int) < (im.lks.length : Int) := by omega
     have RR := Lib.hid (fun w5 => RSL.out w5 hz)
     clear hz
     go_wp2_with (go_at_call 16; (with_reducible refine (RR.out _).mono ?_); rintro e w' ⟨rfl, rfl⟩)
     go_meet
     case rel => exact ⟨rfl, rfl⟩
    ·have hd : decide (0 < im.lks.length) = false := decide_eq_false hz
     have hd2 : ¬ (0 : Int) < (im.lks.length : Int) := by omega
     have e0 := HNL.out hz
     clear hz
     go_wp2_with fail
     go_meet
     case rel => exact ⟨by rw [e0]; rfl, rfl⟩
   case rest =>
    obtain ⟨rfl, hwx⟩ := hcut
    obtain rfl : wr = _ := hwx.symm
    clear z0 z1 z2 z3 z4 z5
    go_upto_region 12 with fail
    go_cut [9] from 52 to 63 (fun u wx => ∃ v', u = .pointer (some ⟨nX, 0, none⟩) ∧ TuI w wx nI nX b im { xi with lks := rotZ nL im.lks } va vl vr vm v0 v' vm)
    case first =>
     obtain ⟨i0, hi, hz0, hz1, hz2⟩ := info_parts lkInfo
     have HN1 := Lib.hid (own_emptyZ wr.drew 23 6)
     have HBA := Lib.hid (show Below wr.heap.size wr (wr.drew.alloc (.cells #[] 23)) from (Below.drew (Below.refl wr.heap.size wr)).alloc (Nat.le_refl _) _)
     have HL1 := Lib.hid (show (((im.lks.map lkC).flatMap id).drop (nL * 6)).length = (im.lks.length - nL) * 6 by rw [List.length_drop, HTU.out.o.l.1]; omega)
     have HL2 := Lib.hid (show (((im.lks.map lkC).flatMap id).take (nL * 6)).length = nL * 6 by rw [List.length_take, HTU.out.o.l.1]; omega)
     have HOW := Lib.hid HTU.out.o.l
     have HOA := Lib.hid (own_belowW HTU.out.o.l HBA.out)
     have hsI := lt_of_block HTU.out.i
     rcases slice_casesZ HTU.out.o.l with ⟨hv, hz⟩ | ⟨g, hv, hz⟩ | ⟨g, cap, hv, hle, hpos, hmax⟩
     ·have HZ0 := Lib.hid (show (nL : Int) = 0 by omega)
      skip
      subst hv
      have HX0 := Lib.hid (show ((im.lks.map lkC).flatMap id) = [] from List.eq_nil_of_length_eq_zero (HTU.out.o.l.1.trans (by rw [hz, Nat.zero_mul])))
      have hy1 : nL ≤ 0 := by omega
      have hy2 : im.lks.length ≤ 0 := by omega
      clear hz
      have HC := Lib.hid (fun w' (h : Below wr.heap.size wr w') => show w'.cell? ⟨nI, 1, none⟩ = some (.slice none 0 0) from (cells6 (HTU.out.below h).i).2.1)
      refine wp_region_held_drew (S := fun w' => w'.cell? ⟨nI, 1, none⟩ = some (.slice none 0 0)) (by kernel_rfl) (HC.out _ (Below.drew (Below.refl _ _))) (fun hHeld => ?_)
      apply held_shellV (R := fun (_ : Value) (a8 : Option Addr) (m8 c8 : Nat) (w' : World) => TuI w w' nI nX b im { xi with lks := rotZ nL im.lks } va (.slice none 0 0) vr vm v0 (.slice a8 m8 c8) vm)
      exact fun _ _ d _ _ h => by cases d <;> exact h
      rotate_left 1
      intro KK hKp hfin
      refine wpAnyH_take (i := 1) (v := .pointer (some ⟨nI, 1, none⟩)) rfl (by kernel_rfl) (by kernel_rfl) (by kernel_rfl) (fun c a w h => hKp c a _ _ w h) (Or.inl ⟨by kernel_rfl, fun w hSw => by dsimp only at hSw; obtain g0 := hSw; go_simp⟩) (by assumption) ?_
      simp only [Act.put, List.getElem_toArray, List.getElem_cons_zero, List.getElem_cons_succ, List.setIfInBounds_toArray, List.set_cons_zero, List.set_cons_succ]
      refine wpAnyH_take (i := 2) (v := .slice none 0 0) rfl (by kernel_rfl) (by kernel_rfl) (by kernel_rfl) (fun c a w h => hKp c a _ _ w h) (Or.inl ⟨by kernel_rfl, fun w hSw => by dsimp only at hSw; obtain g0 := hSw; go_simp⟩) (by assumption) ?_
      simp only [Act.put, List.getElem_toArray, List.getElem_cons_zero, List.getElem_cons_succ, List.setIfInBounds_toArray, List.set_cons_zero, List.set_cons_succ]
      refine wpAnyH_take (i := 3) (v := .int .i64 (nL : Int)) rfl (by kernel_rfl) (by kernel_rfl) (by kernel_rfl) (fun c a w h => hKp c a _ _ w h) (Or.inl ⟨by kernel_rfl, fun w hSw => by dsimp only at hSw; obtain g0 := hSw; go_simp⟩) (by assumption) ?_
      simp only [Act.put, List.getElem_toArray, List.getElem_cons_zero, List.getElem_cons_succ, List.setIfInBounds_toArray, List.set_cons_zero, List.set_cons_succ]
      refine wpAnyH_take (i := 4) (v := .slice none 0 0) rfl (by kernel_rfl) (by kernel_rfl) (by kernel_rfl) (fun c a w h => hKp c a _ _ w h) (Or.inl ⟨by kernel_rfl, fun w hSw => by dsimp only at hSw; obtain g0 := hSw; have hz0 := HZ0.out; go_simp⟩) (by assumption) ?_
      simp only [Act.put, List.getElem_toArray, List.getElem_cons_zero, List.getElem_cons_succ, List.setIfInBounds_toArray, List.set_cons_zero, List.set_cons_succ]
      refine wpAnyH_take (i := 6) (v := .pointer (some ⟨nI, 1, none⟩)) rfl (by kernel_rfl) (by kernel_rfl) (by kernel_rfl) (fun c a w h => hKp c a _ _ w h) (Or.inl ⟨by kernel_rfl, fun w hSw => by dsimp only at hSw; obtain g0 := hSw; go_simp⟩) (by assumption) ?_
      simp only [Act.put, List.getElem_toArray, List.getElem_cons_zero, List.getElem_cons_succ, List.setIfInBounds_toArray, List.set_cons_zero, List.set_cons_succ]
      refine wpAnyH_take (i := 7) (v := .slice none 0 0) rfl (by kernel_rfl) (by kernel_rfl) (by kernel_rfl) (fun c a w h => hKp c a _ _ w h) (Or.inl ⟨by kernel_rfl, fun w hSw => by dsimp only at hSw; obtain g0 := hSw; go_simp⟩) (by assumption) ?_
      simp only [Act.put, List.getElem_toArray, List.getElem_cons_zero, List.getElem_cons_succ, List.setIfInBounds_toArray, List.set_cons_zero, List.set_cons_succ]
      refine wpAnyH_take (i := 8) (v := .int .i64 (nL : Int)) rfl (by kernel_rfl) (by kernel_rfl) (by kernel_rfl) (fun c a w h => hKp c a _ _ w h) (Or.inl ⟨by kernel_rfl, fun w hSw => by dsimp only at hSw; obtain g0 := hSw; go_simp⟩) (by assumption) ?_
      simp only [Act.put, List.getElem_toArray, List.getElem_cons_zero, List.getElem_cons_succ, List.setIfInBounds_toArray, List.set_cons_zero, List.set_cons_succ]
      refine wpAnyH_take (i := 9) (v := .slice none 0 0) rfl (by kernel_rfl) (by kernel_rfl) (by kernel_rfl) (fun c a w h => hKp c a _ _ w h) (Or.inl ⟨by kernel_rfl, fun w hSw => by dsimp only at hSw; obtain g0 := hSw; have hz0 := HZ0.out; go_simp⟩) (by assumption) ?_
      simp only [Act.put, List.getElem_toArray, List.getElem_cons_zero, List.getElem_cons_succ, List.setIfInBounds_toArray, List.set_cons_zero, List.set_cons_succ]
      refine wpAnyH_ready (rs := [0]) (by kernel_rfl) (by simp) ?_
      refine AllReadyH.cons rfl (fun Kx hKx => ?_) AllReadyH.nil
      try rw [if_pos (by kernel_rfl)]
      go_simp
      refine hKx.out _ _ (HC.out _ HBA.out) (fun hHeld => ?_)
      clear hKx Kx
      try simp only [Act.put, List.getElem_toArray, List.getElem_cons_zero, List.getElem_cons_succ, List.setIfInBounds_toArray, List.set_cons_zero, List.set_cons_succ]
      refine wpAnyH_ready (rs := [5]) (by kernel_rfl) (by simp) ?_
      refine AllReadyH.cons rfl (fun Kx hKx => ?_) AllReadyH.nil
      refine step_append_anyW _ rfl _ _ 40 rfl wr.heap.size 23 i0 (.agg #[.string ByteArray.empty, .string ByteArray.empty, .string ByteArray.empty, .string ByteArray.empty, .string ByteArray.empty, .string ByteArray.empty]) 6 96 Tryz.underlying40 hi hz0 hz1 hz2 rfl (by decide) _ 0 [] rfl HN1.out _ _ _ (((im.lks.map lkC).flatMap id).drop (nL * 6)) rfl (HL1.out.trans (by omega)) (fun h => by first | rfl | cases h) (fun ad ha j u hu => by cases ha) (fun u hu => lkC_oneZ _ u (List.mem_of_mem_drop hu)) (by unfold maxLen; omega) (by omega) (by simp) ?_
      intro v6 w6 hown6 hgrow6
      have hb6 := HBA.out.grown hgrow6 (by simp) (fun r e => by cases e; exact Nat.le_refl _)
      refine hKx.out _ _ (HC.out _ hb6) (fun hHeld => ?_)
      clear hKx Kx
      try simp only [Act.put, List.getElem_toArray, List.getElem_cons_zero, List.getElem_cons_succ, List.setIfInBounds_toArray, List.set_cons_zero, List.set_cons_succ]
      refine wpAnyH_ready (rs := [10]) (by kernel_rfl) (by simp) ?_
      refine AllReadyH.cons rfl (fun Kx hKx => ?_) AllReadyH.nil
      refine step_append_anyW _ rfl _ _ 40 rfl wr.heap.size 23 i0 (.agg #[.string ByteArray.empty, .string ByteArray.empty, .string ByteArray.empty, .string ByteArray.empty, .string ByteArray.empty, .string ByteArray.empty]) 6 96 Tryz.underlying40 hi hz0 hz1 hz2 rfl (by decide) _ _ _ rfl hown6 _ _ _ (((im.lks.map lkC).flatMap id).take (nL * 6)) rfl (HL2.out.trans (by omega)) (fun h => by first | rfl | cases h) (fun ad ha j u hu => by cases ha) (fun u hu => lkC_oneZ _ u (List.mem_of_mem_take hu)) (by unfold maxLen; omega) (by omega) hb6.size ?_
      intro v8 w8 hown8 hgrow8
      have hb8 := hb6.grown hgrow8 hb6.size (fun r e => (hown6.lt r e).1)
      refine hKx.out _ _ (HC.out _ hb8) (fun hHeld => ?_)
      clear hKx Kx
      try simp only [Act.put, List.getElem_toArray, List.getElem_cons_zero, List.getElem_cons_succ, List.setIfInBounds_toArray, List.set_cons_zero, List.set_cons_succ]
      have hx8 := (HTU.out.below hb8).x
      obtain ⟨q0, q1, q2, q3, q4, q5⟩ := cells6 hx8
      have f7 := frozenY hx8 1
      have hT8 := HTU.out.turnL hb8 (l := rotZ nL im.lks) (by rw [rot_cellsZ nL im.lks (lkC_all _)]; rw [List.nil_append] at hown8; exact hown8) (by rw [(rotZ_perm nL im.lks).length_eq]; omega) (fun y hy => HTU.out.o.s.lks y ((rotZ_perm nL im.lks).mem_iff.1 hy))
      have hC8 := HC.out _ hb8
      obtain ⟨va8, vn8, vc8, rfl⟩ := own_sliceZ hown8
      refine wpAnyH_take (i := 11) (v := .pointer (some ⟨nX, 1, none⟩)) rfl (by kernel_rfl) (by kernel_rfl) (by kernel_rfl) (fun c a w h => hKp c a _ _ w h) (Or.inl ⟨by kernel_rfl, fun w hSw => by dsimp only at hSw; obtain g0 := hSw; go_simp⟩) (by assumption) ?_
      simp only [Act.put, List.getElem_toArray, List.getElem_cons_zero, List.getElem_cons_succ, List.setIfInBounds_toArray, List.set_cons_zero, List.set_cons_succ]
      have HT8 := Lib.hid hT8
      have HC9 := Lib.hid ((World.cell?_of_block (a := ⟨nI, 1, none⟩) (heap_setCellZ (W := w8) (k := 1) (v := .slice va8 vn8 vc8) HTU.out.ne)).trans hC8)
      clear hT8 hx8 hC8
      refine wpAnyH_ready (rs := [12]) (by kernel_rfl) (by simp) ?_
      refine AllReadyH.cons rfl (fun Kx hKx => ?_) AllReadyH.nil
      try rw [if_pos (by kernel_rfl)]
      go_simp
      refine hKx.out _ _ HC9.out (fun hHeld => ?_)
      clear hKx Kx
      try simp only [Act.put, List.getElem_toArray, List.getElem_cons_zero, List.getElem_cons_succ, List.setIfInBounds_toArray, List.set_cons_zero, List.set_cons_succ]
      refine wpAnyH_done (by kernel_rfl) ?_ _
      exact hfin v6 va8 vn8 vc8 _ HT8.out
      rintro u1 a8 m8 c8 W9 hT9
      go_wp2_with fail
      go_meet
      exact ⟨_, rfl, hT9⟩
     ·have HZ0 := Lib.hid (show (nL : Int) = 0 by omega)
      rw [hz] at hv
      subst hv
      have HX0 := Lib.hid (show ((im.lks.map lkC).flatMap id) = [] from List.eq_nil_of_length_eq_zero (HTU.out.o.l.1.trans (by rw [hz, Nat.zero_mul])))
      have hy1 : nL ≤ 0 := by omega
      have hy2 : im.lks.length ≤ 0 := by omega
      clear hz
      have HC := Lib.hid (fun w' (h : Below wr.heap.size wr w') => show w'.cell? ⟨nI, 1, none⟩ = some (.slice (some ⟨g, 0, none⟩) 0 0) from (cells6 (HTU.out.below h).i).2.1)
      refine wp_region_held_drew (S := fun w' => w'.cell? ⟨nI, 1, none⟩ = some (.slice (some ⟨g, 0, none⟩) 0 0)) (by kernel_rfl) (HC.out _ (Below.drew (Below.refl _ _))) (fun hHeld => ?_)
      apply held_shellV (R := fun (_ : Value) (a8 : Option Addr) (m8 c8 : Nat) (w' : World) => TuI w w' nI nX b im { xi with lks := rotZ nL im.lks } va (.slice (some ⟨g, 0, none⟩) 0 0) vr vm v0 (.slice a8 m8 c8) vm)
      exact fun _ _ d _ _ h => by cases d <;> exact h
      rotate_left 1
      intro KK hKp hfin
      refine wpAnyH_take (i := 1) (v := .pointer (some ⟨nI, 1, none⟩)) rfl (by kernel_rfl) (by kernel_rfl) (by kernel_rfl) (fun c a w h => hKp c a _ _ w h) (Or.inl ⟨by kernel_rfl, fun w hSw => by dsimp only at hSw; obtain g0 := hSw; go_simp⟩) (by assumption) ?_
      simp only [Act.put, List.getElem_toArray, List.getElem_cons_zero, List.getElem_cons_succ, List.setIfInBounds_toArray, List.set_cons_zero, List.set_cons_succ]
      refine wpAnyH_take (i := 2) (v := .slice (some ⟨g, 0, none⟩) 0 0) rfl (by kernel_rfl) (by kernel_rfl) (by kernel_rfl) (fun c a w h => hKp c a _ _ w h) (Or.inl ⟨by kernel_rfl, fun w hSw => by dsimp only at hSw; obtain g0 := hSw; go_simp⟩) (by assumption) ?_
      simp only [Act.put, List.getElem_toArray, List.getElem_cons_zero, List.getElem_cons_succ, List.setIfInBounds_toArray, List.set_cons_zero, List.set_cons_succ]
      refine wpAnyH_take (i := 3) (v := .int .i64 (nL : Int)) rfl (by kernel_rfl) (by kernel_rfl) (by kernel_rfl) (fun c a w h => hKp c a _ _ w h) (Or.inl ⟨by kernel_rfl, fun w hSw => by dsimp only at hSw; obtain g0 := hSw; go_simp⟩) (by assumption) ?_
      simp only [Act.put, List.getElem_toArray, List.getElem_cons_zero, List.getElem_cons_succ, List.setIfInBounds_toArray, List.set_cons_zero, List.set_cons_succ]
      refine wpAnyH_take (i := 4) (v := .slice (some ⟨g, 0, none⟩) 0 0) rfl (by kernel_rfl) (by kernel_rfl) (by kernel_rfl) (fun c a w h => hKp c a _ _ w h) (Or.inl ⟨by kernel_rfl, fun w hSw => by dsimp only at hSw; obtain g0 := hSw; have hz0 := HZ0.out; go_simp⟩) (by assumption) ?_
      simp only [Act.put, List.getElem_toArray, List.getElem_cons_zero, List.getElem_cons_succ, List.setIfInBounds_toArray, List.set_cons_zero, List.set_cons_succ]
      refine wpAnyH_take (i := 6) (v := .pointer (some ⟨nI, 1, none⟩)) rfl (by kernel_rfl) (by kernel_rfl) (by kernel_rfl) (fun c a w h => hKp c a _ _ w h) (Or.inl ⟨by kernel_rfl, fun w hSw => by dsimp only at hSw; obtain g0 := hSw; go_simp⟩) (by assumption) ?_
      simp only [Act.put, List.getElem_toArray, List.getElem_cons_zero, List.getElem_cons_succ, List.setIfInBounds_toArray, List.set_cons_zero, List.set_cons_succ]
      refine wpAnyH_take (i := 7) (v := .slice (some ⟨g, 0, none⟩) 0 0) rfl (by kernel_rfl) (by kernel_rfl) (by kernel_rfl) (fun c a w h => hKp c a _ _ w h) (Or.inl ⟨by kernel_rfl, fun w hSw => by dsimp only at hSw; obtain g0 := hSw; go_simp⟩) (by assumption) ?_
      simp only [Act.put, List.getElem_toArray, List.getElem_cons_zero, List.getElem_cons_succ, List.setIfInBounds_toArray, List.set_cons_zero, List.set_cons_succ]
      refine wpAnyH_take (i := 8) (v := .int .i64 (nL : Int)) rfl (by kernel_rfl) (by kernel_rfl) (by kernel_rfl) (fun c a w h => hKp c a _ _ w h) (Or.inl ⟨by kernel_rfl, fun w hSw => by dsimp only at hSw; obtain g0 := hSw; go_simp⟩) (by assumption) ?_
      simp only [Act.put, List.getElem_toArray, List.getElem_cons_zero, List.getElem_cons_succ, List.setIfInBounds_toArray, List.set_cons_zero, List.set_cons_succ]
      refine wpAnyH_take (i := 9) (v := .slice (some ⟨g, 0, none⟩) 0 0) rfl (by kernel_rfl) (by kernel_rfl) (by kernel_rfl) (fun c a w h => hKp c a _ _ w h) (Or.inl ⟨by kernel_rfl, fun w hSw => by dsimp only at hSw; obtain g0 := hSw; have hz0 := HZ0.out; go_simp⟩) (by assumption) ?_
      simp only [Act.put, List.getElem_toArray, List.getElem_cons_zero, List.getElem_cons_succ, List.setIfInBounds_toArray, List.set_cons_zero, List.set_cons_succ]
      refine wpAnyH_ready (rs := [0]) (by kernel_rfl) (by simp) ?_
      refine AllReadyH.cons rfl (fun Kx hKx => ?_) AllReadyH.nil
      try rw [if_pos (by kernel_rfl)]
      go_simp
      refine hKx.out _ _ (HC.out _ HBA.out) (fun hHeld => ?_)
      clear hKx Kx
      try simp only [Act.put, List.getElem_toArray, List.getElem_cons_zero, List.getElem_cons_succ, List.setIfInBounds_toArray, List.set_cons_zero, List.set_cons_succ]
      refine wpAnyH_ready (rs := [5]) (by kernel_rfl) (by simp) ?_
      refine AllReadyH.cons rfl (fun Kx hKx => ?_) AllReadyH.nil
      refine step_append_anyW _ rfl _ _ 40 rfl wr.heap.size 23 i0 (.agg #[.string ByteArray.empty, .string ByteArray.empty, .string ByteArray.empty, .string ByteArray.empty, .string ByteArray.empty, .string ByteArray.empty]) 6 96 Tryz.underlying40 hi hz0 hz1 hz2 rfl (by decide) _ 0 [] rfl HN1.out _ _ _ (((im.lks.map lkC).flatMap id).drop (nL * 6)) rfl (HL1.out.trans (by omega)) (fun h => by cases h) (fun ad ha j u hu => by rw [HX0.out] at hu; simp at hu) (fun u hu => lkC_oneZ _ u (List.mem_of_mem_drop hu)) (by unfold maxLen; omega) (by omega) (by simp) ?_
      intro v6 w6 hown6 hgrow6
      have hb6 := HBA.out.grown hgrow6 (by simp) (fun r e => by cases e; exact Nat.le_refl _)
      refine hKx.out _ _ (HC.out _ hb6) (fun hHeld => ?_)
      clear hKx Kx
      try simp only [Act.put, List.getElem_toArray, List.getElem_cons_zero, List.getElem_cons_succ, List.setIfInBounds_toArray, List.set_cons_zero, List.set_cons_succ]
      refine wpAnyH_ready (rs := [10]) (by kernel_rfl) (by simp) ?_
      refine AllReadyH.cons rfl (fun Kx hKx => ?_) AllReadyH.nil
      refine step_append_anyW _ rfl _ _ 40 rfl wr.heap.size 23 i0 (.agg #[.string ByteArray.empty, .string ByteArray.empty, .string ByteArray.empty, .string ByteArray.empty, .string ByteArray.empty, .string ByteArray.empty]) 6 96 Tryz.underlying40 hi hz0 hz1 hz2 rfl (by decide) _ _ _ rfl hown6 _ _ _ (((im.lks.map lkC).flatMap id).take (nL * 6)) rfl (HL2.out.trans (by omega)) (fun h => by cases h) (fun ad ha j u hu => by rw [HX0.out] at hu; simp at hu) (fun u hu => lkC_oneZ _ u (List.mem_of_mem_take hu)) (by unfold maxLen; omega) (by omega) hb6.size ?_
      intro v8 w8 hown8 hgrow8
      have hb8 := hb6.grown hgrow8 hb6.size (fun r e => (hown6.lt r e).1)
      refine hKx.out _ _ (HC.out _ hb8) (fun hHeld => ?_)
      clear hKx Kx
      try simp only [Act.put, List.getElem_toArray, List.getElem_cons_zero, List.getElem_cons_succ, List.setIfInBounds_toArray, List.set_cons_zero, List.set_cons_succ]
      have hx8 := (HTU.out.below hb8).x
      obtain ⟨q0, q1, q2, q3, q4, q5⟩ := cells6 hx8
      have f7 := frozenY hx8 1
      have hT8 := HTU.out.turnL hb8 (l := rotZ nL im.lks) (by rw [rot_cellsZ nL im.lks (lkC_all _)]; rw [List.nil_append] at hown8; exact hown8) (by rw [(rotZ_perm nL im.lks).length_eq]; omega) (fun y hy => HTU.out.o.s.lks y ((rotZ_perm nL im.lks).mem_iff.1 hy))
      have hC8 := HC.out _ hb8
      obtain ⟨va8, vn8, vc8, rfl⟩ := own_sliceZ hown8
      refine wpAnyH_take (i := 11) (v := .pointer (some ⟨nX, 1, none⟩)) rfl (by kernel_rfl) (by kernel_rfl) (by kernel_rfl) (fun c a w h => hKp c a _ _ w h) (Or.inl ⟨by kernel_rfl, fun w hSw => by dsimp only at hSw; obtain g0 := hSw; go_simp⟩) (by assumption) ?_
      simp only [Act.put, List.getElem_toArray, List.getElem_cons_zero, List.getElem_cons_succ, List.setIfInBounds_toArray, List.set_cons_zero, List.set_cons_succ]
      have HT8 := Lib.hid hT8
      have HC9 := Lib.hid ((World.cell?_of_block (a := ⟨nI, 1, none⟩) (heap_setCellZ (W := w8) (k := 1) (v := .slice va8 vn8 vc8) HTU.out.ne)).trans hC8)
      clear hT8 hx8 hC8
      refine wpAnyH_ready (rs := [12]) (by kernel_rfl) (by simp) ?_
      refine AllReadyH.cons rfl (fun Kx hKx => ?_) AllReadyH.nil
      try rw [if_pos (by kernel_rfl)]
      go_simp
      refine hKx.out _ _ HC9.out (fun hHeld => ?_)
      clear hKx Kx
      try simp only [Act.put, List.getElem_toArray, List.getElem_cons_zero, List.getElem_cons_succ, List.setIfInBounds_toArray, List.set_cons_zero, List.set_cons_succ]
      refine wpAnyH_done (by kernel_rfl) ?_ _
      exact hfin v6 va8 vn8 vc8 _ HT8.out
      rintro u1 a8 m8 c8 W9 hT9
      go_wp2_with fail
      go_meet
      exact ⟨_, rfl, hT9⟩
     ·subst hv
      have hn1 : (0 : Int) ≤ (nL : Int) := by omega
      have hn2 : (nL : Int) ≤ (im.lks.length : Int) := by omega
      have hn3 : (nL : Int) ≤ (cap : Int) := by omega
      have hn4 : ¬ cap = nL := by omega
      have hn5 : (im.lks.length : Int) ≤ (cap : Int) := by omega
      unfold maxLen at hmax
      have HC := Lib.hid (fun w' (h : Below wr.heap.size wr w') => show w'.cell? ⟨nI, 1, none⟩ = some (.slice (some ⟨g, 0, none⟩) im.lks.length cap) from (cells6 (HTU.out.below h).i).2.1)
      refine wp_region_held_drew (S := fun w' => w'.cell? ⟨nI, 1, none⟩ = some (.slice (some ⟨g, 0, none⟩) im.lks.length cap)) (by kernel_rfl) (HC.out _ (Below.drew (Below.refl _ _))) (fun hHeld => ?_)
      apply held_shellV (R := fun (_ : Value) (a8 : Option Addr) (m8 c8 : Nat) (w' : World) => TuI w w' nI nX b im { xi with lks := rotZ nL im.lks } va (.slice (some ⟨g, 0, none⟩) im.lks.length cap) vr vm v0 (.slice a8 m8 c8) vm)
      exact fun _ _ d _ _ h => by cases d <;> exact h
      rotate_left 1
      intro KK hKp hfin
      refine wpAnyH_take (i := 1) (v := .pointer (some ⟨nI, 1, none⟩)) rfl (by kernel_rfl) (by kernel_rfl) (by kernel_rfl) (fun c a w h => hKp c a _ _ w h) (Or.inl ⟨by kernel_rfl, fun w hSw => by dsimp only at hSw; obtain g0 := hSw; go_simp⟩) (by assumption) ?_
      simp only [Act.put, List.getElem_toArray, List.getElem_cons_zero, List.getElem_cons_succ, List.setIfInBounds_toArray, List.set_cons_zero, List.set_cons_succ]
      refine wpAnyH_take (i := 2) (v := .slice (some ⟨g, 0, none⟩) im.lks.length cap) rfl (by kernel_rfl) (by kernel_rfl) (by kernel_rfl) (fun c a w h => hKp c a _ _ w h) (Or.inl ⟨by kernel_rfl, fun w hSw => by dsimp only at hSw; obtain g0 := hSw; go_simp⟩) (by assumption) ?_
      simp only [Act.put, List.getElem_toArray, List.getElem_cons_zero, List.getElem_cons_succ, List.setIfInBounds_toArray, List.set_cons_zero, List.set_cons_succ]
      refine wpAnyH_take (i := 3) (v := .int .i64 (nL : Int)) rfl (by kernel_rfl) (by kernel_rfl) (by kernel_rfl) (fun c a w h => hKp c a _ _ w h) (Or.inl ⟨by kernel_rfl, fun w hSw => by dsimp only at hSw; obtain g0 := hSw; go_simp⟩) (by assumption) ?_
      simp only [Act.put, List.getElem_toArray, List.getElem_cons_zero, List.getElem_cons_succ, List.setIfInBounds_toArray, List.set_cons_zero, List.set_cons_succ]
      refine wpAnyH_take (i := 4) (v := .slice (some ⟨g, nL * 6, none⟩) (im.lks.length - nL) (cap - nL)) rfl (by kernel_rfl) (by kernel_rfl) (by kernel_rfl) (fun c a w h => hKp c a _ _ w h) (Or.inl ⟨by kernel_rfl, fun w hSw => by dsimp only at hSw; obtain g0 := hSw; go_simp⟩) (by assumption) ?_
      simp only [Act.put, List.getElem_toArray, List.getElem_cons_zero, List.getElem_cons_succ, List.setIfInBounds_toArray, List.set_cons_zero, List.set_cons_succ]
      refine wpAnyH_take (i := 6) (v := .pointer (some ⟨nI, 1, none⟩)) rfl (by kernel_rfl) (by kernel_rfl) (by kernel_rfl) (fun c a w h => hKp c a _ _ w h) (Or.inl ⟨by kernel_rfl, fun w hSw => by dsimp only at hSw; obtain g0 := hSw; go_simp⟩) (by assumption) ?_
      simp only [Act.put, List.getElem_toArray, List.getElem_cons_zero, List.getElem_cons_succ, List.setIfInBounds_toArray, List.set_cons_zero, List.set_cons_succ]
      refine wpAnyH_take (i := 7) (v := .slice (some ⟨g, 0, none⟩) im.lks.length cap) rfl (by kernel_rfl) (by kernel_rfl) (by kernel_rfl) (fun c a w h => hKp c a _ _ w h) (Or.inl ⟨by kernel_rfl, fun w hSw => by dsimp only at hSw; obtain g0 := hSw; go_simp⟩) (by assumption) ?_
      simp only [Act.put, List.getElem_toArray, List.getElem_cons_zero, List.getElem_cons_succ, List.setIfInBounds_toArray, List.set_cons_zero, List.set_cons_succ]
      refine wpAnyH_take (i := 8) (v := .int .i64 (nL : Int)) rfl (by kernel_rfl) (by kernel_rfl) (by kernel_rfl) (fun c a w h => hKp c a _ _ w h) (Or.inl ⟨by kernel_rfl, fun w hSw => by dsimp only at hSw; obtain g0 := hSw; go_simp⟩) (by assumption) ?_
      simp only [Act.put, List.getElem_toArray, List.getElem_cons_zero, List.getElem_cons_succ, List.setIfInBounds_toArray, List.set_cons_zero, List.set_cons_succ]
      refine wpAnyH_take (i := 9) (v := .slice (some ⟨g, 0, none⟩) nL cap) rfl (by kernel_rfl) (by kernel_rfl) (by kernel_rfl) (fun c a w h => hKp c a _ _ w h) (Or.inl ⟨by kernel_rfl, fun w hSw => by dsimp only at hSw; obtain g0 := hSw; go_simp⟩) (by assumption) ?_
      simp only [Act.put, List.getElem_toArray, List.getElem_cons_zero, List.getElem_cons_succ, List.setIfInBounds_toArray, List.set_cons_zero, List.set_cons_succ]
      refine wpAnyH_ready (rs := [0]) (by kernel_rfl) (by simp) ?_
      refine AllReadyH.cons rfl (fun Kx hKx => ?_) AllReadyH.nil
      try rw [if_pos (by kernel_rfl)]
      go_simp
      refine hKx.out _ _ (HC.out _ HBA.out) (fun hHeld => ?_)
      clear hKx Kx
      try simp only [Act.put, List.getElem_toArray, List.getElem_cons_zero, List.getElem_cons_succ, List.setIfInBounds_toArray, List.set_cons_zero, List.set_cons_succ]
      refine wpAnyH_ready (rs := [5]) (by kernel_rfl) (by simp) ?_
      refine AllReadyH.cons rfl (fun Kx hKx => ?_) AllReadyH.nil
      refine step_append_anyW _ rfl _ _ 40 rfl wr.heap.size 23 i0 (.agg #[.string ByteArray.empty, .string ByteArray.empty, .string ByteArray.empty, .string ByteArray.empty, .string ByteArray.empty, .string ByteArray.empty]) 6 96 Tryz.underlying40 hi hz0 hz1 hz2 rfl (by decide) _ 0 [] rfl HN1.out _ _ _ (((im.lks.map lkC).flatMap id).drop (nL * 6)) rfl (HL1.out.trans (by omega)) (fun h => by cases h) (fun ad ha j u hu => by cases ha; exact own_newsZ HOA.out j u hu) (fun u hu => lkC_oneZ _ u (List.mem_of_mem_drop hu)) (by unfold maxLen; omega) (by omega) (by simp) ?_
      intro v6 w6 hown6 hgrow6
      have hb6 := HBA.out.grown hgrow6 (by simp) (fun r e => by cases e; exact Nat.le_refl _)
      have HO6 := own_belowW (HOW.out) hb6
      refine hKx.out _ _ (HC.out _ hb6) (fun hHeld => ?_)
      clear hKx Kx
      try simp only [Act.put, List.getElem_toArray, List.getElem_cons_zero, List.getElem_cons_succ, List.setIfInBounds_toArray, List.set_cons_zero, List.set_cons_succ]
      refine wpAnyH_ready (rs := [10]) (by kernel_rfl) (by simp) ?_
      refine AllReadyH.cons rfl (fun Kx hKx => ?_) AllReadyH.nil
      refine step_append_anyW _ rfl _ _ 40 rfl wr.heap.size 23 i0 (.agg #[.string ByteArray.empty, .string ByteArray.empty, .string ByteArray.empty, .string ByteArray.empty, .string ByteArray.empty, .string ByteArray.empty]) 6 96 Tryz.underlying40 hi hz0 hz1 hz2 rfl (by decide) _ _ _ rfl hown6 _ _ _ (((im.lks.map lkC).flatMap id).take (nL * 6)) rfl (HL2.out.trans (by omega)) (fun h => by cases h) (fun ad ha j u hu => by cases ha; exact own_newsT HO6 j u hu) (fun u hu => lkC_oneZ _ u (List.mem_of_mem_take hu)) (by unfold maxLen; omega) (by omega) hb6.size ?_
      intro v8 w8 hown8 hgrow8
      have hb8 := hb6.grown hgrow8 hb6.size (fun r e => (hown6.lt r e).1)
      refine hKx.out _ _ (HC.out _ hb8) (fun hHeld => ?_)
      clear hKx Kx
      try simp only [Act.put, List.getElem_toArray, List.getElem_cons_zero, List.getElem_cons_succ, List.setIfInBounds_toArray, List.set_cons_zero, List.set_cons_succ]
      have hx8 := (HTU.out.below hb8).x
      obtain ⟨q0, q1, q2, q3, q4, q5⟩ := cells6 hx8
      have f7 := frozenY hx8 1
      have hT8 := HTU.out.turnL hb8 (l := rotZ nL im.lks) (by rw [rot_cellsZ nL im.lks (lkC_all _)]; rw [List.nil_append] at hown8; exact hown8) (by rw [(rotZ_perm nL im.lks).length_eq]; omega) (fun y hy => HTU.out.o.s.lks y ((rotZ_perm nL im.lks).mem_iff.1 hy))
      have hC8 := HC.out _ hb8
      obtain ⟨va8, vn8, vc8, rfl⟩ := own_sliceZ hown8
      refine wpAnyH_take (i := 11) (v := .pointer (some ⟨nX, 1, none⟩)) rfl (by kernel_rfl) (by kernel_rfl) (by kernel_rfl) (fun c a w h => hKp c a _ _ w h) (Or.inl ⟨by kernel_rfl, fun w hSw => by dsimp only at hSw; obtain g0 := hSw; go_simp⟩) (by assumption) ?_
      simp only [Act.put, List.getElem_toArray, List.getElem_cons_zero, List.getElem_cons_succ, List.setIfInBounds_toArray, List.set_cons_zero, List.set_cons_succ]
      have HT8 := Lib.hid hT8
      have HC9 := Lib.hid ((World.cell?_of_block (a := ⟨nI, 1, none⟩) (heap_setCellZ (W := w8) (k := 1) (v := .slice va8 vn8 vc8) HTU.out.ne)).trans hC8)
      clear hT8 hx8 hC8
      refine wpAnyH_ready (rs := [12]) (by kernel_rfl) (by simp) ?_
      refine AllReadyH.cons rfl (fun Kx hKx => ?_) AllReadyH.nil
      try rw [if_pos (by kernel_rfl)]
      go_simp
      refine hKx.out _ _ HC9.out (fun hHeld => ?_)
      clear hKx Kx
      try simp only [Act.put, List.getElem_toArray, List.getElem_cons_zero, List.getElem_cons_succ, List.setIfInBounds_toArray, List.set_cons_zero, List.set_cons_succ]
      refine wpAnyH_done (by kernel_rfl) ?_ _
      exact hfin v6 va8 vn8 vc8 _ HT8.out
      rintro u1 a8 m8 c8 W9 hT9
      go_wp2_with fail
      go_meet
      exact ⟨_, rfl, hT9⟩
    case rest =>
     obtain ⟨v1, rfl, hT⟩ := hcut
     have HP2 := Lib.hid (HP.out.setL nL)
     obtain ⟨xj, hxj⟩ : ∃ z, { xi with lks := rotZ nL im.lks } = z := ⟨_, rfl⟩
     rw [hxj] at hT HP2
     clear hxj HP HTU
     obtain ⟨HP, rfl⟩ : ∃ h, h = HP2 := ⟨_, rfl⟩
     obtain ⟨xi, rfl⟩ : ∃ z, z = xj := ⟨_, rfl⟩
     obtain ⟨wr, rfl⟩ : ∃ x, x = wc := ⟨_, rfl⟩
     have HTU := Lib.hid hT
     clear hT
     obtain ⟨z0, z1, z2, z3, z4, z5⟩ := cells6 HTU.out.i
     obtain ⟨saM, snM, scM, hvM⟩ := own_sliceZ HTU.out.o.m
     rw [hvM] at z3
     obtain ⟨hsM, -⟩ := own_lenZ (hvM ▸ HTU.out.o.m)
     rw [hsM] at z3
     have HVM := Lib.hid (And.intro hvM hsM)
     clear hvM hsM
     have RR := Lib.hid (fun w5 => RSM.out w5 (by omega))
     go_upto_region 14 with (go_at_call 16; (with_reducible refine (RR.out _).mono ?_); rintro e w' ⟨rfl, rfl⟩)
     clear z0 z1 z2 z3 z4 z5
     go_upto_region 14 with fail
     go_cut [9] from 69 to 80 (fun u wx => ∃ v', u = .pointer (some ⟨nX, 0, none⟩) ∧ TuI w wx nI nX b im { xi with mbs := rotZ nM im.mbs } va vl vr vm v0 v1 v')
     case first =>
      obtain ⟨i0, hi, hz0, hz1, hz2⟩ := info_parts mbInfo
      have HN1 := Lib.hid (own_emptyZ wr.drew 35 2)
      have HBA := Lib.hid (show Below wr.heap.size wr (wr.drew.alloc (.cells #[] 35)) from (Below.drew (Below.refl wr.heap.size wr)).alloc (Nat.le_refl _) _)
      have HL1 := Lib.hid (show (((im.mbs.map mbC).flatMap id).drop (nM * 2)).length = (im.mbs.length - nM) * 2 by rw [List.length_drop, HTU.out.o.m.1]; omega)
      have HL2 := Lib.hid (show (((im.mbs.map mbC).flatMap id).take (nM * 2)).length = nM * 2 by rw [List.length_take, HTU.out.o.m.1]; omega)
      have HOW := Lib.hid HTU.out.o.m
      have HOA := Lib.hid (own_belowW HTU.out.o.m HBA.out)
      have hsI := lt_of_block HTU.out.i
      rcases slice_casesZ HTU.out.o.m with ⟨hv, hz⟩ | ⟨g, hv, hz⟩ | ⟨g, cap, hv, hle, hpos, hmax⟩
      ·have HZ0 := Lib.hid (show (nM : Int) = 0 by omega)
       skip
       subst hv
       have HX0 := Lib.hid (show ((im.mbs.map mbC).flatMap id) = [] from List.eq_nil_of_length_eq_zero (HTU.out.o.m.1.trans (by rw [hz, Nat.zero_mul])))
       have hy1 : nM ≤ 0 := by omega
       have hy2 : im.mbs.length ≤ 0 := by omega
       clear hz
       have HC := Lib.hid (fun w' (h : Below wr.heap.size wr w') => show w'.cell? ⟨nI, 3, none⟩ = some (.slice none 0 0) from (cells6 (HTU.out.below h).i).2.2.2.1)
       refine wp_region_held_drew (S := fun w' => w'.cell? ⟨nI, 3, none⟩ = some (.slice none 0 0)) (by kernel_rfl) (HC.out _ (Below.drew (Below.refl _ _))) (fun hHeld => ?_)
       apply held_shellV (R := fun (_ : Value) (a8 : Option Addr) (m8 c8 : Nat) (w' : World) => TuI w w' nI nX b im { xi with mbs := rotZ nM im.mbs } va vl vr (.slice none 0 0) v0 v1 (.slice a8 m8 c8))
       exact fun _ _ d _ _ h => by cases d <;> exact h
       rotate_left 1
       intro KK hKp hfin
       refine wpAnyH_take (i := 1) (v := .pointer (some ⟨nI, 3, none⟩)) rfl (by kernel_rfl) (by kernel_rfl) (by kernel_rfl) (fun c a w h => hKp c a _ _ w h) (Or.inl ⟨by kernel_rfl, fun w hSw => by dsimp only at hSw; obtain g0 := hSw; go_simp⟩) (by assumption) ?_
       simp only [Act.put, List.getElem_toArray, List.getElem_cons_zero, List.getElem_cons_succ, List.setIfInBounds_toArray, List.set_cons_zero, List.set_cons_succ]
       refine wpAnyH_take (i := 2) (v := .slice none 0 0) rfl (by kernel_rfl) (by kernel_rfl) (by kernel_rfl) (fun c a w h => hKp c a _ _ w h) (Or.inl ⟨by kernel_rfl, fun w hSw => by dsimp only at hSw; obtain g0 := hSw; go_simp⟩) (by assumption) ?_
       simp only [Act.put, List.getElem_toArray, List.getElem_cons_zero, List.getElem_cons_succ, List.setIfInBounds_toArray, List.set_cons_zero, List.set_cons_succ]
       refine wpAnyH_take (i := 3) (v := .int .i64 (nM : Int)) rfl (by kernel_rfl) (by kernel_rfl) (by kernel_rfl) (fun c a w h => hKp c a _ _ w h) (Or.inl ⟨by kernel_rfl, fun w hSw => by dsimp only at hSw; obtain g0 := hSw; go_simp⟩) (by assumption) ?_
       simp only [Act.put, List.getElem_toArray, List.getElem_cons_zero, List.getElem_cons_succ, List.setIfInBounds_toArray, List.set_cons_zero, List.set_cons_succ]
       refine wpAnyH_take (i := 4) (v := .slice none 0 0) rfl (by kernel_rfl) (by kernel_rfl) (by kernel_rfl) (fun c a w h => hKp c a _ _ w h) (Or.inl ⟨by kernel_rfl, fun w hSw => by dsimp only at hSw; obtain g0 := hSw; have hz0 := HZ0.out; go_simp⟩) (by assumption) ?_
       simp only [Act.put, List.getElem_toArray, List.getElem_cons_zero, List.getElem_cons_succ, List.setIfInBounds_toArray, List.set_cons_zero, List.set_cons_succ]
       refine wpAnyH_take (i := 6) (v := .pointer (some ⟨nI, 3, none⟩)) rfl (by kernel_rfl) (by kernel_rfl) (by kernel_rfl) (fun c a w h => hKp c a _ _ w h) (Or.inl ⟨by kernel_rfl, fun w hSw => by dsimp only at hSw; obtain g0 := hSw; go_simp⟩) (by assumption) ?_
       simp only [Act.put, List.getElem_toArray, List.getElem_cons_zero, List.getElem_cons_succ, List.setIfInBounds_toArray, List.set_cons_zero, List.set_cons_succ]
       refine wpAnyH_take (i := 7) (v := .slice none 0 0) rfl (by kernel_rfl) (by kernel_rfl) (by kernel_rfl) (fun c a w h => hKp c a _ _ w h) (Or.inl ⟨by kernel_rfl, fun w hSw => by dsimp only at hSw; obtain g0 := hSw; go_simp⟩) (by assumption) ?_
       simp only [Act.put, List.getElem_toArray, List.getElem_cons_zero, List.getElem_cons_succ, List.setIfInBounds_toArray, List.set_cons_zero, List.set_cons_succ]
       refine wpAnyH_take (i := 8) (v := .int .i64 (nM : Int)) rfl (by kernel_rfl) (by kernel_rfl) (by kernel_rfl) (fun c a w h => hKp c a _ _ w h) (Or.inl ⟨by kernel_rfl, fun w hSw => by dsimp only at hSw; obtain g0 := hSw; go_simp⟩) (by assumption) ?_
       simp only [Act.put, List.getElem_toArray, List.getElem_cons_zero, List.getElem_cons_succ, List.setIfInBounds_toArray, List.set_cons_zero, List.set_cons_succ]
       refine wpAnyH_take (i := 9) (v := .slice none 0 0) rfl (by kernel_rfl) (by kernel_rfl) (by kernel_rfl) (fun c a w h => hKp c a _ _ w h) (Or.inl ⟨by kernel_rfl, fun w hSw => by dsimp only at hSw; obtain g0 := hSw; have hz0 := HZ0.out; go_simp⟩) (by assumption) ?_
       simp only [Act.put, List.getElem_toArray, List.getElem_cons_zero, List.getElem_cons_succ, List.setIfInBounds_toArray, List.set_cons_zero, List.set_cons_succ]
       refine wpAnyH_ready (rs := [0]) (by kernel_rfl) (by simp) ?_
       refine AllReadyH.cons rfl (fun Kx hKx => ?_) AllReadyH.nil
       try rw [if_pos (by kernel_rfl)]
       go_simp
       refine hKx.out _ _ (HC.out _ HBA.out) (fun hHeld => ?_)
       clear hKx Kx
       try simp only [Act.put, List.getElem_toArray, List.getElem_cons_zero, List.getElem_cons_succ, List.setIfInBounds_toArray, List.set_cons_zero, List.set_cons_succ]
       refine wpAnyH_ready (rs := [5]) (by kernel_rfl) (by simp) ?_
       refine AllReadyH.cons rfl (fun Kx hKx => ?_) AllReadyH.nil
       refine step_append_anyW _ rfl _ _ 42 rfl wr.heap.size 35 i0 (.agg #[.string ByteArray.empty, .string ByteArray.empty]) 2 32 Tryz.underlying42 hi hz0 hz1 hz2 rfl (by decide) _ 0 [] rfl HN1.out _ _ _ (((im.mbs.map mbC).flatMap id).drop (nM * 2)) rfl (HL1.out.trans (by omega)) (fun h => by first | rfl | cases h) (fun ad ha j u hu => by cases ha) (fun u hu => mbC_oneZ _ u (List.mem_of_mem_drop hu)) (by unfold maxLen; omega) (by omega) (by simp) ?_
       intro v6 w6 hown6 hgrow6
       have hb6 := HBA.out.grown hgrow6 (by simp) (fun r e => by cases e; exact Nat.le_refl _)
       refine hKx.out _ _ (HC.out _ hb6) (fun hHeld => ?_)
       clear hKx Kx
       try simp only [Act.put, List.getElem_toArray, List.getElem_cons_zero, List.getElem_cons_succ, List.setIfInBounds_toArray, List.set_cons_zero, List.set_cons_succ]
       refine wpAnyH_ready (rs := [10]) (by kernel_rfl) (by simp) ?_
       refine AllReadyH.cons rfl (fun Kx hKx => ?_) AllReadyH.nil
       refine step_append_anyW _ rfl _ _ 42 rfl wr.heap.size 35 i0 (.agg #[.string ByteArray.empty, .string ByteArray.empty]) 2 32 Tryz.underlying42 hi hz0 hz1 hz2 rfl (by decide) _ _ _ rfl hown6 _ _ _ (((im.mbs.map mbC).flatMap id).take (nM * 2)) rfl (HL2.out.trans (by omega)) (fun h => by first | rfl | cases h) (fun ad ha j u hu => by cases ha) (fun u hu => mbC_oneZ _ u (List.mem_of_mem_take hu)) (by unfold maxLen; omega) (by omega) hb6.size ?_
       intro v8 w8 hown8 hgrow8
       have hb8 := hb6.grown hgrow8 hb6.size (fun r e => (hown6.lt r e).1)
       refine hKx.out _ _ (HC.out _ hb8) (fun hHeld => ?_)
       clear hKx Kx
       try simp only [Act.put, List.getElem_toArray, List.getElem_cons_zero, List.getElem_cons_succ, List.setIfInBounds_toArray, List.set_cons_zero, List.set_cons_succ]
       have hx8 := (HTU.out.below hb8).x
       obtain ⟨q0, q1, q2, q3, q4, q5⟩ := cells6 hx8
       have f7 := frozenY hx8 3
       have hT8 := HTU.out.turnM hb8 (l := rotZ nM im.mbs) (by rw [rot_cellsZ nM im.mbs (mbC_all _)]; rw [List.nil_append] at hown8; exact hown8) (by rw [(rotZ_perm nM im.mbs).length_eq]; omega) (fun y hy => HTU.out.o.s.mbs y ((rotZ_perm nM im.mbs).mem_iff.1 hy))
       have hC8 := HC.out _ hb8
       obtain ⟨va8, vn8, vc8, rfl⟩ := own_sliceZ hown8
       refine wpAnyH_take (i := 11) (v := .pointer (some ⟨nX, 3, none⟩)) rfl (by kernel_rfl) (by kernel_rfl) (by kernel_rfl) (fun c a w h => hKp c a _ _ w h) (Or.inl ⟨by kernel_rfl, fun w hSw => by dsimp only at hSw; obtain g0 := hSw; go_simp⟩) (by assumption) ?_
       simp only [Act.put, List.getElem_toArray, List.getElem_cons_zero, List.getElem_cons_succ, List.setIfInBounds_toArray, List.set_cons_zero, List.set_cons_succ]
       have HT8 := Lib.hid hT8
       have HC9 := Lib.hid ((World.cell?_of_block (a := ⟨nI, 3, none⟩) (heap_setCellZ (W := w8) (k := 3) (v := .slice va8 vn8 vc8) HTU.out.ne)).trans hC8)
       clear hT8 hx8 hC8
       refine wpAnyH_ready (rs := [12]) (by kernel_rfl) (by simp) ?_
       refine AllReadyH.cons rfl (fun Kx hKx => ?_) AllReadyH.nil
       try rw [if_pos (by kernel_rfl)]
       go_simp
       refine hKx.out _ _ HC9.out (fun hHeld => ?_)
       clear hKx Kx
       try simp only [Act.put, List.getElem_toArray, List.getElem_cons_zero, List.getElem_cons_succ, List.setIfInBounds_toArray, List.set_cons_zero, List.set_cons_succ]
       refine wpAnyH_done (by kernel_rfl) ?_ _
       exact hfin v6 va8 vn8 vc8 _ HT8.out
       rintro u1 a8 m8 c8 W9 hT9
       go_wp2_with fail
       go_meet
       exact ⟨_, rfl, hT9⟩
      ·have HZ0 := Lib.hid (show (nM : Int) = 0 by omega)
       rw [hz] at hv
       subst hv
       have HX0 := Lib.hid (show ((im.mbs.map mbC).flatMap id) = [] from List.eq_nil_of_length_eq_zero (HTU.out.o.m.1.trans (by rw [hz, Nat.zero_mul])))
       have hy1 : nM ≤ 0 := by omega
       have hy2 : im.mbs.length ≤ 0 := by omega
       clear hz
       have HC := Lib.hid (fun w' (h : Below wr.heap.size wr w') => show w'.cell? ⟨nI, 3, none⟩ = some (.slice (some ⟨g, 0, none⟩) 0 0) from (cells6 (HTU.out.below h).i).2.2.2.1)
       refine wp_region_held_drew (S := fun w' => w'.cell? ⟨nI, 3, none⟩ = some (.slice (some ⟨g, 0, none⟩) 0 0)) (by kernel_rfl) (HC.out _ (Below.drew (Below.refl _ _))) (fun hHeld => ?_)
       apply held_shellV (R := fun (_ : Value) (a8 : Option Addr) (m8 c8 : Nat) (w' : World) => TuI w w' nI nX b im { xi with mbs := rotZ nM im.mbs } va vl vr (.slice (some ⟨g, 0, none⟩) 0 0) v0 v1 (.slice a8 m8 c8))
       exact fun _ _ d _ _ h => by cases d <;> exact h
       rotate_left 1
       intro KK hKp hfin
       refine wpAnyH_take (i := 1) (v := .pointer (some ⟨nI, 3, none⟩)) rfl (by kernel_rfl) (by kernel_rfl) (by kernel_rfl) (fun c a w h => hKp c a _ _ w h) (Or.inl ⟨by kernel_rfl, fun w hSw => by dsimp only at hSw; obtain g0 := hSw; go_simp⟩) (by assumption) ?_
       simp only [Act.put, List.getElem_toArray, List.getElem_cons_zero, List.getElem_cons_succ, List.setIfInBounds_toArray, List.set_cons_zero, List.set_cons_succ]
       refine wpAnyH_take (i := 2) (v := .slice (some ⟨g, 0, none⟩) 0 0) rfl (by kernel_rfl) (by kernel_rfl) (by kernel_rfl) (fun c a w h => hKp c a _ _ w h) (Or.inl ⟨by kernel_rfl, fun w hSw => by dsimp only at hSw; obtain g0 := hSw; go_simp⟩) (by assumption) ?_
       simp only [Act.put, List.getElem_toArray, List.getElem_cons_zero, List.getElem_cons_succ, List.setIfInBounds_toArray, List.set_cons_zero, List.set_cons_succ]
       refine wpAnyH_take (i := 3) (v := .int .i64 (nM : Int)) rfl (by kernel_rfl) (by kernel_rfl) (by kernel_rfl) (fun c a w h => hKp c a _ _ w h) (Or.inl ⟨by kernel_rfl, fun w hSw => by dsimp only at hSw; obtain g0 := hSw; go_simp⟩) (by assumption) ?_
       simp only [Act.put, List.getElem_toArray, List.getElem_cons_zero, List.getElem_cons_succ, List.setIfInBounds_toArray, List.set_cons_zero, List.set_cons_succ]
       refine wpAnyH_take (i := 4) (v := .slice (some ⟨g, 0, none⟩) 0 0) rfl (by kernel_rfl) (by kernel_rfl) (by kernel_rfl) (fun c a w h => hKp c a _ _ w h) (Or.inl ⟨by kernel_rfl, fun w hSw => by dsimp only at hSw; obtain g0 := hSw; have hz0 := HZ0.out; go_simp⟩) (by assumption) ?_
       simp only [Act.put, List.getElem_toArray, List.getElem_cons_zero, List.getElem_cons_succ, List.setIfInBounds_toArray, List.set_cons_zero, List.set_cons_succ]
       refine wpAnyH_take (i := 6) (v := .pointer (some ⟨nI, 3, none⟩)) rfl (by kernel_rfl) (by kernel_rfl) (by kernel_rfl) (fun c a w h => hKp c a _ _ w h) (Or.inl ⟨by kernel_rfl, fun w hSw => by dsimp only at hSw; obtain g0 := hSw; go_simp⟩) (by assumption) ?_
       simp only [Act.put, List.getElem_toArray, List.getElem_cons_zero, List.getElem_cons_succ, List.setIfInBounds_toArray, List.set_cons_zero, List.set_cons_succ]
       refine wpAnyH_take (i := 7) (v := .slice (some ⟨g, 0, none⟩) 0 0) rfl (by kernel_rfl) (by kernel_rfl) (by kernel_rfl) (fun c a w h => hKp c a _ _ w h) (Or.inl ⟨by kernel_rfl, fun w hSw => by dsimp only at hSw; obtain g0 := hSw; go_simp⟩) (by assumption) ?_
       simp only [Act.put, List.getElem_toArray, List.getElem_cons_zero, List.getElem_cons_succ, List.setIfInBounds_toArray, List.set_cons_zero, List.set_cons_succ]
       refine wpAnyH_take (i := 8) (v := .int .i64 (nM : Int)) rfl (by kernel_rfl) (by kernel_rfl) (by kernel_rfl) (fun c a w h => hKp c a _ _ w h) (Or.inl ⟨by kernel_rfl, fun w hSw => by dsimp only at hSw; obtain g0 := hSw; go_simp⟩) (by assumption) ?_
       simp only [Act.put, List.getElem_toArray, List.getElem_cons_zero, List.getElem_cons_succ, List.setIfInBounds_toArray, List.set_cons_zero, List.set_cons_succ]
       refine wpAnyH_take (i := 9) (v := .slice (some ⟨g, 0, none⟩) 0 0) rfl (by kernel_rfl) (by kernel_rfl) (by kernel_rfl) (fun c a w h => hKp c a _ _ w h) (Or.inl ⟨by kernel_rfl, fun w hSw => by dsimp only at hSw; obtain g0 := hSw; have hz0 := HZ0.out; go_simp⟩) (by assumption) ?_
       simp only [Act.put, List.getElem_toArray, List.getElem_cons_zero, List.getElem_cons_succ, List.setIfInBounds_toArray, List.set_cons_zero, List.set_cons_succ]
       refine wpAnyH_ready (rs := [0]) (by kernel_rfl) (by simp) ?_
       refine AllReadyH.cons rfl (fun Kx hKx => ?_) AllReadyH.nil
       try rw [if_pos (by kernel_rfl)]
       go_simp
       refine hKx.out _ _ (HC.out _ HBA.out) (fun hHeld => ?_)
       clear hKx Kx
       try simp only [Act.put, List.getElem_toArray, List.getElem_cons_zero, List.getElem_cons_succ, List.setIfInBounds_toArray, List.set_cons_zero, List.set_cons_succ]
       refine wpAnyH_ready (rs := [5]) (by kernel_rfl) (by simp) ?_
       refine AllReadyH.cons rfl (fun Kx hKx => ?_) AllReadyH.nil
       refine step_append_anyW _ rfl _ _ 42 rfl wr.heap.size 35 i0 (.agg #[.string ByteArray.empty, .string ByteArray.empty]) 2 32 Tryz.underlying42 hi hz0 hz1 hz2 rfl (by decide) _ 0 [] rfl HN1.out _ _ _ (((im.mbs.map mbC).flatMap id).drop (nM * 2)) rfl (HL1.out.trans (by omega)) (fun h => by cases h) (fun ad ha j u hu => by rw [HX0.out] at hu; simp at hu) (fun u hu => mbC_oneZ _ u (List.mem_of_mem_drop hu)) (by unfold maxLen; omega) (by omega) (by simp) ?_
       intro v6 w6 hown6 hgrow6
       have hb6 := HBA.out.grown hgrow6 (by simp) (fun r e => by cases e; exact Nat.le_refl _)
       refine hKx.out _ _ (HC.out _ hb6) (fun hHeld => ?_)
       clear hKx Kx
       try simp only [Act.put, List.getElem_toArray, List.getElem_cons_zero, List.getElem_cons_succ, List.setIfInBounds_toArray, List.set_cons_zero, List.set_cons_succ]
       refine wpAnyH_ready (rs := [10]) (by kernel_rfl) (by simp) ?_
       refine AllReadyH.cons rfl (fun Kx hKx => ?_) AllReadyH.nil
       refine step_append_anyW _ rfl _ _ 42 rfl wr.heap.size 35 i0 (.agg #[.string ByteArray.empty, .string ByteArray.empty]) 2 32 Tryz.underlying42 hi hz0 hz1 hz2 rfl (by decide) _ _ _ rfl hown6 _ _ _ (((im.mbs.map mbC).flatMap id).take (nM * 2)) rfl (HL2.out.trans (by omega)) (fun h => by cases h) (fun ad ha j u hu => by rw [HX0.out] at hu; simp at hu) (fun u hu => mbC_oneZ _ u (List.mem_of_mem_take hu)) (by unfold maxLen; omega) (by omega) hb6.size ?_
       intro v8 w8 hown8 hgrow8
       have hb8 := hb6.grown hgrow8 hb6.size (fun r e => (hown6.lt r e).1)
       refine hKx.out _ _ (HC.out _ hb8) (fun hHeld => ?_)
       clear hKx Kx
       try simp only [Act.put, List.getElem_toArray, List.getElem_cons_zero, List.getElem_cons_succ, List.setIfInBounds_toArray, List.set_cons_zero, List.set_cons_succ]
       have hx8 := (HTU.out.below hb8).x
       obtain ⟨q0, q1, q2, q3, q4, q5⟩ := cells6 hx8
       have f7 := frozenY hx8 3
       have hT8 := HTU.out.turnM hb8 (l := rotZ nM im.mbs) (by rw [rot_cellsZ nM im.mbs (mbC_all _)]; rw [List.nil_append] at hown8; exact hown8) (by rw [(rotZ_perm nM im.mbs).length_eq]; omega) (fun y hy => HTU.out.o.s.mbs y ((rotZ_perm nM im.mbs).mem_iff.1 hy))
       have hC8 := HC.out _ hb8
       obtain ⟨va8, vn8, vc8, rfl⟩ := own_sliceZ hown8
       refine wpAnyH_take (i := 11) (v := .pointer (some ⟨nX, 3, none⟩)) rfl (by kernel_rfl) (by kernel_rfl) (by kernel_rfl) (fun c a w h => hKp c a _ _ w h) (Or.inl ⟨by kernel_rfl, fun w hSw => by dsimp only at hSw; obtain g0 := hSw; go_simp⟩) (by assumption) ?_
       simp only [Act.put, List.getElem_toArray, List.getElem_cons_zero, List.getElem_cons_succ, List.setIfInBounds_toArray, List.set_cons_zero, List.set_cons_succ]
       have HT8 := Lib.hid hT8
       have HC9 := Lib.hid ((World.cell?_of_block (a := ⟨nI, 3, none⟩) (heap_setCellZ (W := w8) (k := 3) (v := .slice va8 vn8 vc8) HTU.out.ne)).trans hC8)
       clear hT8 hx8 hC8
       refine wpAnyH_ready (rs := [12]) (by kernel_rfl) (by simp) ?_
       refine AllReadyH.cons rfl (fun Kx hKx => ?_) AllReadyH.nil
       try rw [if_pos (by kernel_rfl)]
       go_simp
       refine hKx.out _ _ HC9.out (fun hHeld => ?_)
       clear hKx Kx
       try simp only [Act.put, List.getElem_toArray, List.getElem_cons_zero, List.getElem_cons_succ, List.setIfInBounds_toArray, List.set_cons_zero, List.set_cons_succ]
       refine wpAnyH_done (by kernel_rfl) ?_ _
       exact hfin v6 va8 vn8 vc8 _ HT8.out
       rintro u1 a8 m8 c8 W9 hT9
       go_wp2_with fail
       go_meet
       exact ⟨_, rfl, hT9⟩
      ·subst hv
       have hn1 : (0 : Int) ≤ (nM : Int) := by omega
       have hn2 : (nM : Int) ≤ (im.mbs.length : Int) := by omega
       have hn3 : (nM : Int) ≤ (cap : Int) := by omega
       have hn4 : ¬ cap = nM := by omega
       have hn5 : (im.mbs.length : Int) ≤ (cap : Int) := by omega
       unfold maxLen at hmax
       have HC := Lib.hid (fun w' (h : Below wr.heap.size wr w') => show w'.cell? ⟨nI, 3, none⟩ = some (.slice (some ⟨g, 0, none⟩) im.mbs.length cap) from (cells6 (HTU.out.below h).i).2.2.2.1)
       refine wp_region_held_drew (S := fun w' => w'.cell? ⟨nI, 3, none⟩ = some (.slice (some ⟨g, 0, none⟩) im.mbs.length cap)) (by kernel_rfl) (HC.out _ (Below.drew (Below.refl _ _))) (fun hHeld => ?_)
       apply held_shellV (R := fun (_ : Value) (a8 : Option Addr) (m8 c8 : Nat) (w' : World) => TuI w w' nI nX b im { xi with mbs := rotZ nM im.mbs } va vl vr (.slice (some ⟨g, 0, none⟩) im.mbs.length cap) v0 v1 (.slice a8 m8 c8))
       exact fun _ _ d _ _ h => by cases d <;> exact h
       rotate_left 1
       intro KK hKp hfin
       refine wpAnyH_take (i := 1) (v := .pointer (some ⟨nI, 3, none⟩)) rfl (by kernel_rfl) (by kernel_rfl) (by kernel_rfl) (fun c a w h => hKp c a _ _ w h) (Or.inl ⟨by kernel_rfl, fun w hSw => by dsimp only at hSw; obtain g0 := hSw; go_simp⟩) (by assumption) ?_
       simp only [Act.put, List.getElem_toArray, List.getElem_cons_zero, List.getElem_cons_succ, List.setIfInBounds_toArray, List.set_cons_zero, List.set_cons_succ]
       refine wpAnyH_take (i := 2) (v := .slice (some ⟨g, 0, none⟩) im.mbs.length cap) rfl (by kernel_rfl) (by kernel_rfl) (by kernel_rfl) (fun c a w h => hKp c a _ _ w h) (Or.inl ⟨by kernel_rfl, fun w hSw => by dsimp only at hSw; obtain g0 := hSw; go_simp⟩) (by assumption) ?_
       simp only [Act.put, List.getElem_toArray, List.getElem_cons_zero, List.getElem_cons_succ, List.setIfInBounds_toArray, List.set_cons_zero, List.set_cons_succ]
       refine wpAnyH_take (i := 3) (v := .int .i64 (nM : Int)) rfl (by kernel_rfl) (by kernel_rfl) (by kernel_rfl) (fun c a w h => hKp c a _ _ w h) (Or.inl ⟨by kernel_rfl, fun w hSw => by dsimp only at hSw; obtain g0 := hSw; go_simp⟩) (by assumption) ?_
       simp only [Act.put, List.getElem_toArray, List.getElem_cons_zero, List.getElem_cons_succ, List.setIfInBounds_toArray, List.set_cons_zero, List.set_cons_succ]
       refine wpAnyH_take (i := 4) (v := .slice (some ⟨g, nM * 2, none⟩) (im.mbs.length - nM) (cap - nM)) rfl (by kernel_rfl) (by kernel_rfl) (by kernel_rfl) (fun c a w h => hKp c a _ _ w h) (Or.inl ⟨by kernel_rfl, fun w hSw => by dsimp only at hSw; obtain g0 := hSw; go_simp⟩) (by assumption) ?_
       simp only [Act.put, List.getElem_toArray, List.getElem_cons_zero, List.getElem_cons_succ, List.setIfInBounds_toArray, List.set_cons_zero, List.set_cons_succ]
       refine wpAnyH_take (i := 6) (v := .pointer (some ⟨nI, 3, none⟩)) rfl (by kernel_rfl) (by kernel_rfl) (by kernel_rfl) (fun c a w h => hKp c a _ _ w h) (Or.inl ⟨by kernel_rfl, fun w hSw => by dsimp only at hSw; obtain g0 := hSw; go_simp⟩) (by assumption) ?_
       simp only [Act.put, List.getElem_toArray, List.getElem_cons_zero, List.getElem_cons_succ, List.setIfInBounds_toArray, List.set_cons_zero, List.set_cons_succ]
       refine wpAnyH_take (i := 7) (v := .slice (some ⟨g, 0, none⟩) im.mbs.length cap) rfl (by kernel_rfl) (by kernel_rfl) (by kernel_rfl) (fun c a w h => hKp c a _ _ w h) (Or.inl ⟨by kernel_rfl, fun w hSw => by dsimp only at hSw; obtain g0 := hSw; go_simp⟩) (by assumption) ?_
       simp only [Act.put, List.getElem_toArray, List.getElem_cons_zero, List.getElem_cons_succ, List.setIfInBounds_toArray, List.set_cons_zero, List.set_cons_succ]
       refine wpAnyH_take (i := 8) (v := .int .i64 (nM : Int)) rfl (by kernel_rfl) (by kernel_rfl) (by kernel_rfl) (fun c a w h => hKp c a _ _ w h) (Or.inl ⟨by kernel_rfl, fun w hSw => by dsimp only at hSw; obtain g0 := hSw; go_simp⟩) (by assumption) ?_
       simp only [Act.put, List.getElem_toArray, List.getElem_cons_zero, List.getElem_cons_succ, List.setIfInBounds_toArray, List.set_cons_zero, List.set_cons_succ]
       refine wpAnyH_take (i := 9) (v := .slice (some ⟨g, 0, none⟩) nM cap) rfl (by kernel_rfl) (by kernel_rfl) (by kernel_rfl) (fun c a w h => hKp c a _ _ w h) (Or.inl ⟨by kernel_rfl, fun w hSw => by dsimp only at hSw; obtain g0 := hSw; go_simp⟩) (by assumption) ?_
       simp only [Act.put, List.getElem_toArray, List.getElem_cons_zero, List.getElem_cons_succ, List.setIfInBounds_toArray, List.set_cons_zero, List.set_cons_succ]
       refine wpAnyH_ready (rs := [0]) (by kernel_rfl) (by simp) ?_
       refine AllReadyH.cons rfl (fun Kx hKx => ?_) AllReadyH.nil
       try rw [if_pos (by kernel_rfl)]
       go_simp
       refine hKx.out _ _ (HC.out _ HBA.out) (fun hHeld => ?_)
       clear hKx Kx
       try simp only [Act.put, List.getElem_toArray, List.getElem_cons_zero, List.getElem_cons_succ, List.setIfInBounds_toArray, List.set_cons_zero, List.set_cons_succ]
       refine wpAnyH_ready (rs := [5]) (by kernel_rfl) (by simp) ?_
       refine AllReadyH.cons rfl (fun Kx hKx => ?_) AllReadyH.nil
       refine step_append_anyW _ rfl _ _ 42 rfl wr.heap.size 35 i0 (.agg #[.string ByteArray.empty, .string ByteArray.empty]) 2 32 Tryz.underlying42 hi hz0 hz1 hz2 rfl (by decide) _ 0 [] rfl HN1.out _ _ _ (((im.mbs.map mbC).flatMap id).drop (nM * 2)) rfl (HL1.out.trans (by omega)) (fun h => by cases h) (fun ad ha j u hu => by cases ha; exact own_newsZ HOA.out j u hu) (fun u hu => mbC_oneZ _ u (List.mem_of_mem_drop hu)) (by unfold maxLen; omega) (by omega) (by simp) ?_
       intro v6 w6 hown6 hgrow6
       have hb6 := HBA.out.grown hgrow6 (by simp) (fun r e => by cases e; exact Nat.le_refl _)
       have HO6 := own_belowW (HOW.out) hb6
       refine hKx.out _ _ (HC.out _ hb6) (fun hHeld => ?_)
       clear hKx Kx
       try simp only [Act.put, List.getElem_toArray, List.getElem_cons_zero, List.getElem_cons_succ, List.setIfInBounds_toArray, List.set_cons_zero, List.set_cons_succ]
       refine wpAnyH_ready (rs := [10]) (by kernel_rfl) (by simp) ?_
       refine AllReadyH.cons rfl (fun Kx hKx => ?_) AllReadyH.nil
       refine step_append_anyW _ rfl _ _ 42 rfl wr.heap.size 35 i0 (.agg #[.string ByteArray.empty, .string ByteArray.empty]) 2 32 Tryz.underlying42 hi hz0 hz1 hz2 rfl (by decide) _ _ _ rfl hown6 _ _ _ (((im.mbs.map mbC).flatMap id).take (nM * 2)) rfl (HL2.out.trans (by omega)) (fun h => by cases h) (fun ad ha j u hu => by cases ha; exact own_newsT HO6 j u hu) (fun u hu => mbC_oneZ _ u (List.mem_of_mem_take hu)) (by unfold maxLen; omega) (by omega) hb6.size ?_
       intro v8 w8 hown8 hgrow8
       have hb8 := hb6.grown hgrow8 hb6.size (fun r e => (hown6.lt r e).1)
       refine hKx.out _ _ (HC.out _ hb8) (fun hHeld => ?_)
       clear hKx Kx
       try simp only [Act.put, List.getElem_toArray, List.getElem_cons_zero, List.getElem_cons_succ, List.setIfInBounds_toArray, List.set_cons_zero, List.set_cons_succ]
       have hx8 := (HTU.out.below hb8).x
       obtain ⟨q0, q1, q2, q3, q4, q5⟩ := cells6 hx8
       have f7 := frozenY hx8 3
       have hT8 := HTU.out.turnM hb8 (l := rotZ nM im.mbs) (by rw [rot_cellsZ nM im.mbs (mbC_all _)]; rw [List.nil_append] at hown8; exact hown8) (by rw [(rotZ_perm nM im.mbs).length_eq]; omega) (fun y hy => HTU.out.o.s.mbs y ((rotZ_perm nM im.mbs).mem_iff.1 hy))
       have hC8 := HC.out _ hb8
       obtain ⟨va8, vn8, vc8, rfl⟩ := own_sliceZ hown8
       refine wpAnyH_take (i := 11) (v := .pointer (some ⟨nX, 3, none⟩)) rfl (by kernel_rfl) (by kernel_rfl) (by kernel_rfl) (fun c a w h => hKp c a _ _ w h) (Or.inl ⟨by kernel_rfl, fun w hSw => by dsimp only at hSw; obtain g0 := hSw; go_simp⟩) (by assumption) ?_
       simp only [Act.put, List.getElem_toArray, List.getElem_cons_zero, List.getElem_cons_succ, List.setIfInBounds_toArray, List.set_cons_zero, List.set_cons_succ]
       have HT8 := Lib.hid hT8
       have HC9 := Lib.hid ((World.cell?_of_block (a := ⟨nI, 3, none⟩) (heap_setCellZ (W := w8) (k := 3) (v := .slice va8 vn8 vc8) HTU.out.ne)).trans hC8)
       clear hT8 hx8 hC8
       refine wpAnyH_ready (rs := [12]) (by kernel_rfl) (by simp) ?_
       refine AllReadyH.cons rfl (fun Kx hKx => ?_) AllReadyH.nil
       try rw [if_pos (by kernel_rfl)]
       go_simp
       refine hKx.out _ _ HC9.out (fun hHeld => ?_)
       clear hKx Kx
       try simp only [Act.put, List.getElem_toArray, List.getElem_cons_zero, List.getElem_cons_succ, List.setIfInBounds_toArray, List.set_cons_zero, List.set_cons_succ]
       refine wpAnyH_done (by kernel_rfl) ?_ _
       exact hfin v6 va8 vn8 vc8 _ HT8.out
       rintro u1 a8 m8 c8 W9 hT9
       go_wp2_with fail
       go_meet
       exact ⟨_, rfl, hT9⟩
     case rest =>
      obtain ⟨v3, rfl, hT⟩ := hcut
      have HP2 := Lib.hid (HP.out.setM nM)
      obtain ⟨xj, hxj⟩ : ∃ z, { xi with mbs := rotZ nM im.mbs } = z := ⟨_, rfl⟩
      rw [hxj] at hT HP2
      clear hxj HP HTU
      obtain ⟨HP, rfl⟩ : ∃ h, h = HP2 := ⟨_, rfl⟩
      obtain ⟨xi, rfl⟩ : ∃ z, z = xj := ⟨_, rfl⟩
      obtain ⟨wr, rfl⟩ : ∃ x, x = wc := ⟨_, rfl⟩
      have HTU := Lib.hid hT
      clear hT
      obtain ⟨z0, z1, z2, z3, z4, z5⟩ := cells6 HTU.out.x
      obtain ⟨y1, e1, y2, e2, y3, e3, y4, e4, h1, h2, h3, h4⟩ := HTU.out.z.rows.slices
      subst h1 h2 h3 h4
      have HG9 := Lib.hid (HGL.out _ HTU.out.bel)
      have HE9 := Lib.hid (show Calls Tryz.prog 27 #[.agg #[.slice y1 (cntN xi 0) e1, .slice y2 (cntN xi 1) e2, .slice y3 (cntN xi 2) e3, .slice y4 (cntN xi 3) e4, .int .i64 im.th, .int .i64 im.de]] wr fun e w' => ∃ v, e = .returned (.tuple #[.string (encB im), v]) ∧ ((encE im = none ∧ v = .nilIface) ∨ (encE im ≠ none ∧ ∃ p, v = .iface 131 p)) ∧ Below wr.heap.size wr w' from by
       have h := encode_im y1 y2 y3 y4 e1 e2 e3 e4 xi wr HTU.out.z.rows HTU.out.z.s HG9.out
       rw [HP.out.th, HP.out.de, HP.out.bytes] at h
       refine h.mono fun e w' ⟨v, p, q, r⟩ => ⟨v, p, ?_, r⟩
       cases hx : encE xi with
       | none => rw [hx] at q; exact .inl ⟨HP.out.none hx, q⟩
       | some t => rw [hx] at q; obtain ⟨b, rfl, _⟩ := q; obtain ⟨t', ht'⟩ := HP.out.some hx; exact .inr ⟨(by rw [ht']; exact (fun h => by cases h)), _, rfl⟩)
      have HB9 := Lib.hid (fun w' (h : Below wr.heap.size wr w') => HTU.out.bel.trans (h.mono HTU.out.bel.size))
      clear HTU HP
      go_upto_region 16 with (go_at_call 27; (with_reducible refine HE9.out.mono ?_); rintro e w9 ⟨ev2, rfl, hev2, hb9⟩)
      have HB := Lib.hid (HB9.out _ hb9)
      have hbb : ((encB im).toList == (encB im).toList) = true := beq_self_eq_true _
      clear z0 z1 z2 z3 z4 z5 hb9
      generalize encB im = bb at *
      rcases hev2 with ⟨hn, rfl⟩ | ⟨hn, p2, rfl⟩
      ·rcases HEV.out with ⟨_, rfl⟩ | ⟨h, _⟩
       ·go_quiet (fail)
        go_wp2_with fail
        go_ret
        exact ⟨rfl, below_drewN HB.out _⟩
       ·exact absurd hn h
      ·rcases HEV.out with ⟨h, _⟩ | ⟨_, p1, rfl⟩
       ·exact absurd h hn
       ·go_quiet (fail)
        go_wp2_with fail
        go_ret
        exact ⟨rfl, below_drewN HB.out _⟩
end Go.Proofs.YtknodboncpcjnaaGreatDoor
