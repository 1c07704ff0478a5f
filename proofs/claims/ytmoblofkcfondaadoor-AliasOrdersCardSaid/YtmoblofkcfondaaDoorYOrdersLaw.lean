/-
  AliasOrders: the walk of the law. (Printed by wip/gen_yorders.py.)
-/
import Derived.Test.YtmoblofkcfondaaDoorYKit
import Derived.BigQuiet
import Derived.Deep.CutRange
namespace Go.Proofs.YtmoblofkcfondaaDoor
open Go Go.RowKit

theorem below_drewN {B : Nat} {a w : World} (h : Below B a w) (n : Nat) : Below B a (w.drewN n) := ⟨h.os, h.tape, h.output, h.size, h.block⟩
theorem cmpA_range (x y : Al) : cmpA x y = -1 ∨ cmpA x y = 0 ∨ cmpA x y = 1 := by
  have h1 := cmpL_range (bs x.a) (bs y.a)
  have h2 := cmpL_range (bs x.b) (bs y.b)
  have h0 : sgnI x.k y.k = -1 ∨ sgnI x.k y.k = 0 ∨ sgnI x.k y.k = 1 := by unfold sgnI; split <;> (try split) <;> simp
  unfold cmpA
  split
  · exact h0
  · split
    · exact h1
    · exact h2
/-- What region 7 asks of the keys. -/
theorem keys_stand {x y : Al} (hx : rightA x = true) (hy : rightA y = true) :
    (Op.bytesLess ((rowB x).extract 0 17).toList ((rowB y).extract 0 17).toList = decide (cmpA x y < 0)) ∧ ((((rowB x).extract 0 17).toList == ((rowB y).extract 0 17).toList) = decide (cmpA x y = 0)) := by
  obtain ⟨h1, h2⟩ := stand_keys hx hy
  rw [extract_key, extract_key]
  constructor
  · rw [ByteArray.toList_eq, ByteArray.toList_eq]
    show Op.bytesLess (bs (ofL (keyL x))) (bs (ofL (keyL y))) = _
    rw [bs_ofL, bs_ofL]; exact h1
  · rw [same_bool]
    rw [decide_eq_decide]
    constructor
    · intro e
      exact h2.1 (by have := congrArg bs e; rw [bs_ofL, bs_ofL] at this; exact this)
    · intro e
      rw [h2.2 e]
theorem cells14 {W : World} {B : Nat} {a0 a1 a2 a3 a4 a5 a6 a7 a8 a9 a10 a11 a12 a13 : Value} {t : TypeId} (h : W.heap[B]? = some (.cells #[a0, a1, a2, a3, a4, a5, a6, a7, a8, a9, a10, a11, a12, a13] t (0, 0))) :
    W.cell? ⟨B, 0, none⟩ = some a0 ∧ W.cell? ⟨B, 1, none⟩ = some a1 ∧ W.cell? ⟨B, 2, none⟩ = some a2 ∧ W.cell? ⟨B, 3, none⟩ = some a3 ∧ W.cell? ⟨B, 4, none⟩ = some a4 ∧ W.cell? ⟨B, 5, none⟩ = some a5 ∧ W.cell? ⟨B, 6, none⟩ = some a6 ∧ W.cell? ⟨B, 7, none⟩ = some a7 ∧ W.cell? ⟨B, 8, none⟩ = some a8 ∧ W.cell? ⟨B, 9, none⟩ = some a9 ∧ W.cell? ⟨B, 10, none⟩ = some a10 ∧ W.cell? ⟨B, 11, none⟩ = some a11 ∧ W.cell? ⟨B, 12, none⟩ = some a12 ∧ W.cell? ⟨B, 13, none⟩ = some a13 := by
  simp [World.cell?, h]
theorem cells12 {W : World} {B : Nat} {a0 a1 a2 a3 a4 a5 a6 a7 a8 a9 a10 a11 : Value} {t : TypeId} (h : W.heap[B]? = some (.cells #[a0, a1, a2, a3, a4, a5, a6, a7, a8, a9, a10, a11] t (0, 0))) :
    W.cell? ⟨B, 0, none⟩ = some a0 ∧ W.cell? ⟨B, 1, none⟩ = some a1 ∧ W.cell? ⟨B, 2, none⟩ = some a2 ∧ W.cell? ⟨B, 3, none⟩ = some a3 ∧ W.cell? ⟨B, 4, none⟩ = some a4 ∧ W.cell? ⟨B, 5, none⟩ = some a5 ∧ W.cell? ⟨B, 6, none⟩ = some a6 ∧ W.cell? ⟨B, 7, none⟩ = some a7 ∧ W.cell? ⟨B, 8, none⟩ = some a8 ∧ W.cell? ⟨B, 9, none⟩ = some a9 ∧ W.cell? ⟨B, 10, none⟩ = some a10 ∧ W.cell? ⟨B, 11, none⟩ = some a11 := by
  simp [World.cell?, h]

set_option maxRecDepth 1000000 in
set_option maxHeartbeats 16000000 in
theorem orders_law (S T : Sd) (x y : Al) (w : World) (hx : AlL x) (hy : AlL y) (hg : GL w) :
    Calls Tryd.prog 7 #[.agg #[.int .i64 S.kind, .int .i64 S.a, .int .i64 S.b, .int .i64 S.l, .int .i64 S.s, .int .i64 S.r, .int .i64 S.odd, .int .i64 T.kind, .int .i64 T.a, .int .i64 T.b, .int .i64 T.l, .int .i64 T.s, .int .i64 T.r, .int .i64 T.odd], .agg #[.int .i64 x.k, .string x.a, .string x.b, .string x.l, .string x.s, .string x.r, .int .i64 y.k, .string y.a, .string y.b, .string y.l, .string y.s, .string y.r]] w fun e w' => e = .returned (.bool true) ∧ Below w.heap.size w w' := by
  have hgs := hg.size
  obtain ⟨W1, hW1⟩ : ∃ W1, (w.alloc (.cells #[.int .i64 S.kind, .int .i64 S.a, .int .i64 S.b, .int .i64 S.l, .int .i64 S.s, .int .i64 S.r, .int .i64 S.odd, .int .i64 T.kind, .int .i64 T.a, .int .i64 T.b, .int .i64 T.l, .int .i64 T.s, .int .i64 T.r, .int .i64 T.odd] 47)).alloc (.cells #[.int .i64 x.k, .string x.a, .string x.b, .string x.l, .string x.s, .string x.r, .int .i64 y.k, .string y.a, .string y.b, .string y.l, .string y.s, .string y.r] 48) = W1 := ⟨_, rfl⟩
  have hb1 : Below w.heap.size w W1 := by rw [← hW1]; exact ((Below.refl _ w).alloc (Nat.le_refl _) _).alloc (by simp) _
  have hA : W1.heap[w.heap.size]? = some (.cells #[.int .i64 S.kind, .int .i64 S.a, .int .i64 S.b, .int .i64 S.l, .int .i64 S.s, .int .i64 S.r, .int .i64 S.odd, .int .i64 T.kind, .int .i64 T.a, .int .i64 T.b, .int .i64 T.l, .int .i64 T.s, .int .i64 T.r, .int .i64 T.odd] 47 (0, 0)) := by rw [← hW1]; exact (Below.heap_alloc _ _ _ (by simp)).trans (World.alloc_heap_new w _)
  have hB : W1.heap[w.heap.size + 1]? = some (.cells #[.int .i64 x.k, .string x.a, .string x.b, .string x.l, .string x.s, .string x.r, .int .i64 y.k, .string y.a, .string y.b, .string y.l, .string y.s, .string y.r] 48 (0, 0)) := by rw [← hW1]; exact heap_alloc2_new w _ _
  have H14 := Lib.hid (fun w' (hb : Below W1.heap.size W1 w') => cells14 ((hb.block _ (lt_of_block hA)).trans hA))
  have H12 := Lib.hid (fun w' (hb : Below W1.heap.size W1 w') => cells12 ((hb.block _ (lt_of_block hB)).trans hB))
  have HGL := Lib.hid (fun w' (hb : Below W1.heap.size W1 w') => hg.below (hb1.trans (hb.mono hb1.size)) hgs)
  have HB1 := Lib.hid hb1
  have HW1 := Lib.hid hW1
  have AW := Lib.hid (fun w' (hb : Below W1.heap.size W1 w') => (awake12_any w' (HGL.out _ hb)).mono (R' := fun e w'' => e = .returned (.bool true) ∧ Below W1.heap.size W1 w'') fun e w'' ⟨p, q⟩ => ⟨p, hb.trans (q.mono hb.size)⟩)
  have MS := Lib.hid (fun w' => made_any S w')
  have MT := Lib.hid (fun w' => made_any T w')
  have ha := made_small S
  have hb := made_small T
  have FX := Lib.hid (fun w' => few12_any x w' hx)
  have FY := Lib.hid (fun w' => few12_any y w' hy)
  generalize madeA S = a at *
  generalize madeA T = b at *
  generalize fewA x = c at *
  generalize fewA y = d at *
  have HKS := Lib.hid (keys_stand (x := a) (y := b))
  have EA := Lib.hid (fun w' (hg : GL w') => encode_al a w' ha hg)
  have EB := Lib.hid (fun w' (hg : GL w') => encode_al b w' hb hg)
  obtain ⟨ra, hra⟩ : ∃ r, rightA a = r := ⟨_, rfl⟩
  obtain ⟨rb, hrb⟩ : ∃ r, rightA b = r := ⟨_, rfl⟩
  rw [hra] at EA HKS
  rw [hrb] at EB HKS
  have hna : rightA a = true → encS a = rowB a := fun h => by unfold encS; rw [h]; rfl
  have hnb : rightA b = true → encS b = rowB b := fun h => by unfold encS; rw [h]; rfl
  rw [hra] at hna
  rw [hrb] at hnb
  have HNA := Lib.hid hna
  have HNB := Lib.hid hnb
  clear hra hrb
  have HSA := Lib.hid (size_rowB a)
  have HSB := Lib.hid (size_rowB b)
  have CAB := Lib.hid (fun w' => compare_al a b w')
  have CBA := Lib.hid (fun w' => compare_al b a w')
  have RAB := Lib.hid (fun w' => compare_al_ref a b w')
  have CCD := Lib.hid (fun w' => compare_al c d w')
  have RCD := Lib.hid (fun w' => compare_al_ref c d w')
  have CCC := Lib.hid (fun w' => compare_al c c w')
  rw [cmpA_swap a b] at CBA
  rw [cmpA_self] at CCC
  have hnr := cmpA_range a b
  obtain ⟨n, hn⟩ : ∃ n, cmpA a b = n := ⟨_, rfl⟩
  rw [hn] at CAB CBA RAB HKS hnr
  obtain ⟨pn, hpn⟩ : ∃ pn : Int, 0 - n = pn := ⟨_, rfl⟩
  rw [hpn] at CBA
  have hnp : (n = -1 ∧ pn = 1) ∨ (n = 0 ∧ pn = 0) ∨ (n = 1 ∧ pn = -1) := by omega
  clear hpn
  generalize cmpA c d = m at *
  clear ha hb hA hB hb1 hW1 hna hnb hx hy hg hn hgs
  go_enter Tryd.func7, Tryd.ntmps7
  go_upto_region 1 with fail
  rw [HW1.out]
  go_upto_region 2 with (go_at_call 9; (with_reducible refine (AW.out _ (Below.refl _ _)).mono ?_); rintro e w2 ⟨rfl, hb2⟩)
  obtain ⟨p0, p1, p2, p3, p4, p5, p6, p7, p8, p9, p10, p11, p12, p13⟩ := H14.out _ hb2
  go_upto_region 3 with (go_at_call 13; (with_reducible refine (MS.out _).mono ?_); rintro e w3 ⟨rfl, hb3⟩)
  clear p0 p1 p2 p3 p4 p5 p6 p7 p8 p9 p10 p11 p12 p13
  have hb3' := hb2.trans (hb3.mono hb2.size)
  have hb3a := hb3'.alloc hb3'.size (.cells #[.int .i64 a.k, .string a.a, .string a.b, .string a.l, .string a.s, .string a.r] 23)
  have hA3 := World.alloc_heap_new w3 (.cells #[.int .i64 a.k, .string a.a, .string a.b, .string a.l, .string a.s, .string a.r] 23)
  generalize hW3 : w3.alloc (.cells #[.int .i64 a.k, .string a.a, .string a.b, .string a.l, .string a.s, .string a.r] 23) = W3 at *
  have hl3 : w3.heap.size < W3.heap.size := lt_of_block hA3
  clear hb3 hb3' hW3 hb2
  obtain ⟨p0, p1, p2, p3, p4, p5, p6, p7, p8, p9, p10, p11, p12, p13⟩ := H14.out _ hb3a
  go_upto_region 4 with (go_at_call 13; (with_reducible refine (MT.out _).mono ?_); rintro e w4 ⟨rfl, hb4⟩)
  clear p0 p1 p2 p3 p4 p5 p6 p7 p8 p9 p10 p11 p12 p13
  have hb4a := hb4.alloc hb4.size (.cells #[.int .i64 b.k, .string b.a, .string b.b, .string b.l, .string b.s, .string b.r] 23)
  have hB4 := World.alloc_heap_new w4 (.cells #[.int .i64 b.k, .string b.a, .string b.b, .string b.l, .string b.s, .string b.r] 23)
  have hl34 := hb4.size
  generalize hW4 : w4.alloc (.cells #[.int .i64 b.k, .string b.a, .string b.b, .string b.l, .string b.s, .string b.r] 23) = W4 at *
  have hA4 := (hb4a.block _ hl3).trans hA3
  have hb14 := hb3a.trans (hb4a.mono hb3a.size)
  have hl4 : w4.heap.size < W4.heap.size := lt_of_block hB4
  clear hb4 hW4 hb4a hA3
  have HA4 := Lib.hid (fun w' (hb : Below W4.heap.size W4 w') => cells6 ((hb.block _ (lt_of_block hA4)).trans hA4))
  have HB4 := Lib.hid (fun w' (hb : Below W4.heap.size W4 w') => cells6 ((hb.block _ (lt_of_block hB4)).trans hB4))
  have HG4 := Lib.hid (fun w' (hb : Below W4.heap.size W4 w') => HGL.out _ (hb14.trans (hb.mono hb14.size)))
  have H124 := Lib.hid (fun w' (hb : Below W4.heap.size W4 w') => H12.out _ (hb14.trans (hb.mono hb14.size)))
  have HBL := Lib.hid (fun w' (hb : Below W4.heap.size W4 w') => HB1.out.trans ((hb14.trans (hb.mono hb14.size)).mono HB1.out.size))
  clear hA4 hB4 hb14 hb3a
  obtain ⟨a0, a1, a2, a3, a4, a5⟩ := HA4.out _ (Below.refl _ _)
  obtain ⟨b0, b1, b2, b3, b4, b5⟩ := HB4.out _ (Below.refl _ _)
  go_upto_region 5 with (go_at_call 22; (with_reducible refine (CAB.out _).mono ?_); rintro e w5 ⟨rfl, hb5⟩)
  clear a0 a1 a2 a3 a4 a5 b0 b1 b2 b3 b4 b5
  obtain ⟨a0, a1, a2, a3, a4, a5⟩ := HA4.out _ hb5
  go_upto_region 6 with (go_at_call 16; (with_reducible refine (EA.out _ (HG4.out _ hb5)).mono ?_); rintro e w6 ⟨rfl, hb6⟩)
  clear a0 a1 a2 a3 a4 a5
  have hb6' := hb5.trans (hb6.mono hb5.size)
  clear hb5 hb6
  obtain ⟨b0, b1, b2, b3, b4, b5⟩ := HB4.out _ hb6'
  go_upto_region 7 with (go_at_call 16; (with_reducible refine (EB.out _ (HG4.out _ hb6')).mono ?_); rintro e w7 ⟨rfl, hb7⟩)
  clear b0 b1 b2 b3 b4 b5
  have hb7' := hb6'.trans (hb7.mono hb6'.size)
  clear hb6' hb7 EA EB CAB AW MS MT
  go_cut [58] from 35 to 58 (fun q wx => q = .bool false ∧ Below W4.heap.size W4 wx)
  case first =>
    cases ra with
    | false =>
      clear HKS HNA HNB
      go_quiet (fail)
      go_wp2
      go_meet
      exact ⟨rfl, by first | exact below_drewN hb7' _ | exact below_drewN (Below.drew hb7') _ | exact Below.drew hb7'⟩
    | true =>
      cases rb with
      | false =>
        clear HKS HNA HNB
        go_quiet (fail)
        go_wp2
        go_meet
        exact ⟨rfl, by first | exact below_drewN hb7' _ | exact below_drewN (Below.drew hb7') _ | exact Below.drew hb7'⟩
      | true =>
        obtain ⟨k1, k2⟩ := HKS.out rfl rfl
        have e1 := HNA.out rfl
        have e2 := HNB.out rfl
        have z1 := HSA.out
        have z2 := HSB.out
        rw [← e1] at k1 k2 z1
        rw [← e2] at k1 k2 z2
        generalize encS a = ra at *
        generalize encS b = rb at *
        have y1 : (17 : Int) ≤ (ra.size : Int) := by omega
        have y2 : (17 : Int) ≤ (rb.size : Int) := by omega
        clear e1 e2 z1 z2 HKS HNA HNB HSA HSB
        rcases hnr with rfl | rfl | rfl
        · rw [show decide ((-1 : Int) < 0) = true from rfl] at k1
          rw [show decide ((-1 : Int) = 0) = false from rfl] at k2
          go_quiet (fail)
          go_wp2
          go_meet
          exact ⟨rfl, by first | exact below_drewN hb7' _ | exact below_drewN (Below.drew hb7') _ | exact Below.drew hb7'⟩
        · rw [show decide ((0 : Int) < 0) = false from rfl] at k1
          rw [show decide ((0 : Int) = 0) = true from rfl] at k2
          go_quiet (fail)
          go_wp2
          go_meet
          exact ⟨rfl, by first | exact below_drewN hb7' _ | exact below_drewN (Below.drew hb7') _ | exact Below.drew hb7'⟩
        · rw [show decide ((1 : Int) < 0) = false from rfl] at k1
          rw [show decide ((1 : Int) = 0) = false from rfl] at k2
          go_quiet (fail)
          go_wp2
          go_meet
          exact ⟨rfl, by first | exact below_drewN hb7' _ | exact below_drewN (Below.drew hb7') _ | exact Below.drew hb7'⟩
  case rest =>
    obtain ⟨rfl, hbc⟩ := hcut
    clear HKS HNA HNB HSA HSB hb7'
    obtain ⟨p0, p1, p2, p3, p4, p5, p6, p7, p8, p9, p10, p11⟩ := H124.out _ hbc
    go_upto_region 10 with (go_at_call 10; (with_reducible refine (FX.out _).mono ?_); rintro e w8 ⟨rfl, hb8⟩)
    clear p0 p1 p2 p3 p4 p5 p6 p7 p8 p9 p10 p11
    have hb8' := hbc.trans (hb8.mono hbc.size)
    have hb8a := hb8'.alloc hb8'.size (.cells #[.int .i64 c.k, .string c.a, .string c.b, .string c.l, .string c.s, .string c.r] 23)
    have hC8 := World.alloc_heap_new w8 (.cells #[.int .i64 c.k, .string c.a, .string c.b, .string c.l, .string c.s, .string c.r] 23)
    generalize hW8 : w8.alloc (.cells #[.int .i64 c.k, .string c.a, .string c.b, .string c.l, .string c.s, .string c.r] 23) = W8 at *
    have hl8 : w8.heap.size < W8.heap.size := lt_of_block hC8
    clear hb8 hb8' hW8 hbc
    go_cut [14] from 15 to 64 (fun q wx => ∃ N9, q = .pointer (some ⟨N9, 0, none⟩) ∧ wx.heap[N9]? = some (.cells #[.int .i64 d.k, .string d.a, .string d.b, .string d.l, .string d.s, .string d.r] 23 (0, 0)) ∧ Below W8.heap.size W8 wx)
    case first =>
      obtain ⟨p0, p1, p2, p3, p4, p5, p6, p7, p8, p9, p10, p11⟩ := H124.out _ hb8a
      go_wp2_with (go_at_call 10; (with_reducible refine (FY.out _).mono ?_); rintro e w9 ⟨rfl, hb9⟩)
      go_meet
      exact ⟨_, rfl, World.alloc_heap_new w9 _, hb9.alloc hb9.size _⟩
    case rest =>
    obtain ⟨N9, rfl, hD9, hb9a⟩ := hcut
    generalize hWc : wc = W9 at *
    clear hWc
    have hC9 := (hb9a.block _ hl8).trans hC8
    have hb49 := hb8a.trans (hb9a.mono hb8a.size)
    clear hb9a hC8
    go_upto_region 11 with fail
    have HC := Lib.hid (fun w' (hb : Below W9.heap.size W9 w') => (show Below W9.heap.size W9 w' ∧ (w'.cell? ⟨w3.heap.size, 0, none⟩ = some (.int .i64 a.k) ∧ w'.cell? ⟨w3.heap.size, 1, none⟩ = some (.string a.a) ∧ w'.cell? ⟨w3.heap.size, 2, none⟩ = some (.string a.b) ∧ w'.cell? ⟨w3.heap.size, 3, none⟩ = some (.string a.l) ∧ w'.cell? ⟨w3.heap.size, 4, none⟩ = some (.string a.s) ∧ w'.cell? ⟨w3.heap.size, 5, none⟩ = some (.string a.r) ∧ w'.cell? ⟨w4.heap.size, 0, none⟩ = some (.int .i64 b.k) ∧ w'.cell? ⟨w4.heap.size, 1, none⟩ = some (.string b.a) ∧ w'.cell? ⟨w4.heap.size, 2, none⟩ = some (.string b.b) ∧ w'.cell? ⟨w4.heap.size, 3, none⟩ = some (.string b.l) ∧ w'.cell? ⟨w4.heap.size, 4, none⟩ = some (.string b.s) ∧ w'.cell? ⟨w4.heap.size, 5, none⟩ = some (.string b.r) ∧ w'.cell? ⟨w8.heap.size, 0, none⟩ = some (.int .i64 c.k) ∧ w'.cell? ⟨w8.heap.size, 1, none⟩ = some (.string c.a) ∧ w'.cell? ⟨w8.heap.size, 2, none⟩ = some (.string c.b) ∧ w'.cell? ⟨w8.heap.size, 3, none⟩ = some (.string c.l) ∧ w'.cell? ⟨w8.heap.size, 4, none⟩ = some (.string c.s) ∧ w'.cell? ⟨w8.heap.size, 5, none⟩ = some (.string c.r) ∧ w'.cell? ⟨N9, 0, none⟩ = some (.int .i64 d.k) ∧ w'.cell? ⟨N9, 1, none⟩ = some (.string d.a) ∧ w'.cell? ⟨N9, 2, none⟩ = some (.string d.b) ∧ w'.cell? ⟨N9, 3, none⟩ = some (.string d.l) ∧ w'.cell? ⟨N9, 4, none⟩ = some (.string d.s) ∧ w'.cell? ⟨N9, 5, none⟩ = some (.string d.r)) from by
      obtain ⟨a0, a1, a2, a3, a4, a5⟩ := HA4.out _ (hb49.trans (hb.mono hb49.size))
      obtain ⟨b0, b1, b2, b3, b4, b5⟩ := HB4.out _ (hb49.trans (hb.mono hb49.size))
      obtain ⟨c0, c1, c2, c3, c4, c5⟩ := cells6 ((hb.block _ (lt_of_block hC9)).trans hC9)
      obtain ⟨d0, d1, d2, d3, d4, d5⟩ := cells6 ((hb.block _ (lt_of_block hD9)).trans hD9)
      exact ⟨hb, a0, a1, a2, a3, a4, a5, b0, b1, b2, b3, b4, b5, c0, c1, c2, c3, c4, c5, d0, d1, d2, d3, d4, d5⟩))
    have HBZ := Lib.hid (fun w' (hb : Below W9.heap.size W9 w') => HBL.out _ (hb49.trans (hb.mono hb49.size)))
    have GAB := Lib.hid (fun w' (hb : Below W9.heap.size W9 w') => (RAB.out w').mono (R' := fun e w'' => e = .returned (.int .i64 n) ∧ Below W9.heap.size W9 w'') fun e w'' ⟨p, q⟩ => ⟨p, hb.trans (q.mono hb.size)⟩)
    have GBA := Lib.hid (fun w' (hb : Below W9.heap.size W9 w') => (CBA.out w').mono (R' := fun e w'' => e = .returned (.int .i64 pn) ∧ Below W9.heap.size W9 w'') fun e w'' ⟨p, q⟩ => ⟨p, hb.trans (q.mono hb.size)⟩)
    have GCD := Lib.hid (fun w' (hb : Below W9.heap.size W9 w') => (CCD.out w').mono (R' := fun e w'' => e = .returned (.int .i64 m) ∧ Below W9.heap.size W9 w'') fun e w'' ⟨p, q⟩ => ⟨p, hb.trans (q.mono hb.size)⟩)
    have HCD := Lib.hid (fun w' (hb : Below W9.heap.size W9 w') => (RCD.out w').mono (R' := fun e w'' => e = .returned (.int .i64 m) ∧ Below W9.heap.size W9 w'') fun e w'' ⟨p, q⟩ => ⟨p, hb.trans (q.mono hb.size)⟩)
    have GCC := Lib.hid (fun w' (hb : Below W9.heap.size W9 w') => (CCC.out w').mono (R' := fun e w'' => e = .returned (.int .i64 0) ∧ Below W9.heap.size W9 w'') fun e w'' ⟨p, q⟩ => ⟨p, hb.trans (q.mono hb.size)⟩)
    clear H14 H12 H124 HA4 HB4 HBL HGL HG4 HB1 HW1 hb49 hb8a hC9 hD9 FX FY
    have hd1 : Below W9.heap.size W9 W9.drew := Below.drew (Below.refl _ _)
    have hneg1 : IntKind.i64.wrap (0 - n) = pn := by
      rcases hnp with ⟨rfl, rfl⟩ | ⟨rfl, rfl⟩ | ⟨rfl, rfl⟩ <;> decide
    have hneg2 : IntKind.i64.wrap (-n) = pn := by
      rcases hnp with ⟨rfl, rfl⟩ | ⟨rfl, rfl⟩ | ⟨rfl, rfl⟩ <;> decide
    clear hnr hnp hl3 hl34 hl4 hl8 RAB CBA CCD RCD CCC
    generalize w3.heap.size = N3 at *
    generalize w4.heap.size = N4 at *
    generalize w8.heap.size = N8 at *
    refine wp_region_held_drew (S := fun w' => Below W9.heap.size W9 w' ∧ (w'.cell? ⟨N3, 0, none⟩ = some (.int .i64 a.k) ∧ w'.cell? ⟨N3, 1, none⟩ = some (.string a.a) ∧ w'.cell? ⟨N3, 2, none⟩ = some (.string a.b) ∧ w'.cell? ⟨N3, 3, none⟩ = some (.string a.l) ∧ w'.cell? ⟨N3, 4, none⟩ = some (.string a.s) ∧ w'.cell? ⟨N3, 5, none⟩ = some (.string a.r) ∧ w'.cell? ⟨N4, 0, none⟩ = some (.int .i64 b.k) ∧ w'.cell? ⟨N4, 1, none⟩ = some (.string b.a) ∧ w'.cell? ⟨N4, 2, none⟩ = some (.string b.b) ∧ w'.cell? ⟨N4, 3, none⟩ = some (.string b.l) ∧ w'.cell? ⟨N4, 4, none⟩ = some (.string b.s) ∧ w'.cell? ⟨N4, 5, none⟩ = some (.string b.r) ∧ w'.cell? ⟨N8, 0, none⟩ = some (.int .i64 c.k) ∧ w'.cell? ⟨N8, 1, none⟩ = some (.string c.a) ∧ w'.cell? ⟨N8, 2, none⟩ = some (.string c.b) ∧ w'.cell? ⟨N8, 3, none⟩ = some (.string c.l) ∧ w'.cell? ⟨N8, 4, none⟩ = some (.string c.s) ∧ w'.cell? ⟨N8, 5, none⟩ = some (.string c.r) ∧ w'.cell? ⟨N9, 0, none⟩ = some (.int .i64 d.k) ∧ w'.cell? ⟨N9, 1, none⟩ = some (.string d.a) ∧ w'.cell? ⟨N9, 2, none⟩ = some (.string d.b) ∧ w'.cell? ⟨N9, 3, none⟩ = some (.string d.l) ∧ w'.cell? ⟨N9, 4, none⟩ = some (.string d.s) ∧ w'.cell? ⟨N9, 5, none⟩ = some (.string d.r))) (by kernel_rfl) (HC.out _ (Below.drew (Below.refl _ _))) (fun hHeld => ?_)
    apply held_shell
    exact fun _ _ d _ _ h => by cases d <;> exact h
    rotate_left 1
    intro KK hKp hfin
    refine wpAnyH_take (i := 0) (v := .bool true) rfl (by kernel_rfl) (by kernel_rfl) (by kernel_rfl) (fun c a w h => hKp c a _ _ w h) (Or.inl ⟨by kernel_rfl, fun w hSw => by dsimp only at hSw; obtain ⟨-, a0, a1, a2, a3, a4, a5, b0, b1, b2, b3, b4, b5, c0, c1, c2, c3, c4, c5, d0, d1, d2, d3, d4, d5⟩ := hSw; go_simp⟩) (by assumption) ?_
    simp only [Act.put, List.getElem_toArray, List.getElem_cons_zero, List.setIfInBounds_toArray, List.set_cons_zero, List.set_cons_succ]
    refine wpAnyH_take (i := 1) (v := .bool true) rfl (by kernel_rfl) (by kernel_rfl) (by kernel_rfl) (fun c a w h => hKp c a _ _ w h) (Or.inl ⟨by kernel_rfl, fun w hSw => by dsimp only at hSw; obtain ⟨-, a0, a1, a2, a3, a4, a5, b0, b1, b2, b3, b4, b5, c0, c1, c2, c3, c4, c5, d0, d1, d2, d3, d4, d5⟩ := hSw; go_simp⟩) (by assumption) ?_
    simp only [Act.put, List.getElem_toArray, List.getElem_cons_zero, List.getElem_cons_succ, List.setIfInBounds_toArray, List.set_cons_zero, List.set_cons_succ]
    refine wpAnyH_take (i := 2) (v := .int .i64 n) rfl (by kernel_rfl) (by kernel_rfl) (by kernel_rfl) (fun c a w h => hKp c a _ _ w h) (Or.inl ⟨by kernel_rfl, fun w hSw => by dsimp only at hSw; obtain ⟨-, a0, a1, a2, a3, a4, a5, b0, b1, b2, b3, b4, b5, c0, c1, c2, c3, c4, c5, d0, d1, d2, d3, d4, d5⟩ := hSw; go_simp⟩) (by assumption) ?_
    simp only [Act.put, List.getElem_toArray, List.getElem_cons_zero, List.getElem_cons_succ, List.setIfInBounds_toArray, List.set_cons_zero, List.set_cons_succ]
    refine wpAnyH_take (i := 3) (v := .agg #[.int .i64 a.k, .string a.a, .string a.b, .string a.l, .string a.s, .string a.r]) rfl (by kernel_rfl) (by kernel_rfl) (by kernel_rfl) (fun c a w h => hKp c a _ _ w h) (Or.inl ⟨by kernel_rfl, fun w hSw => by dsimp only at hSw; obtain ⟨-, a0, a1, a2, a3, a4, a5, b0, b1, b2, b3, b4, b5, c0, c1, c2, c3, c4, c5, d0, d1, d2, d3, d4, d5⟩ := hSw; go_simp⟩) (by assumption) ?_
    simp only [Act.put, List.getElem_toArray, List.getElem_cons_zero, List.getElem_cons_succ, List.setIfInBounds_toArray, List.set_cons_zero, List.set_cons_succ]
    refine wpAnyH_take (i := 4) (v := .agg #[.int .i64 b.k, .string b.a, .string b.b, .string b.l, .string b.s, .string b.r]) rfl (by kernel_rfl) (by kernel_rfl) (by kernel_rfl) (fun c a w h => hKp c a _ _ w h) (Or.inl ⟨by kernel_rfl, fun w hSw => by dsimp only at hSw; obtain ⟨-, a0, a1, a2, a3, a4, a5, b0, b1, b2, b3, b4, b5, c0, c1, c2, c3, c4, c5, d0, d1, d2, d3, d4, d5⟩ := hSw; go_simp⟩) (by assumption) ?_
    simp only [Act.put, List.getElem_toArray, List.getElem_cons_zero, List.getElem_cons_succ, List.setIfInBounds_toArray, List.set_cons_zero, List.set_cons_succ]
    refine wpAnyH_ready (rs := [5]) (by kernel_rfl) (by simp) ?_
    refine AllReadyH.cons rfl (fun Kx hKx => ?_) AllReadyH.nil
    rw [if_pos (by kernel_rfl)]
    go_simp
    (with_reducible refine (GAB.out _ hHeld.1).mono ?_)
    rintro e w5 ⟨rfl, hb5⟩
    refine hKx.out _ _ (HC.out _ hb5) (fun hHeld => ?_)
    clear hKx Kx
    try simp only [Act.put, List.getElem_toArray, List.getElem_cons_zero, List.getElem_cons_succ, List.setIfInBounds_toArray, List.set_cons_zero, List.set_cons_succ]
    refine wpAnyH_take (i := 6) (v := .bool true) rfl (by kernel_rfl) (by kernel_rfl) (by kernel_rfl) (fun c a w h => hKp c a _ _ w h) (Or.inl ⟨by kernel_rfl, fun w hSw => by dsimp only at hSw; obtain ⟨-, a0, a1, a2, a3, a4, a5, b0, b1, b2, b3, b4, b5, c0, c1, c2, c3, c4, c5, d0, d1, d2, d3, d4, d5⟩ := hSw; go_simp⟩) (by assumption) ?_
    simp only [Act.put, List.getElem_toArray, List.getElem_cons_zero, List.getElem_cons_succ, List.setIfInBounds_toArray, List.set_cons_zero, List.set_cons_succ]
    refine wpAnyH_take (i := 7) (v := .bool true) rfl (by kernel_rfl) (by kernel_rfl) (by kernel_rfl) (fun c a w h => hKp c a _ _ w h) (Or.inl ⟨by kernel_rfl, fun w hSw => by dsimp only at hSw; obtain ⟨-, a0, a1, a2, a3, a4, a5, b0, b1, b2, b3, b4, b5, c0, c1, c2, c3, c4, c5, d0, d1, d2, d3, d4, d5⟩ := hSw; go_simp⟩) (by assumption) ?_
    simp only [Act.put, List.getElem_toArray, List.getElem_cons_zero, List.getElem_cons_succ, List.setIfInBounds_toArray, List.set_cons_zero, List.set_cons_succ]
    refine wpAnyH_take (i := 8) (v := .bool true) rfl (by kernel_rfl) (by kernel_rfl) (by kernel_rfl) (fun c a w h => hKp c a _ _ w h) (Or.inl ⟨by kernel_rfl, fun w hSw => by dsimp only at hSw; obtain ⟨-, a0, a1, a2, a3, a4, a5, b0, b1, b2, b3, b4, b5, c0, c1, c2, c3, c4, c5, d0, d1, d2, d3, d4, d5⟩ := hSw; go_simp⟩) (by assumption) ?_
    simp only [Act.put, List.getElem_toArray, List.getElem_cons_zero, List.getElem_cons_succ, List.setIfInBounds_toArray, List.set_cons_zero, List.set_cons_succ]
    refine wpAnyH_take (i := 9) (v := .agg #[.int .i64 b.k, .string b.a, .string b.b, .string b.l, .string b.s, .string b.r]) rfl (by kernel_rfl) (by kernel_rfl) (by kernel_rfl) (fun c a w h => hKp c a _ _ w h) (Or.inl ⟨by kernel_rfl, fun w hSw => by dsimp only at hSw; obtain ⟨-, a0, a1, a2, a3, a4, a5, b0, b1, b2, b3, b4, b5, c0, c1, c2, c3, c4, c5, d0, d1, d2, d3, d4, d5⟩ := hSw; go_simp⟩) (by assumption) ?_
    simp only [Act.put, List.getElem_toArray, List.getElem_cons_zero, List.getElem_cons_succ, List.setIfInBounds_toArray, List.set_cons_zero, List.set_cons_succ]
    refine wpAnyH_take (i := 10) (v := .agg #[.int .i64 a.k, .string a.a, .string a.b, .string a.l, .string a.s, .string a.r]) rfl (by kernel_rfl) (by kernel_rfl) (by kernel_rfl) (fun c a w h => hKp c a _ _ w h) (Or.inl ⟨by kernel_rfl, fun w hSw => by dsimp only at hSw; obtain ⟨-, a0, a1, a2, a3, a4, a5, b0, b1, b2, b3, b4, b5, c0, c1, c2, c3, c4, c5, d0, d1, d2, d3, d4, d5⟩ := hSw; go_simp⟩) (by assumption) ?_
    simp only [Act.put, List.getElem_toArray, List.getElem_cons_zero, List.getElem_cons_succ, List.setIfInBounds_toArray, List.set_cons_zero, List.set_cons_succ]
    refine wpAnyH_take (i := 12) (v := .int .i64 n) rfl (by kernel_rfl) (by kernel_rfl) (by kernel_rfl) (fun c a w h => hKp c a _ _ w h) (Or.inl ⟨by kernel_rfl, fun w hSw => by dsimp only at hSw; obtain ⟨-, a0, a1, a2, a3, a4, a5, b0, b1, b2, b3, b4, b5, c0, c1, c2, c3, c4, c5, d0, d1, d2, d3, d4, d5⟩ := hSw; go_simp⟩) (by assumption) ?_
    simp only [Act.put, List.getElem_toArray, List.getElem_cons_zero, List.getElem_cons_succ, List.setIfInBounds_toArray, List.set_cons_zero, List.set_cons_succ]
    refine wpAnyH_take (i := 13) (v := .int .i64 pn) rfl (by kernel_rfl) (by kernel_rfl) (by kernel_rfl) (fun c a w h => hKp c a _ _ w h) (Or.inl ⟨by kernel_rfl, fun w hSw => by dsimp only at hSw; obtain ⟨-, a0, a1, a2, a3, a4, a5, b0, b1, b2, b3, b4, b5, c0, c1, c2, c3, c4, c5, d0, d1, d2, d3, d4, d5⟩ := hSw; go_simp⟩) (by assumption) ?_
    simp only [Act.put, List.getElem_toArray, List.getElem_cons_zero, List.getElem_cons_succ, List.setIfInBounds_toArray, List.set_cons_zero, List.set_cons_succ]
    refine wpAnyH_ready (rs := [11]) (by kernel_rfl) (by simp) ?_
    refine AllReadyH.cons rfl (fun Kx hKx => ?_) AllReadyH.nil
    rw [if_pos (by kernel_rfl)]
    go_simp
    (with_reducible refine (GBA.out _ hHeld.1).mono ?_)
    rintro e w5 ⟨rfl, hb5⟩
    refine hKx.out _ _ (HC.out _ hb5) (fun hHeld => ?_)
    clear hKx Kx
    try simp only [Act.put, List.getElem_toArray, List.getElem_cons_zero, List.getElem_cons_succ, List.setIfInBounds_toArray, List.set_cons_zero, List.set_cons_succ]
    refine wpAnyH_take (i := 14) (v := .bool true) rfl (by kernel_rfl) (by kernel_rfl) (by kernel_rfl) (fun c a w h => hKp c a _ _ w h) (Or.inl ⟨by kernel_rfl, fun w hSw => by dsimp only at hSw; obtain ⟨-, a0, a1, a2, a3, a4, a5, b0, b1, b2, b3, b4, b5, c0, c1, c2, c3, c4, c5, d0, d1, d2, d3, d4, d5⟩ := hSw; go_simp⟩) (by assumption) ?_
    simp only [Act.put, List.getElem_toArray, List.getElem_cons_zero, List.getElem_cons_succ, List.setIfInBounds_toArray, List.set_cons_zero, List.set_cons_succ]
    refine wpAnyH_take (i := 15) (v := .bool true) rfl (by kernel_rfl) (by kernel_rfl) (by kernel_rfl) (fun c a w h => hKp c a _ _ w h) (Or.inl ⟨by kernel_rfl, fun w hSw => by dsimp only at hSw; obtain ⟨-, a0, a1, a2, a3, a4, a5, b0, b1, b2, b3, b4, b5, c0, c1, c2, c3, c4, c5, d0, d1, d2, d3, d4, d5⟩ := hSw; go_simp⟩) (by assumption) ?_
    simp only [Act.put, List.getElem_toArray, List.getElem_cons_zero, List.getElem_cons_succ, List.setIfInBounds_toArray, List.set_cons_zero, List.set_cons_succ]
    refine wpAnyH_take (i := 16) (v := .bool true) rfl (by kernel_rfl) (by kernel_rfl) (by kernel_rfl) (fun c a w h => hKp c a _ _ w h) (Or.inl ⟨by kernel_rfl, fun w hSw => by dsimp only at hSw; obtain ⟨-, a0, a1, a2, a3, a4, a5, b0, b1, b2, b3, b4, b5, c0, c1, c2, c3, c4, c5, d0, d1, d2, d3, d4, d5⟩ := hSw; go_simp⟩) (by assumption) ?_
    simp only [Act.put, List.getElem_toArray, List.getElem_cons_zero, List.getElem_cons_succ, List.setIfInBounds_toArray, List.set_cons_zero, List.set_cons_succ]
    refine wpAnyH_take (i := 17) (v := .agg #[.int .i64 c.k, .string c.a, .string c.b, .string c.l, .string c.s, .string c.r]) rfl (by kernel_rfl) (by kernel_rfl) (by kernel_rfl) (fun c a w h => hKp c a _ _ w h) (Or.inl ⟨by kernel_rfl, fun w hSw => by dsimp only at hSw; obtain ⟨-, a0, a1, a2, a3, a4, a5, b0, b1, b2, b3, b4, b5, c0, c1, c2, c3, c4, c5, d0, d1, d2, d3, d4, d5⟩ := hSw; go_simp⟩) (by assumption) ?_
    simp only [Act.put, List.getElem_toArray, List.getElem_cons_zero, List.getElem_cons_succ, List.setIfInBounds_toArray, List.set_cons_zero, List.set_cons_succ]
    refine wpAnyH_take (i := 18) (v := .agg #[.int .i64 d.k, .string d.a, .string d.b, .string d.l, .string d.s, .string d.r]) rfl (by kernel_rfl) (by kernel_rfl) (by kernel_rfl) (fun c a w h => hKp c a _ _ w h) (Or.inl ⟨by kernel_rfl, fun w hSw => by dsimp only at hSw; obtain ⟨-, a0, a1, a2, a3, a4, a5, b0, b1, b2, b3, b4, b5, c0, c1, c2, c3, c4, c5, d0, d1, d2, d3, d4, d5⟩ := hSw; go_simp⟩) (by assumption) ?_
    simp only [Act.put, List.getElem_toArray, List.getElem_cons_zero, List.getElem_cons_succ, List.setIfInBounds_toArray, List.set_cons_zero, List.set_cons_succ]
    refine wpAnyH_take (i := 20) (v := .agg #[.int .i64 c.k, .string c.a, .string c.b, .string c.l, .string c.s, .string c.r]) rfl (by kernel_rfl) (by kernel_rfl) (by kernel_rfl) (fun c a w h => hKp c a _ _ w h) (Or.inl ⟨by kernel_rfl, fun w hSw => by dsimp only at hSw; obtain ⟨-, a0, a1, a2, a3, a4, a5, b0, b1, b2, b3, b4, b5, c0, c1, c2, c3, c4, c5, d0, d1, d2, d3, d4, d5⟩ := hSw; go_simp⟩) (by assumption) ?_
    simp only [Act.put, List.getElem_toArray, List.getElem_cons_zero, List.getElem_cons_succ, List.setIfInBounds_toArray, List.set_cons_zero, List.set_cons_succ]
    refine wpAnyH_take (i := 21) (v := .agg #[.int .i64 d.k, .string d.a, .string d.b, .string d.l, .string d.s, .string d.r]) rfl (by kernel_rfl) (by kernel_rfl) (by kernel_rfl) (fun c a w h => hKp c a _ _ w h) (Or.inl ⟨by kernel_rfl, fun w hSw => by dsimp only at hSw; obtain ⟨-, a0, a1, a2, a3, a4, a5, b0, b1, b2, b3, b4, b5, c0, c1, c2, c3, c4, c5, d0, d1, d2, d3, d4, d5⟩ := hSw; go_simp⟩) (by assumption) ?_
    simp only [Act.put, List.getElem_toArray, List.getElem_cons_zero, List.getElem_cons_succ, List.setIfInBounds_toArray, List.set_cons_zero, List.set_cons_succ]
    refine wpAnyH_ready (rs := [19]) (by kernel_rfl) (by simp) ?_
    refine AllReadyH.cons rfl (fun Kx hKx => ?_) AllReadyH.nil
    rw [if_pos (by kernel_rfl)]
    go_simp
    (with_reducible refine (GCD.out _ hHeld.1).mono ?_)
    rintro e w5 ⟨rfl, hb5⟩
    refine hKx.out _ _ (HC.out _ hb5) (fun hHeld => ?_)
    clear hKx Kx
    try simp only [Act.put, List.getElem_toArray, List.getElem_cons_zero, List.getElem_cons_succ, List.setIfInBounds_toArray, List.set_cons_zero, List.set_cons_succ]
    refine wpAnyH_ready (rs := [22]) (by kernel_rfl) (by simp) ?_
    refine AllReadyH.cons rfl (fun Kx hKx => ?_) AllReadyH.nil
    rw [if_pos (by kernel_rfl)]
    go_simp
    (with_reducible refine (HCD.out _ hHeld.1).mono ?_)
    rintro e w5 ⟨rfl, hb5⟩
    refine hKx.out _ _ (HC.out _ hb5) (fun hHeld => ?_)
    clear hKx Kx
    try simp only [Act.put, List.getElem_toArray, List.getElem_cons_zero, List.getElem_cons_succ, List.setIfInBounds_toArray, List.set_cons_zero, List.set_cons_succ]
    refine wpAnyH_take (i := 23) (v := .bool true) rfl (by kernel_rfl) (by kernel_rfl) (by kernel_rfl) (fun c a w h => hKp c a _ _ w h) (Or.inl ⟨by kernel_rfl, fun w hSw => by dsimp only at hSw; obtain ⟨-, a0, a1, a2, a3, a4, a5, b0, b1, b2, b3, b4, b5, c0, c1, c2, c3, c4, c5, d0, d1, d2, d3, d4, d5⟩ := hSw; go_simp⟩) (by assumption) ?_
    simp only [Act.put, List.getElem_toArray, List.getElem_cons_zero, List.getElem_cons_succ, List.setIfInBounds_toArray, List.set_cons_zero, List.set_cons_succ]
    refine wpAnyH_take (i := 24) (v := .bool true) rfl (by kernel_rfl) (by kernel_rfl) (by kernel_rfl) (fun c a w h => hKp c a _ _ w h) (Or.inl ⟨by kernel_rfl, fun w hSw => by dsimp only at hSw; obtain ⟨-, a0, a1, a2, a3, a4, a5, b0, b1, b2, b3, b4, b5, c0, c1, c2, c3, c4, c5, d0, d1, d2, d3, d4, d5⟩ := hSw; go_simp⟩) (by assumption) ?_
    simp only [Act.put, List.getElem_toArray, List.getElem_cons_zero, List.getElem_cons_succ, List.setIfInBounds_toArray, List.set_cons_zero, List.set_cons_succ]
    refine wpAnyH_take (i := 25) (v := .bool true) rfl (by kernel_rfl) (by kernel_rfl) (by kernel_rfl) (fun c a w h => hKp c a _ _ w h) (Or.inl ⟨by kernel_rfl, fun w hSw => by dsimp only at hSw; obtain ⟨-, a0, a1, a2, a3, a4, a5, b0, b1, b2, b3, b4, b5, c0, c1, c2, c3, c4, c5, d0, d1, d2, d3, d4, d5⟩ := hSw; go_simp⟩) (by assumption) ?_
    simp only [Act.put, List.getElem_toArray, List.getElem_cons_zero, List.getElem_cons_succ, List.setIfInBounds_toArray, List.set_cons_zero, List.set_cons_succ]
    refine wpAnyH_take (i := 26) (v := .agg #[.int .i64 c.k, .string c.a, .string c.b, .string c.l, .string c.s, .string c.r]) rfl (by kernel_rfl) (by kernel_rfl) (by kernel_rfl) (fun c a w h => hKp c a _ _ w h) (Or.inl ⟨by kernel_rfl, fun w hSw => by dsimp only at hSw; obtain ⟨-, a0, a1, a2, a3, a4, a5, b0, b1, b2, b3, b4, b5, c0, c1, c2, c3, c4, c5, d0, d1, d2, d3, d4, d5⟩ := hSw; go_simp⟩) (by assumption) ?_
    simp only [Act.put, List.getElem_toArray, List.getElem_cons_zero, List.getElem_cons_succ, List.setIfInBounds_toArray, List.set_cons_zero, List.set_cons_succ]
    refine wpAnyH_take (i := 27) (v := .agg #[.int .i64 c.k, .string c.a, .string c.b, .string c.l, .string c.s, .string c.r]) rfl (by kernel_rfl) (by kernel_rfl) (by kernel_rfl) (fun c a w h => hKp c a _ _ w h) (Or.inl ⟨by kernel_rfl, fun w hSw => by dsimp only at hSw; obtain ⟨-, a0, a1, a2, a3, a4, a5, b0, b1, b2, b3, b4, b5, c0, c1, c2, c3, c4, c5, d0, d1, d2, d3, d4, d5⟩ := hSw; go_simp⟩) (by assumption) ?_
    simp only [Act.put, List.getElem_toArray, List.getElem_cons_zero, List.getElem_cons_succ, List.setIfInBounds_toArray, List.set_cons_zero, List.set_cons_succ]
    refine wpAnyH_ready (rs := [28]) (by kernel_rfl) (by simp) ?_
    refine AllReadyH.cons rfl (fun Kx hKx => ?_) AllReadyH.nil
    rw [if_pos (by kernel_rfl)]
    go_simp
    (with_reducible refine (GCC.out _ hHeld.1).mono ?_)
    rintro e w5 ⟨rfl, hb5⟩
    refine hKx.out _ _ (HC.out _ hb5) (fun hHeld => ?_)
    clear hKx Kx
    try simp only [Act.put, List.getElem_toArray, List.getElem_cons_zero, List.getElem_cons_succ, List.setIfInBounds_toArray, List.set_cons_zero, List.set_cons_succ]
    refine wpAnyH_take (i := 29) (v := .bool true) rfl (by kernel_rfl) (by kernel_rfl) (by kernel_rfl) (fun c a w h => hKp c a _ _ w h) (Or.inl ⟨by kernel_rfl, fun w hSw => by dsimp only at hSw; obtain ⟨-, a0, a1, a2, a3, a4, a5, b0, b1, b2, b3, b4, b5, c0, c1, c2, c3, c4, c5, d0, d1, d2, d3, d4, d5⟩ := hSw; go_simp⟩) (by assumption) ?_
    simp only [Act.put, List.getElem_toArray, List.getElem_cons_zero, List.getElem_cons_succ, List.setIfInBounds_toArray, List.set_cons_zero, List.set_cons_succ]
    refine wpAnyH_take (i := 30) (v := .bool true) rfl (by kernel_rfl) (by kernel_rfl) (by kernel_rfl) (fun c a w h => hKp c a _ _ w h) (Or.inl ⟨by kernel_rfl, fun w hSw => by dsimp only at hSw; obtain ⟨-, a0, a1, a2, a3, a4, a5, b0, b1, b2, b3, b4, b5, c0, c1, c2, c3, c4, c5, d0, d1, d2, d3, d4, d5⟩ := hSw; go_simp⟩) (by assumption) ?_
    simp only [Act.put, List.getElem_toArray, List.getElem_cons_zero, List.getElem_cons_succ, List.setIfInBounds_toArray, List.set_cons_zero, List.set_cons_succ]
    refine wpAnyH_take (i := 31) (v := .bool true) rfl (by kernel_rfl) (by kernel_rfl) (by kernel_rfl) (fun c a w h => hKp c a _ _ w h) (Or.inl ⟨by kernel_rfl, fun w hSw => by dsimp only at hSw; obtain ⟨-, a0, a1, a2, a3, a4, a5, b0, b1, b2, b3, b4, b5, c0, c1, c2, c3, c4, c5, d0, d1, d2, d3, d4, d5⟩ := hSw; go_simp⟩) (by assumption) ?_
    simp only [Act.put, List.getElem_toArray, List.getElem_cons_zero, List.getElem_cons_succ, List.setIfInBounds_toArray, List.set_cons_zero, List.set_cons_succ]
    refine wpAnyH_done (by kernel_rfl) ?_ _
    exact hfin _ hHeld
    rintro w5 ⟨hb5, -⟩
    go_wp2
    go_ret
    exact ⟨rfl, HBZ.out _ hb5⟩
end Go.Proofs.YtmoblofkcfondaaDoor
