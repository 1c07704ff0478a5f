/-
  looks: what was made, against what the document says.
-/
import Derived.Test.YtbkbnkpgldemkaaGreatDoorWRefB
import Derived.Test.YtbkbnkpgldemkaaGreatDoorWList
import Derived.Deep.RegionHeld3
import Derived.Laws.Concat
namespace Go.Proofs.YtbkbnkpgldemkaaGreatDoor
open Go Go.RowKit

theorem placeW_any {v : Value} {k p : Int} (w : World) (h : FaultW w v k p) :
    Calls Tryz.prog 27 #[v] w fun e w' => e = .returned (.int .i64 p) ∧ Below w.heap.size w w' := by
  obtain ⟨b, rfl, hb⟩ := h
  exact place_chain w (by simp) (lt_of_block hb) (chain_ofW hb)
theorem whatsW_any {v : Value} {k p : Int} (w : World) (h : FaultW w v k p) :
    Calls Tryz.prog 26 #[v] w fun e w' => ∃ g c, e = .returned (.slice (some ⟨g, 0, none⟩) 1 c) ∧ (w'.cell? ⟨g, 0, none⟩ = some (.string ⟨#[116, 97, 98, 108, 101]⟩) ∧ Below w.heap.size w w') := by
  obtain ⟨b, rfl, hb⟩ := h
  refine (whats_chain w (by simp) (lt_of_block hb) (chain_ofW hb)).mono fun e w' ⟨u, h1, ho, hb'⟩ => ?_
  have ho : w'.ownsRow (w.heap.size + 2) 9 1 u 1 [.string ⟨#[116, 97, 98, 108, 101]⟩] := ho
  obtain ⟨g, c, rfl⟩ := ownsRow_succ ho
  exact ⟨g, c, h1, ho.cells rfl 0 _ rfl, hb'⟩

set_option maxRecDepth 100000 in
set_option maxHeartbeats 4000000 in
theorem looks_err {u : Value} {ee p : Int} (ki : Int) (w : World) (h : FaultW w u ee p) (he : (ee == 0) = false) (hg : TypeLaid w) :
    Calls Tryz.prog 13 #[.pointer none, u, .agg #[.slice none 0 0, .int .i64 ee, .int .i64 p], .int .i64 ki] w fun e w' => e = .returned (.bool true) ∧ Below w.heap.size w w' := by
  obtain ⟨ty, uu, rfl⟩ := h.iface
  have he1 : (ee != 0) = true := by rw [bne, he]; rfl
  have hee : (ee == ee) = true := beq_self_eq_true _
  have hee2 : (ee != ee) = false := by rw [bne, hee]; rfl
  have hpp : (p == p) = true := beq_self_eq_true _
  obtain ⟨W0, hW0⟩ : ∃ W0, w.alloc (.cells #[.slice none 0 0, .int .i64 ee, .int .i64 p] 42) = W0 := ⟨_, rfl⟩
  have hb0 : Below w.heap.size w W0 := by rw [← hW0]; exact (Below.refl _ w).alloc (Nat.le_refl _) _
  have hR0 : W0.heap[w.heap.size]? = some (gotObj (.slice none 0 0) ee p) := by rw [← hW0]; exact World.alloc_heap_new w _
  obtain ⟨c0, c1, c2⟩ := got_cells hR0
  have HC1 := Lib.hid (fun (wb : World) (hb : Below W0.heap.size W0 wb) => show wb.cell? ⟨w.heap.size, 1, none⟩ = some (.int .i64 ee) ∧ wb.cell? ⟨w.heap.size, 2, none⟩ = some (.int .i64 p) from ⟨(hb.cell (p := ⟨w.heap.size, 1, none⟩) (lt_of_cellW c1)).trans c1, (hb.cell (p := ⟨w.heap.size, 2, none⟩) (lt_of_cellW c2)).trans c2⟩)
  have HTR := Lib.hid (fun (wa wb : World) (h1 : Below W0.heap.size W0 wa) (h2 : Below wa.heap.size wa wb) => h1.trans (h2.mono h1.size))
  have HKD := Lib.hid (fun w5 (hb : Below W0.heap.size W0 w5) => kindW_any w5 ((h.below hb0).below hb) ((hg.below hb0 hg.size).below hb (Nat.lt_of_lt_of_le hg.size hb0.size)))
  have HWH := Lib.hid (fun w5 (hb : Below W0.heap.size W0 w5) => whatsW_any w5 ((h.below hb0).below hb))
  have HPL := Lib.hid (fun w5 (hb : Below W0.heap.size W0 w5) => placeW_any w5 ((h.below hb0).below hb))
  have HB0 := Lib.hid hb0
  clear h hg hb0 hR0 c0 c2
  go_enter Tryz.func13, Tryz.ntmps13
  go_upto_region 1 with fail
  try rw [hW0]
  clear hW0
  have hbd : Below W0.heap.size W0 W0.drew := Below.drew (Below.refl _ _)
  have e1 : W0.drew.cell? ⟨w.heap.size, 1, none⟩ = some (.int .i64 ee) := c1
  go_region_held3 (fun w' => Below W0.heap.size W0 w' ∧ w'.cell? ⟨w.heap.size, 1, none⟩ = some (.int .i64 ee))
    (exact ⟨by assumption, by assumption⟩)
    ((go_at_call 25; (with_reducible refine (HKD.out _ (by assumption)).mono ?_); rintro e w8 ⟨rfl, hb⟩; have gB : Below W0.heap.size W0 w8 := HTR.out _ _ (by assumption) hb; have gC : w8.cell? ⟨w.heap.size, 1, none⟩ = some (.int .i64 ee) := (HC1.out _ gB).1; clear hb))
  all_goals
    have HB8 := Lib.hid gB
    clear e1 hbd c1 gB
    go_upto_region 5 with (go_at_call 26; (with_reducible refine (HWH.out _ HB8.out).mono ?_); rintro e w9 ⟨g, c, rfl, hcell, hb⟩; have HB9 := Lib.hid (HTR.out _ _ HB8.out hb); have HCELL := Lib.hid hcell; clear hb hcell)
    have hbd9 : Below W0.heap.size W0 w9.drew := Below.drew HB9.out
    have hbx9 : Below w9.heap.size w9 w9.drew := Below.drew (Below.refl _ _)
    have f2 : w9.drew.cell? ⟨w.heap.size, 2, none⟩ = some (.int .i64 p) := (HC1.out _ hbd9).2
    have fw : w9.drew.cell? ⟨g, 0, none⟩ = some (.string ⟨#[116, 97, 98, 108, 101]⟩) := HCELL.out
    have HCG := Lib.hid (fun (wb : World) (hb : Below w9.heap.size w9 wb) => show Below W0.heap.size W0 wb ∧ wb.cell? ⟨w.heap.size, 2, none⟩ = some (.int .i64 p) ∧ wb.cell? ⟨g, 0, none⟩ = some (.string ⟨#[116, 97, 98, 108, 101]⟩) from ⟨HTR.out _ _ HB9.out hb, (HC1.out _ (HTR.out _ _ HB9.out hb)).2, (hb.cell (p := ⟨g, 0, none⟩) (lt_of_cellW HCELL.out)).trans HCELL.out⟩)
    have HPX := Lib.hid (fun w5 (hb : Below w9.heap.size w9 w5) => HPL.out w5 (HTR.out _ _ HB9.out hb))
    clear gC hbd9
    go_region_held3 (fun w' => Below w9.heap.size w9 w' ∧ w'.cell? ⟨w.heap.size, 2, none⟩ = some (.int .i64 p) ∧ w'.cell? ⟨g, 0, none⟩ = some (.string ⟨#[116, 97, 98, 108, 101]⟩))
      (exact ⟨by assumption, by assumption, by assumption⟩)
      ((go_at_call 27; (with_reducible refine (HPX.out _ (by assumption)).mono ?_); rintro e wa ⟨rfl, hb⟩; have gX : Below w9.heap.size w9 wa := hbx9.trans (hb.mono hbx9.size); obtain ⟨gY, gC2, gC3⟩ := HCG.out _ gX; clear hb))
    all_goals
      go_wp2_with fail
      go_ret
      exact ⟨rfl, HB0.out.trans (gY.mono HB0.out.size)⟩

set_option maxRecDepth 100000 in
set_option maxHeartbeats 4000000 in
theorem looks_ok {b W K : Nat} {L : List ByteArray} (a : Option Addr) (c : Nat) (w : World) (h : TabL w b W K L) (hv : RowW w (.slice a L.length c) L) (hl : L.length ≤ 100) :
    Calls Tryz.prog 13 #[.pointer (some ⟨b, 0, none⟩), .nilIface, .agg #[.slice a L.length c, .int .i64 0, .int .i64 0], .int .i64 (K : Int)] w fun e w' => e = .returned (.bool true) ∧ Below w.heap.size w w' := by
  obtain ⟨W0, hW0⟩ : ∃ W0, w.alloc (.cells #[.slice a L.length c, .int .i64 0, .int .i64 0] 42) = W0 := ⟨_, rfl⟩
  have hb0 : Below w.heap.size w W0 := by rw [← hW0]; exact (Below.refl _ w).alloc (Nat.le_refl _) _
  have hR0 : W0.heap[w.heap.size]? = some (gotObj (.slice a L.length c) 0 0) := by rw [← hW0]; exact World.alloc_heap_new w _
  obtain ⟨c0, c1, c2⟩ := got_cells hR0
  have HC1 := Lib.hid (fun (wb : World) (hb : Below W0.heap.size W0 wb) => show wb.cell? ⟨w.heap.size, 0, none⟩ = some (.slice a L.length c) ∧ wb.cell? ⟨w.heap.size, 1, none⟩ = some (.int .i64 0) from ⟨(hb.cell (p := ⟨w.heap.size, 0, none⟩) (lt_of_cellW c0)).trans c0, (hb.cell (p := ⟨w.heap.size, 1, none⟩) (lt_of_cellW c1)).trans c1⟩)
  have HTR := Lib.hid (fun (wa wb : World) (h1 : Below W0.heap.size W0 wa) (h2 : Below wa.heap.size wa wb) => h1.trans (h2.mono h1.size))
  have HKD := Lib.hid (fun (w5 : World) => kind_nil w5)
  have HT := Lib.hid (fun (wb : World) (hb : Below W0.heap.size W0 wb) => (h.below hb0).below hb)
  have HV := Lib.hid (fun (wb : World) (hb : Below W0.heap.size W0 wb) => (hv.below hb0).below hb)
  have HSZ := Lib.hid h.sz
  have hW255 := h.wid.w255
  have HKW := Lib.hid (fun (x : ByteArray) (hx : x ∈ L) => show K ≤ x.size from by rw [h.sz x hx]; exact h.wid.kW)
  have HB0 := Lib.hid hb0
  have k0 : (0 : Int) ≤ (K : Int) := by omega
  clear h hv hb0 hR0 c0 c2
  go_enter Tryz.func13, Tryz.ntmps13
  go_upto_region 1 with fail
  try rw [hW0]
  clear hW0
  have hbd : Below W0.heap.size W0 W0.drew := Below.drew (Below.refl _ _)
  have e1 : W0.drew.cell? ⟨w.heap.size, 1, none⟩ = some (.int .i64 0) := c1
  go_region_held3 (fun w' => Below W0.heap.size W0 w' ∧ w'.cell? ⟨w.heap.size, 1, none⟩ = some (.int .i64 0))
    (exact ⟨by assumption, by assumption⟩)
    ((go_at_call 25; (with_reducible refine (HKD.out _).mono ?_); rintro e w8 ⟨rfl, hb⟩; have gB : Below W0.heap.size W0 w8 := HTR.out _ _ (by assumption) hb; have gC : w8.cell? ⟨w.heap.size, 1, none⟩ = some (.int .i64 0) := (HC1.out _ gB).2; clear hb))
  all_goals
    have HB8 := Lib.hid gB
    clear e1 hbd c1 gB
    go_wp2_with fail
    clear gC
    go_loopw [10, 11, 12, 13, 14, 15] (fun all i _ _ _ _ wr => ∃ k : Nat, k ≤ L.length ∧ i = .int .i64 (k : Int) ∧ all = .string (catW (L.take k)) ∧ Hid (Below W0.heap.size W0 wr)) (fun _ i _ _ _ _ _ => L.length + 1 - (intOf i).toNat)
    case atStart => exact ⟨0, Nat.zero_le _, rfl, rfl, HB8⟩
    case round =>
      obtain ⟨k, hk, rfl, rfl, HBr⟩ := hrel
      obtain ⟨d0, d1⟩ := HC1.out _ HBr.out
      by_cases hlt : k < L.length
      · have hd : decide (k < L.length) = true := decide_eq_true hlt
        obtain ⟨x, hx⟩ : ∃ x, L[k]? = some x := ⟨_, List.getElem?_eq_getElem hlt⟩
        have j0 : (0 : Int) ≤ (k : Int) := by omega
        have j1 : (k : Int) < (L.length : Int) := by omega
        have x0 : (K : Int) ≤ (x.size : Int) := by have := HKW.out x (mem_of_at hx); omega
        have hq : ¬ 9223372036854775807 < (catW (L.take k)).size + x.size := by
          rw [cat_size (W := W) (fun y hy => HSZ.out y (List.mem_of_mem_take hy)), HSZ.out x (mem_of_at hx)]
          have : (L.take k).length * W ≤ 100 * 255 := Nat.mul_le_mul (by rw [List.length_take]; omega) hW255
          omega
        have HST := Lib.hid (show catW (L.take k) ++ x = catW (L.take (k + 1)) by rw [take_nextW hx, cat_snoc])
        have HRO := Lib.hid (fun (wb : World) (hb : Below W0.heap.size W0 wb) => (HT.out wb hb).row hx)
        have HFO := Lib.hid (fun (wb : World) (hb : Below W0.heap.size W0 wb) => (HT.out wb hb).found hx)
        obtain ⟨ao4, cap4, e4, hc4⟩ := HV.out _ HBr.out
        injection e4 with e41 _ e43
        subst e41
        subst e43
        obtain ⟨g0, o0, rfl, -⟩ := hc4 k x hx
        have HCX := Lib.hid (fun (wb : World) (hb : Below W0.heap.size W0 wb) => show wb.cell? ⟨g0, o0 + k, none⟩ = some (.string x) from by
          obtain ⟨a5, c5, e5, h5⟩ := HV.out wb hb
          injection e5 with e51 _ e53
          subst e51
          obtain ⟨g1, o1, hga, cy⟩ := h5 k x hx
          cases hga
          exact cy)
        have hxx : (x.toList == x.toList) = true := beq_self_eq_true _
        have hxx2 : (x.toList != x.toList) = false := by rw [bne, hxx]; rfl
        clear hc4 hx
        generalize catW (L.take k) = cc at *
        go_wp2_with (first
          | (go_at_call 23; (with_reducible refine (HRO.out _ HBr.out).mono ?_); rintro e w7 ⟨rfl, q7, hw7⟩; have HB7 := Lib.hid (show Below W0.heap.size W0 w7 from by rw [hw7]; exact below_drewN HBr.out _); obtain ⟨d2, d3⟩ := HC1.out _ HB7.out; have cx := HCX.out _ HB7.out; clear hw7)
          | (go_at_call 11; (with_reducible refine (HFO.out _ HB7.out).mono ?_); rintro e w9 ⟨rfl, hb⟩; have HB9 := Lib.hid (HTR.out _ _ HB7.out hb); obtain ⟨d4, d5⟩ := HC1.out _ HB9.out; have cx9 := HCX.out _ HB9.out; clear hb))
        go_roundw
        case rel => exact ⟨k + 1, by omega, by go_num, by rw [HST.out], HB9⟩
        case measure => simp [intOf]; omega
      · obtain rfl : k = L.length := by omega
        have hd : decide (L.length < L.length) = false := decide_eq_false (by omega)
        rw [List.take_of_length_le (Nat.le_refl _)]
        have HLOW := Lib.hid (fun (wb : World) (hb : Below W0.heap.size W0 wb) => (HT.out wb hb).rowOut (-1) (.inl (by decide)))
        have HHIGH := Lib.hid (fun (wb : World) (hb : Below W0.heap.size W0 wb) => (HT.out wb hb).rowOut (L.length : Int) (.inr (Int.le_refl _)))
        have hcc : ((catW L).toList == (catW L).toList) = true := beq_self_eq_true _
        have hll : ((L.length : Int) == (L.length : Int)) = true := beq_self_eq_true _
        go_upto_region 17 with (first
          | (go_at_call 23; (with_reducible refine (HLOW.out _ HBr.out).mono ?_); rintro e w7 ⟨rfl, q7, hw7⟩; have HB7 := Lib.hid (show Below W0.heap.size W0 w7 from by rw [hw7]; exact below_drewN HBr.out _); obtain ⟨d2, d3⟩ := HC1.out _ HB7.out; clear hw7)
          | (go_at_call 23; (with_reducible refine (HHIGH.out _ HB7.out).mono ?_); rintro e w9 ⟨rfl, q9, hw9⟩; have HB9 := Lib.hid (show Below W0.heap.size W0 w9 from by rw [hw9]; exact below_drewN HB7.out _); obtain ⟨d4, d5⟩ := HC1.out _ HB9.out; clear hw9))
        have HLN := Lib.hid (fun q' => (HT.out (w9.drewN q') (below_drewN HB9.out q')).len)
        have HBY := Lib.hid (fun q' => ((HT.out (w9.drewN q') (below_drewN HB9.out q')).bytes).mono (R' := fun e w' => e = .returned (.string (catW L)) ∧ w' = w9.drewN q') fun e w' ⟨h1, h2⟩ => ⟨h1, h2.symm⟩)
        go_quiet (first
          | (go_at_call 28; exact Calls.quiet_of (HLN.out _))
          | (go_at_call 12; exact Calls.quiet_of_same (HBY.out _)))
        go_wp2_with fail
        go_ret
        exact ⟨rfl, below_drewN (HB0.out.trans (HB9.out.mono HB0.out.size)) _⟩
end Go.Proofs.YtbkbnkpgldemkaaGreatDoor
