/-
  GrandFinds: it returns true.
-/
import Derived.Test.YtaeaknpkjgacdaaDoorECasesLaw
namespace Go.Proofs.YtaeaknpkjgacdaaDoor
open Go Go.RowKit

theorem three_cells {w : World} {b : Nat} {x y z : Value} {t : TypeId} (h : w.heap[b]? = some (.cells #[x, y, z] t (0, 0))) : w.cell? ⟨b, 0, none⟩ = some x ∧ w.cell? ⟨b, 1, none⟩ = some y ∧ w.cell? ⟨b, 2, none⟩ = some z := by
  simp [World.cell?, h]

theorem wrap64_id (z : Int) (h0 : -9223372036854775808 ≤ z) (h1 : z ≤ 9223372036854775807) : IntKind.i64.wrap z = z := IntWalk.i64_in _ ⟨h0, h1⟩
theorem conv_one5 (w : World) (c : UInt8) : (convert 28 9 (.slice (some ⟨w.heap.size, 0, none⟩) 1 1)).run Tryd.prog (w.alloc (.cells #[.int .u8 c.toNat] 5)) = .ok (.string (ofL [c])) (w.alloc (.cells #[.int .u8 c.toNat] 5)) := by
  refine run_convert_bytes_back _ _ _ 5 _ 1 [c] Tryd.underlying28 Tryd.underlying5 Tryd.underlying9 ?_
  intro j hj
  obtain rfl : j = 0 := by simpa using hj
  have e : ((⟨w.heap.size, 0, none⟩ : Addr).add 0) = ⟨w.heap.size, 0, none⟩ := by simp [Addr.add]
  rw [e, World.cell?_alloc_at _ _ _ _ (by simp)]
  simp
theorem slice_to (s : ByteArray) (k : Nat) (h : k ≤ s.size) (w : World) :
    (Instr.slice 9 (.string s) none (some (.int .i64 (k : Int))) none).run Tryd.prog w = .ok (.string (s.extract 0 k)) w := by
  have h0 : (0 : Int) ≤ (k : Int) := by omega
  have h1 : (k : Int) ≤ (s.size : Int) := by omega
  simp [Instr.slice, go_sem, h0, h1]
theorem slice_from (s : ByteArray) (k : Nat) (h : k + 1 ≤ s.size) (w : World) :
    (Instr.slice 9 (.string s) (some (.int .i64 ((k : Int) + 1))) none none).run Tryd.prog w = .ok (.string (s.extract (k + 1) s.size)) w := by
  have h0 : (0 : Int) ≤ (k : Int) + 1 := by omega
  have h1 : (k : Int) + 1 ≤ (s.size : Int) := by omega
  simp [Instr.slice, go_sem, h0, h1]
theorem keep_alloc {w W : World} {B : Nat} {o : Obj} {v : Value} (h : Below w.heap.size w W) (hc : W.cell? ⟨B, 2, none⟩ = some v) : Below w.heap.size w (W.alloc o) ∧ (W.alloc o).cell? ⟨B, 2, none⟩ = some v :=
  ⟨h.alloc h.size o, (((Below.refl W.heap.size W).alloc (Nat.le_refl _) o).cell (p := ⟨B, 2, none⟩) (lt_of_cellE hc)).trans hc⟩

set_option maxHeartbeats 4000000 in
theorem finds_law (s0 : ByteArray) (n q0 q1 q2 : Int) (w : World) (hs0 : s0.size ≤ maxLen) (hg : GL w) :
    Calls Tryd.prog 3 #[.string s0, .int .i64 n, .agg #[.int .i64 q0, .int .i64 q1, .int .i64 q2]] w fun e w' => e = .returned (.bool true) ∧ Below w.heap.size w w' := by
  obtain ⟨i0, hi, hz0, hz1, hz2⟩ := info_parts byteInfo
  have hgs := hg.size
  unfold maxLen at hs0
  have AW := Lib.hid (fun w5 (hb5 : Below w.heap.size w w5) => (awake5_any w5 (hg.below hb5 hgs)).mono (R' := fun e w6 => e = .returned (.bool true) ∧ Below w5.heap.size w5 w6) fun e w6 ⟨p, q⟩ => ⟨p, q⟩)
  obtain ⟨k, hk⟩ : ∃ k, restV n 26 = k := ⟨_, rfl⟩
  have hk26 : k < 26 := hk ▸ restV_lt n 26 (by omega)
  have RS := Lib.hid (fun w5 => show Calls Tryd.prog 11 #[.int .i64 n, .int .i64 26] w5 fun e w' => e = .returned (.int .i64 (k : Int)) ∧ w5 = w' by
    have := rest5_any n 26 w5 (by omega) (by omega)
    rwa [hk] at this)
  have FD := Lib.hid (fun z w5 (hz : z.size ≤ 100) (hb5 : Below w.heap.size w w5) => (finds_any z w5 hz (hg.below hb5 hgs)).mono (R' := fun e w6 => e = .returned (.bool true) ∧ Below w5.heap.size w5 w6) fun e w6 ⟨p, q⟩ => ⟨p, q⟩)
  have hsz := name_size k hk26
  have N5 := Lib.hid (fun w5 => name5_any k hk26 w5)
  have HST := Lib.hid (fun b w5 (hl : LG b w5) => hl k hk26)
  have hk0 : (0 : Int) ≤ (k : Int) := by omega
  have hk1 : (k : Int) < 26 := by omega
  clear hg hk hk26
  obtain ⟨s, hs⟩ : ∃ s, nameG k = s := ⟨_, rfl⟩
  rw [hs] at N5 hsz
  clear hs
  generalize starG k = st at *
  obtain ⟨W0, hW0⟩ : ∃ W0, w.alloc (.cells #[.int .i64 q0, .int .i64 q1, .int .i64 q2] 22) = W0 := ⟨_, rfl⟩
  have hh0 : W0.heap[w.heap.size]? = some (.cells #[.int .i64 q0, .int .i64 q1, .int .i64 q2] 22 (0, 0)) := by rw [← hW0]; exact World.alloc_heap_new w _
  have hb0 : Below w.heap.size w W0 := by rw [← hW0]; exact (Below.refl _ w).alloc (Nat.le_refl _) _
  have hz0' : w.heap.size < W0.heap.size := by rw [← hW0]; simp
  go_enter Tryd.func3, Tryd.ntmps3
  go_wp2_with fail
  clear hW0
  refine (AW.out _ hb0).mono ?_
  rintro e w1 ⟨rfl, hb1⟩
  have hh1 := (hb1.block _ hz0').trans hh0
  have hB1 := hb0.trans (hb1.mono hb0.size)
  have hz1' := Nat.lt_of_lt_of_le hz0' hb1.size
  clear hh0 hb0 hz0' hb1 AW
  have HH1 := Lib.hid hh1
  clear hh1
  by_cases h20 : 20 < s0.size
  case' pos =>
    have a1 : (20 : Int) < (s0.size : Int) := by omega
    have a2 : (20 : Int) ≤ (s0.size : Int) := by omega
    go_wp2_with fail
    have hts : (s0.extract 0 20).size ≤ 20 := by rw [ByteArray.size_extract]; omega
    generalize s0.extract 0 20 = t0 at *
  case' neg =>
    have a1 : ¬ (20 : Int) < (s0.size : Int) := by omega
    go_wp2_with fail
    have hts : s0.size ≤ 20 := by omega
    generalize s0 = t0 at *
  all_goals
    refine (list_any w1).mono ?_
    rintro e w2 ⟨rfl, hl2, hb2, hz2⟩
    have hh2 := (hb2.block _ hz1').trans HH1.out
    have hB2 := hB1.trans (hb2.mono hB1.size)
    have hz2' := Nat.lt_of_lt_of_le hz1' hb2.size
    have hst := HST.out _ _ hl2
    clear hl2 hb2 hz2
    have HH2 := Lib.hid hh2
    clear hh2
    go_wp2_with (first
      | (go_at_call 11; (with_reducible refine (RS.out _).mono ?_); rintro e w5 ⟨rfl, rfl⟩)
      | (go_at_call 10; (with_reducible refine (N5.out _).mono ?_); rintro e w5 ⟨rfl, rfl⟩))
    go_loopw [10, 11] (fun v i wr => ∃ j : Nat, j ≤ s.size ∧ i = .int .i64 (j : Int) ∧ CsI s w2 j v wr) (fun _ i _ => 12 - (intOf i).toNat)
    case atStart => exact ⟨0, Nat.zero_le _, rfl, CsI.start⟩
    case round =>
      obtain ⟨j, hj, rfl, HR⟩ := hrel
      obtain ⟨_, _, _, hBr⟩ := id HR
      obtain ⟨c0, c1, c2⟩ := three_cells ((hBr.block _ hz2').trans HH2.out)
      by_cases hlt : j < s.size
      · have hlti : (j : Int) < (s.size : Int) := by omega
        have hsl := slice_one s j hlt
        have hc1 := one_size s j hlt
        have hcb := bs_one s j hlt
        have h0 : (0 : Int) ≤ (j : Int) := by omega
        have h11 : (j : Int) ≤ 10 := by omega
        have UC := Lib.hid (fun w5 => (upper_ref (s.extract j (j + 1)) w5 (by rw [hc1]; omega)))
        have hu1 : (upS (s.extract j (j + 1))).size = 1 := by rw [size_upS, hc1]
        have hub : bs (upS (s.extract j (j + 1))) = [upB s[j]] := by unfold upS; rw [bs_ofL, hcb]; rfl
        generalize upS (s.extract j (j + 1)) = uc at *
        generalize s.extract j (j + 1) = c at *
        have hc0 : 0 < c.size := by omega
        have hu0 : 0 < uc.size := by omega
        have HD := Lib.hid (show lowB c[0] = lowB s[j] by rw [get_of_bs hcb hc0])
        have HU := Lib.hid (show lowB uc[0] = lowB s[j] by rw [get_of_bs hub hu0, low_up])
        obtain ⟨L, hL, hO, hB⟩ := id HR
        have HL := Lib.hid hL
        clear hcb hub hL hBr
        have hsz3 : w2.heap.size ≤ wr.heap.size := hB.size
        go_wp2_with (first
          | (go_at_call 12; (with_reducible refine (UC.out _).mono ?_); rintro e w5 ⟨rfl, hb5⟩; have hO := own_later hO hb5; have HR : CsI s w2 j _ w5 := ⟨L, HL.out, hO, hB.trans (hb5.mono hsz3)⟩; have hsz3 := Nat.le_trans hsz3 hb5.size)
          | (at_builtin; refine wpList_append_own _ rfl _ _ 28 rfl w2.heap.size 5 i0 (.int .u8 0) 1 1 Tryd.underlying28 hi hz0 hz1 hz2 rfl (by decide) _ j _ rfl (hO.alloc _) ⟨_, 0, none⟩ 1 1 _ rfl (by rfl) (cell_one_new _ _ _) (by intro u hu; simp at hu; subst hu; rfl) (by unfold maxLen; omega) (by omega) (by simp; omega) ?_; intro v' w6 hown1 hgrow _))
        · exact ⟨⟨j + 1, by omega, by go_num, HR.step hlt (by first | exact HU.out | exact HD.out) HL.out hown1 hgrow⟩, by simp [intOf]; omega⟩
        · exact ⟨⟨j + 1, by omega, by go_num, HR.step hlt (by first | exact HU.out | exact HD.out) HL.out hown1 hgrow⟩, by simp [intOf]; omega⟩
      · obtain rfl : j = s.size := by omega
        obtain ⟨L, hL, hO, hB⟩ := HR
        have hll : L.length = s.size := by
          have := congrArg List.length hL
          rw [List.length_map, List.length_map, List.length_take, size_bs] at this
          omega
        clear hL
        have hxs : (ofL L).size = s.size := by rw [size_ofL, hll]
        rw [← hll] at hO
        have hcv := conv_owned (w := wr) L hO
        have hBw := hB2.trans (hB.mono hB2.size)
        have hx3 : 3 ≤ (ofL L).size ∧ (ofL L).size ≤ 11 := by omega
        generalize ofL L = x at *
        have hin0 := restV_lt q1 s.size (by omega)
        have RS2 := Lib.hid (fun w5 => rest5_any q1 s.size w5 (by omega) (by omega))
        generalize restV q1 s.size = ii at *
        clear hO hB hBr
        go_wp2_with (first
          | (go_at_call 11; (with_reducible refine (RS2.out _).mono ?_); rintro e w5 ⟨rfl, rfl⟩))
        obtain ⟨c, hc⟩ : ∃ c : UInt8, (c.toNat : Int) = q2 % 256 := by
          refine ⟨UInt8.ofNat (q2 % 256).toNat, ?_⟩
          rw [UInt8.toNat_ofNat']
          omega
        have hcn : ∀ W : World, (convert 28 9 (.slice (some ⟨W.heap.size, 0, none⟩) 1 1)).run Tryd.prog (W.alloc (.cells #[.int .u8 (q2 % 256)] 5)) = .ok (.string (ofL [c])) (W.alloc (.cells #[.int .u8 (q2 % 256)] 5)) := by
          intro W
          rw [← hc]
          exact conv_one5 W c
        have hwq : IntKind.u8.wrap q2 = q2 % 256 := by simp [IntKind.wrap, IntKind.bits, IntKind.signed]
        have hsum : IntKind.i64.wrap ((ii : Int) + 1) = (ii : Int) + 1 := wrap64_id _ (by omega) (by omega)
        have hy : (ofL [c]).size = 1 := rfl
        have hs1 : ∀ W : World, (Instr.slice 9 (.string x) none (some (.int .i64 (ii : Int))) none).run Tryd.prog W = .ok (.string (x.extract 0 ii)) W := fun W => slice_to x ii (by omega) W
        have hs2 : ∀ W : World, (Instr.slice 9 (.string x) (some (.int .i64 ((ii : Int) + 1))) none none).run Tryd.prog W = .ok (.string (x.extract (ii + 1) x.size)) W := fun W => slice_from x ii (by omega) W
        have hx1 : (x.extract 0 ii).size ≤ 11 := by rw [ByteArray.size_extract]; omega
        have hx2 : (x.extract (ii + 1) x.size).size ≤ 11 := by rw [ByteArray.size_extract]; omega
        generalize x.extract 0 ii = x1 at *
        generalize x.extract (ii + 1) x.size = x2 at *
        generalize ofL [c] = y at *
        have hxl : x.size ≤ 11 := by omega
        have hp5 : ¬ (9223372036854775807 < x.size + 1) := by omega
        clear hxs
        have i1 : (0 : Int) ≤ (ii : Int) := by omega
        have i4 : (ii : Int) ≤ 10 := by omega
        have hp1 : ¬ (9223372036854775807 < x1.size + 1) := by omega
        have hp2 : ¬ (9223372036854775807 < (x1 ++ y).size + x2.size) := by rw [ByteArray.size_append]; omega
        have hp3 : ¬ (9223372036854775807 < x1.size + 1 + x2.size) := by omega
        have ha1 : (ByteArray.mk #[97]).size = 1 := rfl
        have hp4 : ¬ (9223372036854775807 < x.size + (ByteArray.mk #[97]).size) := by omega
        have hd := Below.drew hBw
        have cd2 : wr.drew.cell? ⟨w.heap.size, 2, none⟩ = some (.int .i64 q2) := c2
        have hd2 := And.intro hd cd2
        have F2 := Lib.hid (fun z w5 (hz : z.size ≤ 100) (hc5 : Below w.heap.size w w5 ∧ w5.cell? ⟨w.heap.size, 2, none⟩ = some (.int .i64 q2)) => (FD.out z w5 hz hc5.1).mono (R' := fun e w6 => e = .returned (.bool true) ∧ Below w.heap.size w w6 ∧ w6.cell? ⟨w.heap.size, 2, none⟩ = some (.int .i64 q2)) fun e w6 ⟨p, q⟩ => ⟨p, hc5.1.trans (q.mono hc5.1.size), (q.cell (p := ⟨w.heap.size, 2, none⟩) (lt_of_cellE hc5.2)).trans hc5.2⟩)
        have z1 : t0.size ≤ 100 := by omega
        have z2 : x.size ≤ 100 := by omega
        have z3 : (x1 ++ y ++ x2).size ≤ 100 := by rw [ByteArray.size_append, ByteArray.size_append]; omega
        have z4 : x1.size ≤ 100 := by omega
        have z5 : (x ++ ByteArray.mk #[97]).size ≤ 100 := by rw [ByteArray.size_append]; omega
        refine wp_region_noPanic ?_
        refine wp_region_held_drew (S := fun w' => Below w.heap.size w w' ∧ w'.cell? ⟨w.heap.size, 2, none⟩ = some (.int .i64 q2)) (by kernel_rfl) ?_ (fun hHeld => ?_)
        · exact hd2
        refine wpAnyH_take (i := 0) (v := ?_) rfl (by kernel_rfl) (by kernel_rfl) (by kernel_rfl) (fun _ _ _ h => h) (Or.inl ⟨by rfl, ?_⟩) (by assumption) ?_
        rotate_left 1
        · intro w9 hSw
          go_simp
          try with_reducible rfl
        simp only [Act.put, List.getElem_toArray, List.getElem_cons_zero, List.setIfInBounds_toArray, List.set_cons_zero, List.set_cons_succ]
        refine wpAnyH_take (i := 1) (v := ?_) rfl (by kernel_rfl) (by kernel_rfl) (by kernel_rfl) (fun _ _ _ h => h) (Or.inl ⟨by rfl, ?_⟩) (by assumption) ?_
        rotate_left 1
        · intro w9 hSw
          go_simp
          try with_reducible rfl
        simp only [Act.put, List.getElem_toArray, List.getElem_cons_zero, List.getElem_cons_succ, List.setIfInBounds_toArray, List.set_cons_zero, List.set_cons_succ]
        refine wpAnyH_take (i := 2) (v := ?_) rfl (by kernel_rfl) (by kernel_rfl) (by kernel_rfl) (fun _ _ _ h => h) (Or.inl ⟨by rfl, ?_⟩) (by assumption) ?_
        rotate_left 1
        · intro w9 hSw
          go_simp
          try with_reducible rfl
        simp only [Act.put, List.getElem_toArray, List.getElem_cons_zero, List.getElem_cons_succ, List.setIfInBounds_toArray, List.set_cons_zero, List.set_cons_succ]
        refine wpAnyH_ready (rs := [3]) (by kernel_rfl) (by simp) ?_
        refine AllReadyH.cons rfl (fun K hK => ?_) AllReadyH.nil
        go_simp
        (go_at_call 13; (with_reducible refine (F2.out _ _ (by assumption) (by first | assumption | exact ⟨by assumption, by assumption⟩ | exact keep_alloc (by assumption) (by assumption))).mono ?_); rintro e w5 ⟨rfl, hb5, cc5⟩)
        dsimp only
        refine hK.out _ _ ?_ (fun hHeld => ?_)
        · first | exact ⟨by assumption, by assumption⟩ | exact keep_alloc (by assumption) (by assumption)
        clear hK K
        try simp only [Act.put, List.getElem_toArray, List.getElem_cons_zero, List.getElem_cons_succ, List.setIfInBounds_toArray, List.set_cons_zero, List.set_cons_succ]
        refine wpAnyH_take (i := 4) (v := ?_) rfl (by kernel_rfl) (by kernel_rfl) (by kernel_rfl) (fun _ _ _ h => h) (Or.inl ⟨by rfl, ?_⟩) (by assumption) ?_
        rotate_left 1
        · intro w9 hSw
          go_simp
          try with_reducible rfl
        simp only [Act.put, List.getElem_toArray, List.getElem_cons_zero, List.getElem_cons_succ, List.setIfInBounds_toArray, List.set_cons_zero, List.set_cons_succ]
        refine wpAnyH_take (i := 5) (v := ?_) rfl (by kernel_rfl) (by kernel_rfl) (by kernel_rfl) (fun _ _ _ h => h) (Or.inl ⟨by rfl, ?_⟩) (by assumption) ?_
        rotate_left 1
        · intro w9 hSw
          go_simp
          try with_reducible rfl
        simp only [Act.put, List.getElem_toArray, List.getElem_cons_zero, List.getElem_cons_succ, List.setIfInBounds_toArray, List.set_cons_zero, List.set_cons_succ]
        refine wpAnyH_take (i := 6) (v := ?_) rfl (by kernel_rfl) (by kernel_rfl) (by kernel_rfl) (fun _ _ _ h => h) (Or.inl ⟨by rfl, ?_⟩) (by assumption) ?_
        rotate_left 1
        · intro w9 hSw
          go_simp
          try with_reducible rfl
        simp only [Act.put, List.getElem_toArray, List.getElem_cons_zero, List.getElem_cons_succ, List.setIfInBounds_toArray, List.set_cons_zero, List.set_cons_succ]
        refine wpAnyH_ready (rs := [7]) (by kernel_rfl) (by simp) ?_
        refine AllReadyH.cons rfl (fun K hK => ?_) AllReadyH.nil
        go_simp
        (go_at_call 13; (with_reducible refine (F2.out _ _ (by assumption) (by first | assumption | exact ⟨by assumption, by assumption⟩ | exact keep_alloc (by assumption) (by assumption))).mono ?_); rintro e w5 ⟨rfl, hb5, cc5⟩)
        dsimp only
        refine hK.out _ _ ?_ (fun hHeld => ?_)
        · first | exact ⟨by assumption, by assumption⟩ | exact keep_alloc (by assumption) (by assumption)
        clear hK K
        try simp only [Act.put, List.getElem_toArray, List.getElem_cons_zero, List.getElem_cons_succ, List.setIfInBounds_toArray, List.set_cons_zero, List.set_cons_succ]
        refine wpAnyH_take (i := 8) (v := ?_) rfl (by kernel_rfl) (by kernel_rfl) (by kernel_rfl) (fun _ _ _ h => h) (Or.inl ⟨by rfl, ?_⟩) (by assumption) ?_
        rotate_left 1
        · intro w9 hSw
          go_simp
          try with_reducible rfl
        simp only [Act.put, List.getElem_toArray, List.getElem_cons_zero, List.getElem_cons_succ, List.setIfInBounds_toArray, List.set_cons_zero, List.set_cons_succ]
        refine wpAnyH_take (i := 9) (v := ?_) rfl (by kernel_rfl) (by kernel_rfl) (by kernel_rfl) (fun _ _ _ h => h) (Or.inl ⟨by rfl, ?_⟩) (by assumption) ?_
        rotate_left 1
        · intro w9 hSw
          go_simp
          try with_reducible rfl
        simp only [Act.put, List.getElem_toArray, List.getElem_cons_zero, List.getElem_cons_succ, List.setIfInBounds_toArray, List.set_cons_zero, List.set_cons_succ]
        refine wpAnyH_take (i := 10) (v := ?_) rfl (by kernel_rfl) (by kernel_rfl) (by kernel_rfl) (fun _ _ _ h => h) (Or.inl ⟨by rfl, ?_⟩) (by assumption) ?_
        rotate_left 1
        · intro w9 hSw
          go_simp
          try with_reducible rfl
        simp only [Act.put, List.getElem_toArray, List.getElem_cons_zero, List.getElem_cons_succ, List.setIfInBounds_toArray, List.set_cons_zero, List.set_cons_succ]
        refine wpAnyH_take (i := 11) (v := ?_) rfl (by kernel_rfl) (by kernel_rfl) (by kernel_rfl) (fun _ _ _ h => h) (Or.inl ⟨by rfl, ?_⟩) (by assumption) ?_
        rotate_left 1
        · intro w9 hSw
          go_simp
          try with_reducible rfl
        simp only [Act.put, List.getElem_toArray, List.getElem_cons_zero, List.getElem_cons_succ, List.setIfInBounds_toArray, List.set_cons_zero, List.set_cons_succ]
        refine wpAnyH_take (i := 12) (v := ?_) rfl (by kernel_rfl) (by kernel_rfl) (by kernel_rfl) (fun _ _ _ h => h) (Or.inl ⟨by rfl, ?_⟩) (by assumption) ?_
        rotate_left 1
        · intro w9 hSw
          go_simp
          try with_reducible rfl
        simp only [Act.put, List.getElem_toArray, List.getElem_cons_zero, List.getElem_cons_succ, List.setIfInBounds_toArray, List.set_cons_zero, List.set_cons_succ]
        refine wpAnyH_take (i := 13) (v := ?_) rfl (by kernel_rfl) (by kernel_rfl) (by kernel_rfl) (fun _ _ _ h => h) (Or.inl ⟨by rfl, ?_⟩) (by assumption) ?_
        rotate_left 1
        · intro w9 hSw
          go_simp
          try with_reducible rfl
        simp only [Act.put, List.getElem_toArray, List.getElem_cons_zero, List.getElem_cons_succ, List.setIfInBounds_toArray, List.set_cons_zero, List.set_cons_succ]
        refine wpAnyH_take (i := 14) (v := ?_) rfl (by kernel_rfl) (by kernel_rfl) (by kernel_rfl) (fun _ _ _ h => h) (Or.inl ⟨by rfl, ?_⟩) (by assumption) ?_
        rotate_left 1
        · intro w9 hSw
          go_simp
          try with_reducible rfl
        simp only [Act.put, List.getElem_toArray, List.getElem_cons_zero, List.getElem_cons_succ, List.setIfInBounds_toArray, List.set_cons_zero, List.set_cons_succ]
        refine wpAnyH_take (i := 15) (v := ?_) rfl (by kernel_rfl) (by kernel_rfl) (by kernel_rfl) (fun _ _ _ h => h) (Or.inl ⟨by rfl, ?_⟩) (by assumption) ?_
        rotate_left 1
        · intro w9 hSw
          go_simp
          try with_reducible rfl
        simp only [Act.put, List.getElem_toArray, List.getElem_cons_zero, List.getElem_cons_succ, List.setIfInBounds_toArray, List.set_cons_zero, List.set_cons_succ]
        refine wpAnyH_take (i := 19) (v := ?_) rfl (by kernel_rfl) (by kernel_rfl) (by kernel_rfl) (fun _ _ _ h => h) (Or.inl ⟨by rfl, ?_⟩) (by assumption) ?_
        rotate_left 1
        · intro w9 hSw
          go_simp
          try with_reducible rfl
        simp only [Act.put, List.getElem_toArray, List.getElem_cons_zero, List.getElem_cons_succ, List.setIfInBounds_toArray, List.set_cons_zero, List.set_cons_succ]
        refine wpAnyH_take (i := 20) (v := ?_) rfl (by kernel_rfl) (by kernel_rfl) (by kernel_rfl) (fun _ _ _ h => h) (Or.inl ⟨by rfl, ?_⟩) (by assumption) ?_
        rotate_left 1
        · intro w9 hSw
          go_simp
          try with_reducible rfl
        simp only [Act.put, List.getElem_toArray, List.getElem_cons_zero, List.getElem_cons_succ, List.setIfInBounds_toArray, List.set_cons_zero, List.set_cons_succ]
        refine wpAnyH_take (i := 21) (v := ?_) rfl (by kernel_rfl) (by kernel_rfl) (by kernel_rfl) (fun _ _ _ h => h) (Or.inl ⟨by rfl, ?_⟩) (by assumption) ?_
        rotate_left 1
        · intro w9 hSw
          go_simp
          try with_reducible rfl
        simp only [Act.put, List.getElem_toArray, List.getElem_cons_zero, List.getElem_cons_succ, List.setIfInBounds_toArray, List.set_cons_zero, List.set_cons_succ]
        refine wpAnyH_take (i := 22) (v := ?_) rfl (by kernel_rfl) (by kernel_rfl) (by kernel_rfl) (fun _ _ _ h => h) (Or.inl ⟨by rfl, ?_⟩) (by assumption) ?_
        rotate_left 1
        · intro w9 hSw
          go_simp
          try with_reducible rfl
        simp only [Act.put, List.getElem_toArray, List.getElem_cons_zero, List.getElem_cons_succ, List.setIfInBounds_toArray, List.set_cons_zero, List.set_cons_succ]
        refine wpAnyH_ready (rs := [16]) (by kernel_rfl) (by simp) ?_
        refine AllReadyH.cons rfl (fun K hK => ?_) AllReadyH.nil
        go_simp
        refine hK.out _ _ ?_ (fun hHeld => ?_)
        · first | exact ⟨by assumption, by assumption⟩ | exact keep_alloc (by assumption) (by assumption)
        clear hK K
        try simp only [Act.put, List.getElem_toArray, List.getElem_cons_zero, List.getElem_cons_succ, List.setIfInBounds_toArray, List.set_cons_zero, List.set_cons_succ]
        refine wpAnyH_ready (rs := [17]) (by kernel_rfl) (by simp) ?_
        refine AllReadyH.cons rfl (fun K hK => ?_) AllReadyH.nil
        go_simp
        refine hK.out _ _ ?_ (fun hHeld => ?_)
        · first | exact ⟨by assumption, by assumption⟩ | exact keep_alloc (by assumption) (by assumption)
        clear hK K
        try simp only [Act.put, List.getElem_toArray, List.getElem_cons_zero, List.getElem_cons_succ, List.setIfInBounds_toArray, List.set_cons_zero, List.set_cons_succ]
        refine wpAnyH_take (i := 18) (v := ?_) rfl (by kernel_rfl) (by kernel_rfl) (by kernel_rfl) (fun _ _ _ h => h) (Or.inl ⟨by rfl, ?_⟩) (by assumption) ?_
        rotate_left 1
        · intro w9 hSw
          go_simp
          try with_reducible rfl
        simp only [Act.put, List.getElem_toArray, List.getElem_cons_zero, List.getElem_cons_succ, List.setIfInBounds_toArray, List.set_cons_zero, List.set_cons_succ]
        refine wpAnyH_take (i := 23) (v := ?_) rfl (by kernel_rfl) (by kernel_rfl) (by kernel_rfl) (fun _ _ _ h => h) (Or.inl ⟨by rfl, ?_⟩) (by assumption) ?_
        rotate_left 1
        · intro w9 hSw
          go_simp
          try with_reducible rfl
        simp only [Act.put, List.getElem_toArray, List.getElem_cons_zero, List.getElem_cons_succ, List.setIfInBounds_toArray, List.set_cons_zero, List.set_cons_succ]
        refine wpAnyH_ready (rs := [24]) (by kernel_rfl) (by simp) ?_
        refine AllReadyH.cons rfl (fun K hK => ?_) AllReadyH.nil
        go_simp
        (go_at_call 13; (with_reducible refine (F2.out _ _ (by assumption) (by first | assumption | exact ⟨by assumption, by assumption⟩ | exact keep_alloc (by assumption) (by assumption))).mono ?_); rintro e w5 ⟨rfl, hb5, cc5⟩)
        dsimp only
        refine hK.out _ _ ?_ (fun hHeld => ?_)
        · first | exact ⟨by assumption, by assumption⟩ | exact keep_alloc (by assumption) (by assumption)
        clear hK K
        try simp only [Act.put, List.getElem_toArray, List.getElem_cons_zero, List.getElem_cons_succ, List.setIfInBounds_toArray, List.set_cons_zero, List.set_cons_succ]
        refine wpAnyH_take (i := 25) (v := ?_) rfl (by kernel_rfl) (by kernel_rfl) (by kernel_rfl) (fun _ _ _ h => h) (Or.inl ⟨by rfl, ?_⟩) (by assumption) ?_
        rotate_left 1
        · intro w9 hSw
          go_simp
          try with_reducible rfl
        simp only [Act.put, List.getElem_toArray, List.getElem_cons_zero, List.getElem_cons_succ, List.setIfInBounds_toArray, List.set_cons_zero, List.set_cons_succ]
        refine wpAnyH_take (i := 26) (v := ?_) rfl (by kernel_rfl) (by kernel_rfl) (by kernel_rfl) (fun _ _ _ h => h) (Or.inl ⟨by rfl, ?_⟩) (by assumption) ?_
        rotate_left 1
        · intro w9 hSw
          go_simp
          try with_reducible rfl
        simp only [Act.put, List.getElem_toArray, List.getElem_cons_zero, List.getElem_cons_succ, List.setIfInBounds_toArray, List.set_cons_zero, List.set_cons_succ]
        refine wpAnyH_take (i := 27) (v := ?_) rfl (by kernel_rfl) (by kernel_rfl) (by kernel_rfl) (fun _ _ _ h => h) (Or.inl ⟨by rfl, ?_⟩) (by assumption) ?_
        rotate_left 1
        · intro w9 hSw
          go_simp
          try with_reducible rfl
        simp only [Act.put, List.getElem_toArray, List.getElem_cons_zero, List.getElem_cons_succ, List.setIfInBounds_toArray, List.set_cons_zero, List.set_cons_succ]
        refine wpAnyH_take (i := 28) (v := ?_) rfl (by kernel_rfl) (by kernel_rfl) (by kernel_rfl) (fun _ _ _ h => h) (Or.inl ⟨by rfl, ?_⟩) (by assumption) ?_
        rotate_left 1
        · intro w9 hSw
          go_simp
          try with_reducible rfl
        simp only [Act.put, List.getElem_toArray, List.getElem_cons_zero, List.getElem_cons_succ, List.setIfInBounds_toArray, List.set_cons_zero, List.set_cons_succ]
        refine wpAnyH_take (i := 29) (v := ?_) rfl (by kernel_rfl) (by kernel_rfl) (by kernel_rfl) (fun _ _ _ h => h) (Or.inl ⟨by rfl, ?_⟩) (by assumption) ?_
        rotate_left 1
        · intro w9 hSw
          go_simp
          try with_reducible rfl
        simp only [Act.put, List.getElem_toArray, List.getElem_cons_zero, List.getElem_cons_succ, List.setIfInBounds_toArray, List.set_cons_zero, List.set_cons_succ]
        refine wpAnyH_ready (rs := [30]) (by kernel_rfl) (by simp) ?_
        refine AllReadyH.cons rfl (fun K hK => ?_) AllReadyH.nil
        go_simp
        (go_at_call 13; (with_reducible refine (F2.out _ _ (by assumption) (by first | assumption | exact ⟨by assumption, by assumption⟩ | exact keep_alloc (by assumption) (by assumption))).mono ?_); rintro e w5 ⟨rfl, hb5, cc5⟩)
        dsimp only
        refine hK.out _ _ ?_ (fun hHeld => ?_)
        · first | exact ⟨by assumption, by assumption⟩ | exact keep_alloc (by assumption) (by assumption)
        clear hK K
        try simp only [Act.put, List.getElem_toArray, List.getElem_cons_zero, List.getElem_cons_succ, List.setIfInBounds_toArray, List.set_cons_zero, List.set_cons_succ]
        refine wpAnyH_take (i := 31) (v := ?_) rfl (by kernel_rfl) (by kernel_rfl) (by kernel_rfl) (fun _ _ _ h => h) (Or.inl ⟨by rfl, ?_⟩) (by assumption) ?_
        rotate_left 1
        · intro w9 hSw
          go_simp
          try with_reducible rfl
        simp only [Act.put, List.getElem_toArray, List.getElem_cons_zero, List.getElem_cons_succ, List.setIfInBounds_toArray, List.set_cons_zero, List.set_cons_succ]
        refine wpAnyH_take (i := 32) (v := ?_) rfl (by kernel_rfl) (by kernel_rfl) (by kernel_rfl) (fun _ _ _ h => h) (Or.inl ⟨by rfl, ?_⟩) (by assumption) ?_
        rotate_left 1
        · intro w9 hSw
          go_simp
          try with_reducible rfl
        simp only [Act.put, List.getElem_toArray, List.getElem_cons_zero, List.getElem_cons_succ, List.setIfInBounds_toArray, List.set_cons_zero, List.set_cons_succ]
        refine wpAnyH_take (i := 33) (v := ?_) rfl (by kernel_rfl) (by kernel_rfl) (by kernel_rfl) (fun _ _ _ h => h) (Or.inl ⟨by rfl, ?_⟩) (by assumption) ?_
        rotate_left 1
        · intro w9 hSw
          go_simp
          try with_reducible rfl
        simp only [Act.put, List.getElem_toArray, List.getElem_cons_zero, List.getElem_cons_succ, List.setIfInBounds_toArray, List.set_cons_zero, List.set_cons_succ]
        refine wpAnyH_take (i := 34) (v := ?_) rfl (by kernel_rfl) (by kernel_rfl) (by kernel_rfl) (fun _ _ _ h => h) (Or.inl ⟨by rfl, ?_⟩) (by assumption) ?_
        rotate_left 1
        · intro w9 hSw
          go_simp
          try with_reducible rfl
        simp only [Act.put, List.getElem_toArray, List.getElem_cons_zero, List.getElem_cons_succ, List.setIfInBounds_toArray, List.set_cons_zero, List.set_cons_succ]
        refine wpAnyH_ready (rs := [35]) (by kernel_rfl) (by simp) ?_
        refine AllReadyH.cons rfl (fun K hK => ?_) AllReadyH.nil
        go_simp
        (go_at_call 13; (with_reducible refine (F2.out _ _ (by assumption) (by first | assumption | exact ⟨by assumption, by assumption⟩ | exact keep_alloc (by assumption) (by assumption))).mono ?_); rintro e w5 ⟨rfl, hb5, cc5⟩)
        dsimp only
        refine hK.out _ _ ?_ (fun hHeld => ?_)
        · first | exact ⟨by assumption, by assumption⟩ | exact keep_alloc (by assumption) (by assumption)
        clear hK K
        try simp only [Act.put, List.getElem_toArray, List.getElem_cons_zero, List.getElem_cons_succ, List.setIfInBounds_toArray, List.set_cons_zero, List.set_cons_succ]
        refine wpAnyH_take (i := 36) (v := ?_) rfl (by kernel_rfl) (by kernel_rfl) (by kernel_rfl) (fun _ _ _ h => h) (Or.inl ⟨by rfl, ?_⟩) (by assumption) ?_
        rotate_left 1
        · intro w9 hSw
          go_simp
          try with_reducible rfl
        simp only [Act.put, List.getElem_toArray, List.getElem_cons_zero, List.getElem_cons_succ, List.setIfInBounds_toArray, List.set_cons_zero, List.set_cons_succ]
        refine wpAnyH_take (i := 37) (v := ?_) rfl (by kernel_rfl) (by kernel_rfl) (by kernel_rfl) (fun _ _ _ h => h) (Or.inl ⟨by rfl, ?_⟩) (by assumption) ?_
        rotate_left 1
        · intro w9 hSw
          go_simp
          try with_reducible rfl
        simp only [Act.put, List.getElem_toArray, List.getElem_cons_zero, List.getElem_cons_succ, List.setIfInBounds_toArray, List.set_cons_zero, List.set_cons_succ]
        refine wpAnyH_done (by kernel_rfl) ?_ _
        refine NoPanic.normal ?_
        go_wp2
        go_ret
        exact ⟨rfl, by assumption⟩
end Go.Proofs.YtaeaknpkjgacdaaDoor
