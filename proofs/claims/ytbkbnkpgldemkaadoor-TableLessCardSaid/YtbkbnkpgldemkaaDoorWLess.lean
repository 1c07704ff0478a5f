/-
  TableLess: its walk.
-/
import Derived.Test.YtbkbnkpgldemkaaDoorWList
import Derived.Test.YtbkbnkpgldemkaaDoorWArgs
namespace Go.Proofs.YtbkbnkpgldemkaaDoor
open Go Go.RowKit

set_option maxRecDepth 100000 in
set_option maxHeartbeats 4000000 in
theorem tableLess_law (v : Value) (l : List ByteArray) (a0 a1 a2 : Int) (w : World) (hv : TextsIn w v l) (hg : TypeLaid w) :
    Calls Tryd.prog 6 #[v, .agg #[.int .i64 a0, .int .i64 a1, .int .i64 a2]] w fun e w' => e = .returned (.bool true) ∧ Below w.heap.size w w' := by
  obtain ⟨hrow, hls⟩ := rowW_texts hv
  have hc0 := restW_lt a0 9 (by omega)
  obtain ⟨c0, hc0e⟩ : ∃ c, restW a0 9 = c := ⟨_, rfl⟩
  rw [hc0e] at hc0
  obtain ⟨W, hW⟩ : ∃ W, c0 + 1 = W := ⟨_, rfl⟩
  have hW1 : 1 ≤ W := by omega
  have hW9 : W ≤ 9 := by omega
  have hc1 := restW_lt a1 W hW1
  obtain ⟨c1, hc1e⟩ : ∃ c, restW a1 W = c := ⟨_, rfl⟩
  rw [hc1e] at hc1
  obtain ⟨K, hK⟩ : ∃ K, c1 + 1 = K := ⟨_, rfl⟩
  have hK1 : 0 < K := by omega
  have hKW : K ≤ W := by omega
  have RS0 := Lib.hid (fun w5 => show Calls Tryd.prog 8 #[.int .i64 a0, .int .i64 9] w5 fun e w' => e = .returned (.int .i64 (c0 : Int)) ∧ w5 = w' by
    have := rest11_any a0 9 w5 (by omega) (by omega)
    rwa [hc0e] at this)
  have RS1 := Lib.hid (fun w5 => show Calls Tryd.prog 8 #[.int .i64 a1, .int .i64 (W : Int)] w5 fun e w' => e = .returned (.int .i64 (c1 : Int)) ∧ w5 = w' by
    have := rest11_any a1 W w5 (by omega) (by omega)
    rwa [hc1e] at this)
  have hWe : 1 + (c0 : Int) = (W : Int) := by omega
  have hKe : 1 + (c1 : Int) = (K : Int) := by omega
  have AW := Lib.hid (fun w5 => awake11_any w5)
  have HROW := Lib.hid hrow
  have HLS := Lib.hid hls
  have HG := Lib.hid hg
  obtain ⟨ao, cap, rfl, -⟩ := hrow
  obtain ⟨W0, hW0⟩ : ∃ W0, w.alloc (.cells #[.int .i64 a0, .int .i64 a1, .int .i64 a2] 41) = W0 := ⟨_, rfl⟩
  have hb0 : Below w.heap.size w W0 := by rw [← hW0]; exact (Below.refl _ w).alloc (Nat.le_refl _) _
  have hh0 : W0.heap[w.heap.size]? = some (.cells #[.int .i64 a0, .int .i64 a1, .int .i64 a2] 41 (0, 0)) := by rw [← hW0]; exact World.alloc_heap_new w _
  have HQ := Lib.hid (fun w5 (hb : Below W0.heap.size W0 w5) => show w5.cell? ⟨w.heap.size, 0, none⟩ = some (.int .i64 a0) ∧ w5.cell? ⟨w.heap.size, 1, none⟩ = some (.int .i64 a1) ∧ w5.cell? ⟨w.heap.size, 2, none⟩ = some (.int .i64 a2) from by
    have h := (hb.block _ (lt_of_block hh0)).trans hh0
    simp [World.cell?, h])
  have HB0 := Lib.hid hb0
  have HRS := Lib.hid (And.intro (rowsT_len W l) (rowsT_size l hW9))
  have RW := Lib.hid (fun w5 (hb : Below W0.heap.size W0 w5) => rows11_zero (.slice ao l.length cap) l W w5 hW9 (HROW.out.below (hb0.trans (hb.mono hb0.size))) HLS.out)
  clear hv hls hg hc0e hc1e hc0 hc1 hW hK hh0 hb0
  generalize rowsT W l = R at *
  cases hbad : badW K (sortW R) with
  | some i =>
    have HBD := Lib.hid hbad
    clear hbad
    go_enter Tryd.func6, Tryd.ntmps6
    go_wp2_with (go_at_call 7; (with_reducible refine (AW.out _).mono ?_); rintro e w1 ⟨rfl, hb1⟩; obtain ⟨q0, q1, q2⟩ := HQ.out _ hb1; have HB1 := Lib.hid hb1; clear hb1 hW0)
    go_wp2_with (go_at_call 8; (with_reducible refine (RS0.out _).mono ?_); rintro e w' ⟨rfl, rfl⟩)
    go_wp2_with (go_at_call 8; (with_reducible refine (RS1.out _).mono ?_); rintro e w' ⟨rfl, rfl⟩)
    go_wp2_with (go_at_call 10; (with_reducible refine (RW.out _ HB1.out).mono ?_); rintro e w2 ⟨u, rfl, hu⟩; have HU := Lib.hid hu; obtain ⟨ao2, cap2, hsl⟩ := (RowW.of_own hu.1).slice; subst hsl; clear hu q0 q1 q2)
    obtain ⟨hRl, hRs⟩ := HRS.out
    go_wp2_with (go_at_call 11; (with_reducible refine (build_err w2 (RowW.of_own HU.out.1) hK1 hKW (by omega) (by omega) hRs HBD.out).mono ?_); rintro e w3 ⟨ty, uu, rfl, hf, hb⟩; have HF := Lib.hid hf; have hb3 := (HB1.out.trans (HU.out.2.mono HB1.out.size)).trans (hb.mono (Nat.le_trans HB1.out.size HU.out.2.size)); have HB3 := Lib.hid hb3; have HKD := Lib.hid (kindW_any w3 hf ((HG.out.below HB0.out HG.out.size).below hb3 (Nat.lt_of_lt_of_le HG.out.size HB0.out.size))); clear hf hb hb3)
    go_wp2_with (go_at_call 12; (with_reducible refine HKD.out.mono ?_); rintro e w4 ⟨rfl, hb4⟩)
    go_ret
    exact ⟨rfl, (HB0.out.trans (HB3.out.mono HB0.out.size)).trans (hb4.mono (Nat.le_trans HB0.out.size HB3.out.size))⟩
  | none =>
    have HBD := Lib.hid hbad
    clear hbad
    by_cases hz : (sortW R).length = 0
    · have hz0 : ((((sortW R).length : Nat) : Int) == 0) = true := by rw [hz]; rfl
      go_enter Tryd.func6, Tryd.ntmps6
      go_wp2_with (go_at_call 7; (with_reducible refine (AW.out _).mono ?_); rintro e w1 ⟨rfl, hb1⟩; obtain ⟨q0, q1, q2⟩ := HQ.out _ hb1; have HB1 := Lib.hid hb1; clear hb1 hW0)
      go_wp2_with (go_at_call 8; (with_reducible refine (RS0.out _).mono ?_); rintro e w' ⟨rfl, rfl⟩)
      go_wp2_with (go_at_call 8; (with_reducible refine (RS1.out _).mono ?_); rintro e w' ⟨rfl, rfl⟩)
      go_wp2_with (go_at_call 10; (with_reducible refine (RW.out _ HB1.out).mono ?_); rintro e w2 ⟨u, rfl, hu⟩; have HU := Lib.hid hu; obtain ⟨ao2, cap2, hsl⟩ := (RowW.of_own hu.1).slice; subst hsl; clear hu q0 q1 q2)
      obtain ⟨hRl, hRs⟩ := HRS.out
      go_wp2_with (go_at_call 11; (with_reducible refine (build_ok w2 (RowW.of_own HU.out.1) hK1 hKW (by omega) (by omega) hRs HBD.out).mono ?_); rintro e w3 ⟨b, rfl, ht, hb⟩; have HT := Lib.hid ht; have HB3 := Lib.hid ((HB1.out.trans (HU.out.2.mono HB1.out.size)).trans (hb.mono (Nat.le_trans HB1.out.size HU.out.2.size))); clear ht hb)
      go_wp2_with (go_at_call 17; (with_reducible refine HT.out.len.mono ?_); rintro e w4 ⟨rfl, q, rfl⟩)
      go_ret
      exact ⟨rfl, below_drewN (HB0.out.trans (HB3.out.mono HB0.out.size)) _⟩
    · have hz0 : ((((sortW R).length : Nat) : Int) == 0) = false := by rw [beq_eq_false_iff_ne]; omega
      have hLl : (sortW R).length ≤ 12 := by rw [sortW_len]; exact HRS.out.1
      obtain ⟨n, hne⟩ : ∃ n, restW a2 (sortW R).length = n := ⟨_, rfl⟩
      have hn : n < (sortW R).length := by rw [← hne]; exact restW_lt a2 _ (by omega)
      have RS2 := Lib.hid (fun w5 => show Calls Tryd.prog 8 #[.int .i64 a2, .int .i64 ((sortW R).length : Int)] w5 fun e w' => e = .returned (.int .i64 (n : Int)) ∧ w' = w5 by
        have := rest11_any a2 (sortW R).length w5 (by omega) (by omega)
        rw [hne] at this
        exact this.mono fun e w' ⟨h1, h2⟩ => ⟨h1, h2.symm⟩)
      obtain ⟨g, hg⟩ : ∃ g, (sortW R)[n]? = some g := ⟨_, List.getElem?_eq_getElem hn⟩
      have HGA := Lib.hid hg
      clear hne hg
      go_enter Tryd.func6, Tryd.ntmps6
      go_wp2_with (go_at_call 7; (with_reducible refine (AW.out _).mono ?_); rintro e w1 ⟨rfl, hb1⟩; obtain ⟨q0, q1, q2⟩ := HQ.out _ hb1; have HB1 := Lib.hid hb1; clear hb1 hW0)
      go_wp2_with (go_at_call 8; (with_reducible refine (RS0.out _).mono ?_); rintro e w' ⟨rfl, rfl⟩)
      go_wp2_with (go_at_call 8; (with_reducible refine (RS1.out _).mono ?_); rintro e w' ⟨rfl, rfl⟩)
      go_wp2_with (go_at_call 10; (with_reducible refine (RW.out _ HB1.out).mono ?_); rintro e w2 ⟨u, rfl, hu⟩; have HU := Lib.hid hu; obtain ⟨ao2, cap2, hsl⟩ := (RowW.of_own hu.1).slice; subst hsl; clear hu q0 q1 q2)
      obtain ⟨hRl, hRs⟩ := HRS.out
      go_wp2_with (go_at_call 11; (with_reducible refine (build_ok w2 (RowW.of_own HU.out.1) hK1 hKW (by omega) (by omega) hRs HBD.out).mono ?_); rintro e w3 ⟨b, rfl, ht, hb⟩; have HT := Lib.hid ht; have HB3 := Lib.hid ((HB1.out.trans (HU.out.2.mono HB1.out.size)).trans (hb.mono (Nat.le_trans HB1.out.size HU.out.2.size))); clear ht hb)
      have HSL := Lib.hid (sortW_size hRs)
      generalize sortW R = L at *
      clear hRl hRs HRS
      go_wp2_with (go_at_call 17; (with_reducible refine HT.out.len.mono ?_); rintro e w4 ⟨rfl, q, hw4⟩; have HT4 := Lib.hid (show TabL w4 b W K L from by rw [hw4]; exact HT.out.below (below_drewN (Below.refl _ w3) q)); have HB4 := Lib.hid (show Below W0.heap.size W0 w4 from by rw [hw4]; exact below_drewN HB3.out q); clear hw4)
      obtain ⟨q0, q1, q2⟩ := HQ.out _ HB4.out
      have HLN := Lib.hid (fun q' => (HT4.out.below (below_drewN (Below.refl _ _) q')).len)
      have HRW := Lib.hid (fun q' => (HT4.out.below (below_drewN (Below.refl _ _) q')).row HGA.out)
      clear hz0
      go_quiet (first | (go_at_call 17; exact Calls.quiet_of (HLN.out _)) | (go_at_call 8; exact Calls.quiet_of_same (RS2.out _)))
      go_wp2_with (go_at_call 18; (with_reducible refine (HRW.out _).mono ?_); rintro e w5 ⟨rfl, q5, hw5⟩; have HT5 := Lib.hid (show TabL w5 b W K L from by rw [hw5]; exact (HT4.out.below (below_drewN (Below.refl _ _) _)).below (below_drewN (Below.refl _ _) _)); have HB5 := Lib.hid (show Below W0.heap.size W0 w5 from by rw [hw5]; exact below_drewN (below_drewN HB4.out _) _); clear hw5 q0 q1 q2 HLN HRW)
      obtain ⟨i0, hi, hz0, hz1, hz2⟩ := info_parts stringInfo
      go_loopw [13, 14] (fun o i wr => ∃ k : Nat, k ≤ L.length ∧ i = .int .i64 (k : Int) ∧ Hid (AccW w5 (leftW n L k) o wr)) (fun _ i _ => 13 - (intOf i).toNat)
      case atStart => exact ⟨0, Nat.zero_le _, rfl, Lib.hid (by unfold leftW; exact AccW.start w5)⟩
      case round =>
        obtain ⟨k, hk, rfl, HA⟩ := hrel
        have HTr := Lib.hid (HT5.out.below HA.out.2)
        by_cases hlt : k < L.length
        · have hd : decide (k < L.length) = true := decide_eq_true hlt
          obtain ⟨x, hx⟩ : ∃ x, L[k]? = some x := ⟨_, List.getElem?_eq_getElem hlt⟩
          have hxs := HSL.out x (mem_of_at hx)
          have hxe : ((x.size : Int) == (W : Int)) = true := by rw [beq_iff_eq]; omega
          have k0 : (0 : Int) ≤ (k : Int) := by omega
          have k1 : (k : Int) ≤ 12 := by omega
          have HX := Lib.hid hx
          have hsz := HA.out.2.size
          have hll := leftW_len n k L
          clear hx hxs
          by_cases hkn : k = n
          · have hne : ((k : Int) == (n : Int)) = true := by rw [beq_iff_eq]; omega
            have HST := Lib.hid (show leftW n L (k + 1) = leftW n L k by rw [hkn]; exact leftW_eq (by rw [← hkn]; exact HX.out))
            clear hkn
            go_wp2_with (go_at_call 17; (with_reducible refine HTr.out.len.mono ?_); rintro e w6 ⟨rfl, q6, hw6⟩; have HA6 := Lib.hid (show AccW w5 (leftW n L k) u13 w6 from by rw [hw6]; exact HA.out.below (below_drewN (Below.refl _ _) _)); clear hw6)
            go_roundw
            case rel => exact ⟨k + 1, by omega, by go_num, Lib.hid (by rw [HST.out]; exact HA6.out)⟩
            case measure => simp [intOf]; omega
          · have hne : ((k : Int) == (n : Int)) = false := by rw [beq_eq_false_iff_ne]; omega
            have HST := Lib.hid (leftW_ne HX.out hkn)
            clear hkn
            go_wp2_with (go_at_call 17; (with_reducible refine HTr.out.len.mono ?_); rintro e w6 ⟨rfl, q6, hw6⟩; have HA6 := Lib.hid (show AccW w5 (leftW n L k) u13 w6 from by rw [hw6]; exact HA.out.below (below_drewN (Below.refl _ _) _)); clear hw6)
            have HT6 := Lib.hid (HT5.out.below HA6.out.2)
            have hsz6 := HA6.out.2.size
            generalize leftW n L k = LK at *
            go_wp2_with (first
              | (go_at_call 18; (with_reducible refine (HT6.out.row HX.out).mono ?_); rintro e w7 ⟨rfl, q7, hw7⟩; have HA7 := Lib.hid (show AccW w5 LK u13 w7 from by rw [hw7]; exact HA6.out.below (below_drewN (Below.refl _ _) _)); have hsz7 := HA7.out.2.size; clear hw7)
              | (at_builtin; refine wpList_append_own _ rfl _ _ 22 rfl w5.heap.size 9 i0 (.string ByteArray.empty) 1 16 Tryd.underlying22 hi hz0 hz1 hz2 rfl (by decide) _ _ _ rfl (HA7.out.1.alloc _) ⟨_, 0, none⟩ 1 1 [.string x] rfl rfl (cell_oneW _ _ _) (by intro u hu; simp at hu; subst hu; rfl) (by unfold maxLen; omega) (by omega) (by simp; omega) ?_; intro v' w8 hown1 hgrow _; have HP := Lib.hid (HA7.out.push hown1 hgrow); obtain ⟨g', cap9, hsl⟩ := ownsRow_succ hown1; subst hsl; clear hown1 hgrow))
            go_roundw
            case rel => exact ⟨k + 1, by omega, by go_num, Lib.hid (by rw [HST.out]; exact HP.out)⟩
            case measure => simp [intOf]; omega
        · obtain rfl : k = L.length := by omega
          have hd : decide (L.length < L.length) = false := decide_eq_false (by omega)
          obtain ⟨M, hM⟩ : ∃ M, L.eraseIdx n = M := ⟨_, rfl⟩
          have HAM := Lib.hid (show AccW w5 M u13 wr by have := HA.out; rwa [leftW_all, hM] at this)
          obtain ⟨f1, f2, f3, f4⟩ := erase_facts HT5.out.rise HGA.out
          rw [hM] at f1 f2 f3 f4
          have HF4 := Lib.hid (show ∀ r ∈ M, keyW K r ≠ g.extract 0 K from f4)
          have HF2 := Lib.hid (fun x hx => HSL.out x (f2 x hx))
          have HF1 := Lib.hid f1
          have hml : M.length ≤ 12 := by omega
          obtain ⟨ao3, cap3, hsl3⟩ := (RowW.of_own HAM.out.1).slice
          subst hsl3
          clear hM f1 f2 f4 HA
          have hgs : ((g.size : Int) == (W : Int)) = true := by rw [HSL.out g (mem_of_at HGA.out)]; exact beq_self_eq_true _
          have hg1 : (K : Int) ≤ (g.size : Int) := by rw [HSL.out g (mem_of_at HGA.out)]; omega
          have hg0 : (0 : Int) ≤ (K : Int) := by omega
          have hmm : ((M.length : Int) == (L.length : Int) - 1) = true := by rw [beq_iff_eq]; omega
          have hgs2 : ((g.size : Int) != (W : Int)) = false := by rw [bne, hgs]; rfl
          have hmm2 : ((M.length : Int) != (L.length : Int) - 1) = false := by rw [bne, hmm]; rfl
          go_wp2_with (go_at_call 17; (with_reducible refine HTr.out.len.mono ?_); rintro e w6 ⟨rfl, q6, hw6⟩; have HA6 := Lib.hid (show AccW w5 M _ w6 from by rw [hw6]; exact HAM.out.below (below_drewN (Below.refl _ _) _)); clear hw6)
          have HBR := Lib.hid (build_rising w6 (RowW.of_own HA6.out.1) hK1 hKW (by omega) (by omega) HF2.out HF1.out)
          have HTL6 := Lib.hid (HT5.out.below HA6.out.2)
          go_wp2_with (go_at_call 11; (with_reducible refine HBR.out.mono ?_); rintro e w7 ⟨b2, rfl, ht, hb⟩; have HT7 := Lib.hid ht; have HL7 := Lib.hid (HTL6.out.below hb); have HA7 := Lib.hid (HA6.out.below hb); clear ht hb)
          go_wp2_with (first
            | (go_at_call 17; (with_reducible refine HT7.out.len.mono ?_); rintro e w8 ⟨rfl, q8, hw8⟩; have HT8 := Lib.hid (show TabL w8 b2 W K M from by rw [hw8]; exact HT7.out.below (below_drewN (Below.refl _ _) _)); have HL8 := Lib.hid (show TabL w8 b W K L from by rw [hw8]; exact HL7.out.below (below_drewN (Below.refl _ _) _)); have HA8 := Lib.hid (show AccW w5 M _ w8 from by rw [hw8]; exact HA7.out.below (below_drewN (Below.refl _ _) _)); clear hw8)
            | (go_at_call 17; (with_reducible refine HL8.out.len.mono ?_); rintro e w9 ⟨rfl, q9, hw9⟩; have HT9 := Lib.hid (show TabL w9 b2 W K M from by rw [hw9]; exact HT8.out.below (below_drewN (Below.refl _ _) _)); have HA9 := Lib.hid (show AccW w5 M _ w9 from by rw [hw9]; exact HA8.out.below (below_drewN (Below.refl _ _) _)); clear hw9)
            | (go_at_call 20; (with_reducible refine (HT9.out.missed HF4.out).mono ?_); rintro e wa ⟨rfl, hb⟩; have HTa := Lib.hid (HT9.out.below hb); have HAa := Lib.hid (HA9.out.below hb); clear hb))
          go_loopw [21] (fun i wr => ∃ k : Nat, k ≤ M.length ∧ i = .int .i64 (k : Int) ∧ Hid (Below wa.heap.size wa wr)) (fun i _ => 13 - (intOf i).toNat)
          case atStart => exact ⟨0, Nat.zero_le _, rfl, Lib.hid (Below.refl _ _)⟩
          case round =>
            obtain ⟨k, hk, rfl, HBr⟩ := hrel
            by_cases hlt : k < M.length
            · have hd : decide (k < M.length) = true := decide_eq_true hlt
              obtain ⟨x, hx⟩ : ∃ x, M[k]? = some x := ⟨_, List.getElem?_eq_getElem hlt⟩
              have hxs := HF2.out x (mem_of_at hx)
              have k0 : (0 : Int) ≤ (k : Int) := by omega
              have k1 : (k : Int) < (M.length : Int) := by omega
              have x0 : (K : Int) ≤ (x.size : Int) := by omega
              obtain ⟨ao4, cap4, e4, hc4⟩ := RowW.of_own (HAa.out.below HBr.out).1
              injection e4 with e41 _ e43
              subst e41
              subst e43
              obtain ⟨gx, ox, rfl, cx⟩ := hc4 k x hx
              have HFD := Lib.hid ((HTa.out.below HBr.out).found hx)
              have HC5 := Lib.hid (fun (w' : World) (hb : Below wr.heap.size wr w') => (hb.cell (p := ⟨gx, ox + k, none⟩) (lt_of_cellW cx)).trans cx)
              have hxx : (x.toList == x.toList) = true := beq_self_eq_true _
              clear hx hc4
              go_wp2_with (go_at_call 20; (with_reducible refine HFD.out.mono ?_); rintro e wb ⟨rfl, hb⟩; have cx2 := HC5.out _ hb; have HBb := Lib.hid (HBr.out.trans (hb.mono HBr.out.size)); clear hb)
              go_roundw
              case rel => exact ⟨k + 1, by omega, by go_num, HBb⟩
              case measure => simp [intOf]; omega
            · obtain rfl : k = M.length := by omega
              have hd : decide (M.length < M.length) = false := decide_eq_false (by omega)
              go_wp2
              go_ret
              have b1 := HB0.out.trans (HB5.out.mono HB0.out.size)
              have b2 := b1.trans (HAa.out.2.mono b1.size)
              exact ⟨rfl, b2.trans (HBr.out.mono b2.size)⟩
end Go.Proofs.YtbkbnkpgldemkaaDoor
