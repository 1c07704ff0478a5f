/-
  The document's New.
-/
import Derived.Test.YtbkbnkpgldemkaaGreatDoorWRefM
namespace Go.Proofs.YtbkbnkpgldemkaaGreatDoor
open Go Go.RowKit

theorem mul_lt_of {k N W : Nat} (h : k * W < N * W) : k < N := Nat.lt_of_mul_lt_mul_right h
set_option maxRecDepth 100000 in
set_option maxHeartbeats 4000000 in
theorem refNew_any (wi ki : Int) (s : ByteArray) (w : World) (hs : s.size ≤ 1048576) :
    Calls Tryz.prog 17 #[.int .i64 wi, .int .i64 ki, .string s] w fun e w' => ∃ v ee p, e = .returned (.agg #[v, .int .i64 ee, .int .i64 p]) ∧ (GotN w' w.heap.size v ee p (rowsW wi.toNat s) (newE wi ki s) ∧ Below w.heap.size w w') := by
  obtain ⟨i0, hii, iz0, iz1, iz2⟩ := info_parts stringInfo
  have hub := Tryz.underlying42
  go_enter Tryz.func17, Tryz.ntmps17
  go_upto_region 1 with fail
  obtain ⟨W0, hW0⟩ : ∃ W0, w.alloc (.cells #[.slice none 0 0, .int .i64 0, .int .i64 0] 42) = W0 := ⟨_, rfl⟩
  have hb0 : Below w.heap.size w W0 := by rw [← hW0]; exact (Below.refl _ w).alloc (Nat.le_refl _) _
  have hR0 : W0.heap[w.heap.size]? = some (gotObj (.slice none 0 0) 0 0) := by rw [← hW0]; exact World.alloc_heap_new w _
  have hz0 : W0.heap.size = w.heap.size + 1 := by rw [← hW0]; simp
  rw [hW0]
  obtain ⟨r0, r1, r2⟩ := got_cells hR0
  have f0 := got_free hR0 0
  have f1 := got_free hR0 1
  have f2 := got_free hR0 2
  have HB0 := Lib.hid hb0
  have HR0 := Lib.hid hR0
  clear hW0 hb0 hR0
  by_cases b1 : ki < 1
  · have a1 : decide (ki < 1) = true := decide_eq_true b1
    have HE := Lib.hid (newE_bad (s := s) (w := wi) (.inl b1))
    go_wp2_with fail
    refine bodyPost_ret (results_cell_row rfl _ _ w.heap.size 42 _ (0, 0) _ rfl (got_store HR0.out _ _ _) hub rfl gotSize) rfl ?_
    exact ⟨_, _, _, rfl, by rw [HE.out]; exact ⟨rfl, rfl, rfl⟩, bel_store HB0.out (Nat.le_refl _)⟩
  · have a1 : decide (ki < 1) = false := decide_eq_false b1
    by_cases b2 : wi < ki
    · have a2 : decide (wi < ki) = true := decide_eq_true b2
      have HE := Lib.hid (newE_bad (s := s) (.inr (.inl b2)))
      go_wp2_with fail
      refine bodyPost_ret (results_cell_row rfl _ _ w.heap.size 42 _ (0, 0) _ rfl (got_store HR0.out _ _ _) hub rfl gotSize) rfl ?_
      exact ⟨_, _, _, rfl, by rw [HE.out]; exact ⟨rfl, rfl, rfl⟩, bel_store HB0.out (Nat.le_refl _)⟩
    · have a2 : decide (wi < ki) = false := decide_eq_false b2
      by_cases b3 : 255 < wi
      · have a3 : decide (255 < wi) = true := decide_eq_true b3
        have HE := Lib.hid (newE_bad (s := s) (k := ki) (.inr (.inr b3)))
        go_wp2_with fail
        refine bodyPost_ret (results_cell_row rfl _ _ w.heap.size 42 _ (0, 0) _ rfl (got_store HR0.out _ _ _) hub rfl gotSize) rfl ?_
        exact ⟨_, _, _, rfl, by rw [HE.out]; exact ⟨rfl, rfl, rfl⟩, bel_store HB0.out (Nat.le_refl _)⟩
      · have a3 : decide (255 < wi) = false := decide_eq_false b3
        obtain ⟨W, rfl⟩ : ∃ W : Nat, wi = (W : Int) := ⟨wi.toNat, by omega⟩
        obtain ⟨K, rfl⟩ : ∃ K : Nat, ki = (K : Int) := ⟨ki.toNat, by omega⟩
        have h1 : 0 < K := by omega
        have h2 : K ≤ W := by omega
        have h3 : W ≤ 255 := by omega
        have hW : 0 < W := by omega
        have a4 : decide (W < K) = false := decide_eq_false (by omega)
        have w0 : ((W : Int) == 0) = false := by rw [beq_eq_false_iff_ne]; omega
        have w1 : (W : Int) ≠ 0 := by omega
        have hm : ((s.size : Int).tmod (W : Int)) = ((s.size % W : Nat) : Int) := by rw [Int.tmod_eq_emod_of_nonneg (by omega), ← Int.natCast_emod]
        have hm2 : ((s.size : Int) % (W : Int)) = ((s.size % W : Nat) : Int) := by rw [← Int.natCast_emod]
        clear b1 b2 b3
        by_cases hmod : s.size % W = 0
        · have HN := Lib.hid (newE_order h1 h2 h3 hmod)
          rw [hmod] at hm hm2
          obtain ⟨N, hN⟩ : ∃ N, s.size / W = N := ⟨_, rfl⟩
          have hNW : s.size = N * W := by rw [← hN]; have := Nat.div_add_mod s.size W; rw [hmod] at this; rw [Nat.mul_comm]; omega
          have HRO := Lib.hid (show ∀ k A, A = k * W → A < s.size → (rowsW W s)[k]? = some (s.extract A (A + W)) ∧ (s.extract A (A + W)).size = W ∧ A + W ≤ s.size from by
            rintro k A rfl hk
            rw [hNW] at hk
            have hkN := mul_lt_of hk
            have e : k * W + W = (k + 1) * W := by rw [Nat.succ_mul]
            rw [e]
            refine ⟨rowsW_at (by rw [hN]; exact hkN), rowW_size (W := W) (i := k) (s := s) (by rw [hN]; exact hkN), ?_⟩
            rw [hNW]; exact Nat.mul_le_mul_right W hkN)
          have hRl : (rowsW W s).length = N := by rw [rowsW_len, hN]
          have HLN := Lib.hid (show ∀ k, k * W = s.size → k = N from fun k hk => by rw [hNW] at hk; exact Nat.eq_of_mul_eq_mul_right hW hk)
          have RowSz := Lib.hid (rowsW_size (W := W) (s := s))
          have HNI := Lib.hid (show (rowsW (W : Int).toNat s) = rowsW W s by rw [Int.toNat_natCast])
          clear hmod hNW hN
          generalize rowsW W s = R at *
          go_upto_region 6 with fail
          obtain ⟨W1, hW1⟩ : ∃ W1, W0.alloc (.cells #[.slice none 0 0, .int .i64 0, .int .i64 0] 42) = W1 := ⟨_, rfl⟩
          have HI := Lib.hid (show GotL W0 W1 (.slice none 0 0) [] from ⟨by rw [← hW1]; exact World.alloc_heap_new W0 _, World.ownsRow_nil _ _ _ _, by rw [← hW1]; exact (Below.refl _ W0).alloc (Nat.le_refl _) _⟩)
          rw [← hz0, hW1]
          have HZ0 := Lib.hid hz0
          clear hW1 r0 r1 r2 f0 f1 f2 hz0
          go_wp2_with fail
          go_loopw [8, 9, 10] (fun x _ _ wr => ∃ (k A : Nat) (va : Value), x = .int .i64 (A : Int) ∧ A ≤ s.size ∧ Hid (A = k * W) ∧ k ≤ A ∧ Hid (ReadTo K R k) ∧ Hid (GotL W0 wr va (R.take k))) (fun x _ _ _ => s.size + 1 - (intOf x).toNat)
          case atStart => exact ⟨0, 0, _, rfl, Nat.zero_le _, Lib.hid (by omega), Nat.le_refl _, Lib.hid (readTo_zero K R), HI⟩
          case round =>
            obtain ⟨k, A, va, rfl, hA, HA, hkA, HRT, HG⟩ := hrel
            have hA0 : (0 : Int) ≤ (A : Int) := by omega
            by_cases hlt : A < s.size
            · have hd : decide (A < s.size) = true := decide_eq_true hlt
              have hd2 : (A : Int) < (s.size : Int) := by omega
              obtain ⟨hr, hrs, hAW⟩ := HRO.out k A HA.out hlt
              have hAW2 : (A : Int) + (W : Int) ≤ (s.size : Int) := by omega
              have hAW3 : (A : Int) ≤ (A : Int) + (W : Int) := by omega
              have HR := Lib.hid hr
              have hkR : k < R.length := (List.getElem?_eq_some_iff.1 hr).1
              have hLl : (R.take k).length = k := by rw [List.length_take]; omega
              have HTK := Lib.hid (take_nextW hr)
              obtain ⟨ao, cap, hsl⟩ := (RowW.of_own HG.out.own).slice
              rw [hLl] at hsl
              subst hsl
              obtain ⟨c0, c1, c2⟩ := got_cells HG.out.blk
              have HAe := Lib.hid (show (A : Int) + (W : Int) = ((A + W : Nat) : Int) by omega)
              go_upto_region 11 with fail
              generalize s.extract A (A + W) = r at *
              have HGm := Lib.hid (fun m => HG.out.below (below_drewN (Below.refl _ wr) m))
              rcases Nat.eq_zero_or_pos k with hk | hk
              · subst hk
                have hk1 : decide ((0 : Int) < ((0 : Nat) : Int)) = false := rfl
                have HS := Lib.hid (readTo_ok HRT.out HR.out (ahead_zero h1 (by omega)))
                go_quiet (fail)
                go_wp2_with (at_builtin; refine wpList_append_own _ rfl _ _ 22 rfl W0.heap.size 9 i0 (.string ByteArray.empty) 1 16 Tryz.underlying22 hii iz0 iz1 iz2 rfl (by decide) _ (R.take 0).length _ rfl ((HGm.out _).own.alloc _) ⟨_, 0, none⟩ 1 1 [.string r] rfl rfl (cell_oneW _ _ _) (by intro u hu; simp at hu; subst hu; rfl) (by unfold maxLen; omega) (by omega) (by have := (HGm.out 0).bel.size; simp at this ⊢; omega) ?_; intro v7 w7 hown7 hgrow7 _; obtain ⟨hX7, hR7⟩ := GotL.push ((HGm.out _).below ((Below.refl _ _).alloc (Nat.le_refl _) _)) hown7 hgrow7; obtain ⟨va7, vn7, vc7, rfl⟩ := own_sliceW hown7; obtain ⟨e0, _, _⟩ := got_cells hX7; have f0 := got_free hX7 0; have HR7 := Lib.hid hR7; clear hX7 hR7 hown7 hgrow7)
                go_roundw
                case rel => exact ⟨0 + 1, A + W, _, by go_num, by omega, Lib.hid (by rw [Nat.succ_mul]; have := HA.out; omega), by omega, HS, by rw [HTK.out]; exact HR7⟩
                case measure => simp [intOf]; omega
              · obtain ⟨m, hm⟩ : ∃ m, k = m + 1 := ⟨k - 1, by omega⟩
                have HKM := Lib.hid hm
                have hk1 : decide (0 < k) = true := decide_eq_true hk
                have hk2 : (0 : Int) < (k : Int) := by omega
                have hwr : IntKind.i64.wrap ((k : Int) - 1) = (m : Int) := by
                  rw [show ((k : Int) - 1) = (m : Int) by omega]
                  exact IntWalk.i64_in _ ⟨by omega, by omega⟩
                have hm0 : (0 : Int) ≤ (m : Int) := by omega
                have hm1 : (m : Int) < (k : Int) := by omega
                have hm2 : m < k := by omega
                obtain ⟨y, hy⟩ : ∃ y, R[m]? = some y := ⟨_, List.getElem?_eq_getElem (by omega)⟩
                have hyt : (R.take k)[m]? = some y := by rw [List.getElem?_take_of_lt hm2]; exact hy
                have hys : y.size = W := by
                  have := (RowSz.out y (mem_of_at hy))
                  exact this
                have HAH := Lib.hid (show aheadW K R k = y.extract 0 K by rw [hm]; exact ahead_succ hy)
                obtain ⟨g, cap2, hg⟩ := own_someW HG.out.own (by rw [hLl]; exact hk)
                rw [hLl] at hg
                injection hg with q1 _ q3
                subst q1
                subst q3
                have cy := own_cellW (show wr.ownsRow W0.heap.size 9 1 (.slice (some ⟨g, 0, none⟩) k cap) k (strsW (R.take k)) by have := HG.out.own; rwa [hLl] at this) m y hyt
                have y1 : (K : Int) ≤ (y.size : Int) := by omega
                have y2 : (K : Int) ≤ (r.size : Int) := by omega
                have k0 : (0 : Int) ≤ (K : Int) := by omega
                clear hyt hy hm
                by_cases hlt2 : ltW (y.extract 0 K) (r.extract 0 K) = true
                · have HS := Lib.hid (readTo_ok HRT.out HR.out (by rw [HAH.out]; exact hlt2))
                  have e1 : Op.bytesLess (y.extract 0 K).toList (r.extract 0 K).toList = true := by rw [less_ltW]; exact hlt2
                  clear hlt2
                  go_quiet (fail)
                  go_wp2_with (at_builtin; refine wpList_append_own _ rfl _ _ 22 rfl W0.heap.size 9 i0 (.string ByteArray.empty) 1 16 Tryz.underlying22 hii iz0 iz1 iz2 rfl (by decide) _ (R.take k).length _ rfl ((HGm.out _).own.alloc _) ⟨_, 0, none⟩ 1 1 [.string r] rfl rfl (cell_oneW _ _ _) (by intro u hu; simp at hu; subst hu; rfl) (by unfold maxLen; omega) (by omega) (by have := (HGm.out 0).bel.size; simp at this ⊢; omega) ?_; intro v7 w7 hown7 hgrow7 _; obtain ⟨hX7, hR7⟩ := GotL.push ((HGm.out _).below ((Below.refl _ _).alloc (Nat.le_refl _) _)) hown7 hgrow7; obtain ⟨va7, vn7, vc7, rfl⟩ := own_sliceW hown7; obtain ⟨e0, _, _⟩ := got_cells hX7; have f0 := got_free hX7 0; have HR7 := Lib.hid hR7; clear hX7 hR7 hown7 hgrow7)
                  go_roundw
                  case rel => exact ⟨k + 1, A + W, _, by go_num, by omega, Lib.hid (by rw [Nat.succ_mul]; have := HA.out; omega), by omega, HS, by rw [HTK.out]; exact HR7⟩
                  case measure => simp [intOf]; omega
                · have hlt3 : ltW (y.extract 0 K) (r.extract 0 K) = false := by simpa using hlt2
                  have HS := Lib.hid (readTo_bad HRT.out HR.out (by rw [HAH.out]; exact hlt3))
                  have HER := Lib.hid (show newE (W : Int) (K : Int) s = some (13, (A : Int)) by rw [HN.out, HS.out, HA.out])
                  have e1 : Op.bytesLess (y.extract 0 K).toList (r.extract 0 K).toList = false := by rw [less_ltW]; exact hlt3
                  clear hlt2 hlt3
                  have hR := (HG.out.bel.block _ (lt_of_block HR0.out)).trans HR0.out
                  obtain ⟨r0, r1, r2⟩ := got_cells hR
                  have f0 := got_free hR 0
                  have f1 := got_free hR 1
                  have f2 := got_free hR 2
                  have HRr := Lib.hid (fun m => show (wr.drewN m).heap[w.heap.size]? = some (gotObj (.slice none 0 0) 0 0) from hR)
                  clear hR
                  go_quiet (fail)
                  go_wp2_with fail
                  refine bodyPost_ret (results_cell_row rfl _ _ w.heap.size 42 _ (0, 0) _ rfl (got_store (HRr.out _) _ _ _) hub rfl gotSize) rfl ?_
                  exact ⟨_, _, _, rfl, by rw [HER.out]; exact ⟨rfl, rfl, rfl⟩, bel_store (below_drewN (HB0.out.trans (HG.out.bel.mono HB0.out.size)) _) (Nat.le_refl _)⟩
            · obtain rfl : A = s.size := by omega
              have hd : decide (s.size < s.size) = false := decide_eq_false (by omega)
              have hkN := HLN.out k HA.out.symm
              obtain rfl : k = R.length := by omega
              clear hRl hkN
              have HB := Lib.hid (show newE (W : Int) (K : Int) s = none by rw [HN.out, readTo_end HRT.out])
              have HGR := Lib.hid (show GotL W0 wr va R by have := HG.out; rwa [List.take_length] at this)
              obtain ⟨c0, c1, c2⟩ := got_cells HGR.out.blk
              have hR := (HGR.out.bel.block _ (lt_of_block HR0.out)).trans HR0.out
              obtain ⟨r0, r1, r2⟩ := got_cells hR
              have f0 := got_free hR 0
              have f1 := got_free hR 1
              have f2 := got_free hR 2
              have HRr := Lib.hid hR
              clear hR
              obtain ⟨ao, cap, hsl⟩ := (RowW.of_own HGR.out.own).slice
              subst hsl
              go_wp2_with fail
              refine bodyPost_ret (results_cell_row rfl _ _ w.heap.size 42 _ (0, 0) _ rfl (got_store HRr.out _ _ _) hub rfl gotSize) rfl ?_
              refine ⟨_, _, _, rfl, ?_, bel_store (HB0.out.trans (HGR.out.bel.mono HB0.out.size)) (Nat.le_refl _)⟩
              rw [HB.out, HNI.out]
              exact ⟨rfl, rfl, own_lowW (own_store (B := w.heap.size) HGR.out.own (by rw [HZ0.out]; exact Nat.lt_succ_self _)) (by rw [HZ0.out]; exact Nat.le_succ _)⟩
        · have HN := Lib.hid (newE_form (s := s) h1 h2 h3 hmod)
          obtain ⟨z, hz⟩ : ∃ z, s.size % W = z := ⟨_, rfl⟩
          rw [hz] at hm hm2 hmod
          have hz1 : ((z : Int) == 0) = false := by rw [beq_eq_false_iff_ne]; omega
          have hz2 : ((z : Int) != 0) = true := by rw [bne, hz1]; rfl
          clear hz h1 h2 h3 hs
          go_wp2_with fail
          refine bodyPost_ret (results_cell_row rfl _ _ w.heap.size 42 _ (0, 0) _ rfl (got_store HR0.out _ _ _) hub rfl gotSize) rfl ?_
          exact ⟨_, _, _, rfl, by rw [HN.out]; exact ⟨rfl, rfl, rfl⟩, bel_store HB0.out (Nat.le_refl _)⟩
end Go.Proofs.YtbkbnkpgldemkaaGreatDoor
