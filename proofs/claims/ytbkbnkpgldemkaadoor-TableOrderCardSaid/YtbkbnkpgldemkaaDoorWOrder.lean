/-
  TableOrder: its walk.
-/
import Derived.Test.YtbkbnkpgldemkaaDoorWList
import Derived.Test.YtbkbnkpgldemkaaDoorWArgs
import Derived.Test.YtbkbnkpgldemkaaDoorWApp
import Derived.Deep.CutRange
namespace Go.Proofs.YtbkbnkpgldemkaaDoor
open Go Go.RowKit

set_option maxRecDepth 100000 in
set_option maxHeartbeats 4000000 in
theorem tableOrder_law (v : Value) (l : List ByteArray) (a0 a1 a2 : Int) (w : World) (hv : TextsIn w v l) (hg : TypeLaid w) :
    Calls Tryd.prog 4 #[v, .agg #[.int .i64 a0, .int .i64 a1, .int .i64 a2]] w fun e w' => e = .returned (.bool true) ∧ Below w.heap.size w w' := by
  obtain ⟨hrow, hls⟩ := rowW_texts hv
  have hc0 := restW_lt a0 9 (by omega)
  obtain ⟨c0, hc0e⟩ : ∃ c, restW a0 9 = c := ⟨_, rfl⟩
  rw [hc0e] at hc0
  obtain ⟨W, hW⟩ : ∃ W, c0 + 1 = W := ⟨_, rfl⟩
  have hW1 : 1 ≤ W := by omega
  have hW9 : W ≤ 9 := by omega
  have hc1 := restW_lt a1 W hW1
  obtain ⟨c1, hc1e⟩ : ∃ c, restW a1 W = c := ⟨_, rfl⟩
  rw [hc1e] at hc1
  obtain ⟨K, hK⟩ : ∃ K, c1 + 1 = K := ⟨_, rfl⟩
  have hK1 : 0 < K := by omega
  have hKW : K ≤ W := by omega
  have RS0 := Lib.hid (fun w5 => show Calls Tryd.prog 8 #[.int .i64 a0, .int .i64 9] w5 fun e w' => e = .returned (.int .i64 (c0 : Int)) ∧ w5 = w' by
    have := rest11_any a0 9 w5 (by omega) (by omega)
    rwa [hc0e] at this)
  have RS1 := Lib.hid (fun w5 => show Calls Tryd.prog 8 #[.int .i64 a1, .int .i64 (W : Int)] w5 fun e w' => e = .returned (.int .i64 (c1 : Int)) ∧ w5 = w' by
    have := rest11_any a1 W w5 (by omega) (by omega)
    rwa [hc1e] at this)
  have hWe : 1 + (c0 : Int) = (W : Int) := by omega
  have hKe : 1 + (c1 : Int) = (K : Int) := by omega
  have AW := Lib.hid (fun w5 => awake11_any w5)
  have HROW := Lib.hid hrow
  have HLS := Lib.hid hls
  have HG := Lib.hid hg
  obtain ⟨ao, cap, rfl, -⟩ := hrow
  obtain ⟨W0, hW0⟩ : ∃ W0, w.alloc (.cells #[.int .i64 a0, .int .i64 a1, .int .i64 a2] 41) = W0 := ⟨_, rfl⟩
  have hb0 : Below w.heap.size w W0 := by rw [← hW0]; exact (Below.refl _ w).alloc (Nat.le_refl _) _
  have hh0 : W0.heap[w.heap.size]? = some (.cells #[.int .i64 a0, .int .i64 a1, .int .i64 a2] 41 (0, 0)) := by rw [← hW0]; exact World.alloc_heap_new w _
  have HQ := Lib.hid (fun w5 (hb : Below W0.heap.size W0 w5) => show w5.cell? ⟨w.heap.size, 0, none⟩ = some (.int .i64 a0) ∧ w5.cell? ⟨w.heap.size, 1, none⟩ = some (.int .i64 a1) ∧ w5.cell? ⟨w.heap.size, 2, none⟩ = some (.int .i64 a2) from by
    have h := (hb.block _ (lt_of_block hh0)).trans hh0
    simp [World.cell?, h])
  have HB0 := Lib.hid hb0
  have HRS := Lib.hid (And.intro (rowsT_len W l) (rowsT_size l hW9))
  have RW := Lib.hid (fun w5 (hb : Below W0.heap.size W0 w5) => rows11_zero (.slice ao l.length cap) l W w5 hW9 (HROW.out.below (hb0.trans (hb.mono hb0.size))) HLS.out)
  clear hv hls hg hc0e hc1e hc0 hc1 hW hK hh0 hb0
  generalize rowsT W l = R at *
  obtain ⟨hRl, hRs⟩ := HRS.out
  obtain ⟨n0, hn0⟩ : ∃ n, (if 0 < R.length then restW a2 R.length else 0) = n := ⟨_, rfl⟩
  have hnR : n0 ≤ R.length ∧ (0 < R.length → n0 < R.length) := by
    rw [← hn0]
    by_cases h : 0 < R.length
    · rw [if_pos h]; have := restW_lt a2 R.length h; exact ⟨by omega, fun _ => this⟩
    · rw [if_neg h]; exact ⟨by omega, fun h' => absurd h' h⟩
  have RS2 := Lib.hid (fun (w5 : World) (h : 0 < R.length) => show Calls Tryd.prog 8 #[.int .i64 a2, .int .i64 (R.length : Int)] w5 fun e w' => e = .returned (.int .i64 (n0 : Int)) ∧ w5 = w' by
    have := rest11_any a2 R.length w5 h (by omega)
    rw [if_pos h] at hn0
    rwa [hn0] at this)
  have HN0 := Lib.hid (fun (h : ¬ 0 < R.length) => show n0 = 0 by rw [if_neg h] at hn0; exact hn0.symm)
  clear hn0
  go_enter Tryd.func4, Tryd.ntmps4
  go_wp2_with (go_at_call 7; (with_reducible refine (AW.out _).mono ?_); rintro e w1 ⟨rfl, hb1⟩; obtain ⟨q0, q1, q2⟩ := HQ.out _ hb1; have HB1 := Lib.hid hb1; clear hb1 hW0)
  go_wp2_with (go_at_call 8; (with_reducible refine (RS0.out _).mono ?_); rintro e w' ⟨rfl, rfl⟩)
  go_wp2_with (go_at_call 8; (with_reducible refine (RS1.out _).mono ?_); rintro e w' ⟨rfl, rfl⟩)
  go_upto_if 37 with (go_at_call 10; (with_reducible refine (RW.out _ HB1.out).mono ?_); rintro e w2 ⟨u, rfl, hu⟩; have HU := Lib.hid hu; obtain ⟨ao2, cap2, hsl⟩ := (RowW.of_own hu.1).slice; subst hsl; clear hu q0 q1 q2; obtain ⟨q0, q1, q2⟩ := HQ.out _ (HB1.out.trans (HU.out.2.mono HB1.out.size)))
  go_cut [9] from 37 to 42 (fun u wx => u = .int .i64 (n0 : Int) ∧ wx = w2)
  case first =>
    by_cases hz : 0 < R.length
    · have hd : decide (0 < R.length) = true := decide_eq_true hz
      have hd2 : (0 : Int) < (R.length : Int) := by omega
      have RS3 := Lib.hid (fun w5 => RS2.out w5 hz)
      clear hz
      go_wp2_with (go_at_call 8; (with_reducible refine (RS3.out _).mono ?_); rintro e w' ⟨rfl, rfl⟩)
      go_meet
      case rel => exact ⟨rfl, rfl⟩
    · have hd : decide (0 < R.length) = false := decide_eq_false hz
      have hd2 : ¬ (0 : Int) < (R.length : Int) := by omega
      have e0 := HN0.out hz
      clear hz
      go_wp2_with fail
      go_meet
      case rel => exact ⟨by rw [e0]; rfl, rfl⟩
  case rest =>
    obtain ⟨rfl, hwx⟩ := hcut
    obtain rfl : w2 = _ := hwx.symm
    go_wp2_with fail
    obtain ⟨i0, hi, hz0, hz1, hz2⟩ := info_parts stringInfo
    go_cut [10] from 43 to 51 (fun u wx => wx.ownsRow w2.heap.size 9 1 u (R.drop n0 ++ R.take n0).length (strsW (R.drop n0 ++ R.take n0)) ∧ Below w2.heap.size w2 wx)
    case first =>
      have hb5 : Below w2.heap.size w2 (w2.drew.alloc (.cells #[] 9)) := (Below.drew (Below.refl w2.heap.size w2)).alloc (Nat.le_refl _) _
      have HN1 := Lib.hid (show (w2.drew.alloc (.cells #[] 9)).ownsRow w2.heap.size 9 1 (.slice (some ⟨w2.heap.size, 0, none⟩) 0 0) 0 [] from own_noneW w2.drew)
      rcases owned_casesW HU.out.1 with ⟨hnil, hlen⟩ | ⟨g, cap3, hsl⟩
      · obtain rfl : R = [] := List.eq_nil_of_length_eq_zero hlen
        injection hnil with h1 _ h3
        subst h1
        subst h3
        obtain rfl : n0 = 0 := by have := hnR.1; simp at this; omega
        go_region_law (first
          | (refine step_append_anyW _ (by rfl) _ _ 22 (by rfl) w2.heap.size 9 i0 (.string ByteArray.empty) 1 16 Tryd.underlying22 hi hz0 hz1 hz2 (by rfl) (by decide) _ 0 [] (by rfl) HN1.out _ _ _ (strsW (([] : List ByteArray).drop 0)) (by rfl) (by simp [strsW]) (fun h => by first | rfl | cases h) (fun ad ha j u hu => by simp [strsW] at hu) strsW_one (by unfold maxLen; omega) (by omega) (by simp) ?_; intro v6 w6 hown6 hgrow6; have hb6 := hb5.grown hgrow6 (by simp) (fun r e => by cases e; exact Nat.le_refl _))
          | (refine step_append_anyW _ (by rfl) _ _ 22 (by rfl) w2.heap.size 9 i0 (.string ByteArray.empty) 1 16 Tryd.underlying22 hi hz0 hz1 hz2 (by rfl) (by decide) _ _ _ (by rfl) hown6 _ _ _ (strsW (([] : List ByteArray).take 0)) (by rfl) (by simp [strsW] <;> omega) (fun h => by first | rfl | cases h) (fun ad ha j u hu => by simp [strsW] at hu) strsW_one (by unfold maxLen; omega) (by omega) hb6.size ?_; intro v8 w8 hown8 hgrow8; have hb8 := hb6.grown hgrow8 hb6.size (fun r e => (hown6.lt r e).1)))
        go_wp2_with fail
        go_meet
        case rel => exact ⟨own_joinW hown8, hb8⟩
      · injection hsl with h1 _ h3
        subst h1
        subst h3
        have hcp := (own_capW HU.out.1).2
        have HO1 := Lib.hid (own_belowW HU.out.1 hb5)
        have hgl : g < w2.heap.size := (HU.out.1.lt g rfl).2
        by_cases hc : cap2 = n0
        · have hRz : R.length = 0 := by have := hnR.2; omega
          obtain rfl : R = [] := List.eq_nil_of_length_eq_zero hRz
          obtain rfl : n0 = 0 := by have := hnR.1; simp at this; omega
          subst hc
          go_region_law (first
            | (refine step_append_anyW _ (by rfl) _ _ 22 (by rfl) w2.heap.size 9 i0 (.string ByteArray.empty) 1 16 Tryd.underlying22 hi hz0 hz1 hz2 (by rfl) (by decide) _ 0 [] (by rfl) HN1.out _ _ _ (strsW (([] : List ByteArray).drop 0)) (by rfl) (by simp [strsW]) (fun h => by first | rfl | cases h) (fun ad ha j u hu => by simp [strsW] at hu) strsW_one (by unfold maxLen; omega) (by omega) (by simp) ?_; intro v6 w6 hown6 hgrow6; have hb6 := hb5.grown hgrow6 (by simp) (fun r e => by cases e; exact Nat.le_refl _))
            | (refine step_append_anyW _ (by rfl) _ _ 22 (by rfl) w2.heap.size 9 i0 (.string ByteArray.empty) 1 16 Tryd.underlying22 hi hz0 hz1 hz2 (by rfl) (by decide) _ _ _ (by rfl) hown6 _ _ _ (strsW (([] : List ByteArray).take 0)) (by rfl) (by simp [strsW] <;> omega) (fun h => by first | rfl | cases h) (fun ad ha j u hu => by simp [strsW] at hu) strsW_one (by unfold maxLen; omega) (by omega) hb6.size ?_; intro v8 w8 hown8 hgrow8; have hb8 := hb6.grown hgrow8 hb6.size (fun r e => (hown6.lt r e).1)))
          go_wp2_with fail
          go_meet
          case rel => exact ⟨own_joinW hown8, hb8⟩
        · have n00 : (0 : Int) ≤ (n0 : Int) := by omega
          have n01 : (n0 : Int) ≤ (R.length : Int) := by omega
          have n02 : (n0 : Int) ≤ (cap2 : Int) := by omega
          go_region_law (first
            | (refine step_append_anyW _ (by rfl) _ _ 22 (by rfl) w2.heap.size 9 i0 (.string ByteArray.empty) 1 16 Tryd.underlying22 hi hz0 hz1 hz2 (by rfl) (by decide) _ 0 [] (by rfl) HN1.out _ _ _ (strsW (R.drop n0)) (by rfl) (by simp [strsW]) (fun h => by cases h) (fun ad ha j u hu => by cases ha; rw [Addr.add_lit]; exact own_dropW HO1.out n0 j u hu) strsW_one (by unfold maxLen; omega) (by omega) (by simp) ?_; intro v6 w6 hown6 hgrow6; have hb6 := hb5.grown hgrow6 (by simp) (fun r e => by cases e; exact Nat.le_refl _); have HT6 := Lib.hid (fun j u (hu : (strsW (R.take n0))[j]? = some u) => (World.cell?_of_block (a := ⟨g, j, none⟩) (hgrow6.block g (Nat.lt_of_lt_of_le hgl hb5.size) (fun e => by cases e; exact absurd hgl (Nat.lt_irrefl _)))).trans (own_takeW HO1.out n0 j u hu)))
            | (refine step_append_anyW _ (by rfl) _ _ 22 (by rfl) w2.heap.size 9 i0 (.string ByteArray.empty) 1 16 Tryd.underlying22 hi hz0 hz1 hz2 (by rfl) (by decide) _ _ _ (by rfl) hown6 _ _ _ (strsW (R.take n0)) (by rfl) (by simp [strsW] <;> omega) (fun h => by cases h) (fun ad ha j u hu => by cases ha; rw [Addr.add_lit, Nat.zero_add]; exact HT6.out j u hu) strsW_one (by unfold maxLen; omega) (by omega) hb6.size ?_; intro v8 w8 hown8 hgrow8; have hb8 := hb6.grown hgrow8 hb6.size (fun r e => (hown6.lt r e).1)))
          go_wp2_with fail
          go_meet
          case rel => exact ⟨own_joinW hown8, hb8⟩
    case rest =>
      obtain ⟨hot, hbt⟩ := hcut
      obtain ⟨T, hT⟩ : ∃ T, R.drop n0 ++ R.take n0 = T := ⟨_, rfl⟩
      rw [hT] at hot
      have hperm : T.Perm R := by
        rw [← hT]
        exact List.perm_append_comm.trans (by rw [List.take_append_drop])
      have hTl : T.length ≤ 100 := by rw [hperm.length_eq]; omega
      have hTs : ∀ x ∈ T, x.size = W := fun x hx => hRs x (hperm.mem_iff.1 hx)
      have hsrt := sortW_congr hperm
      obtain ⟨w3, hw3⟩ : ∃ w3, w3 = wc := ⟨_, rfl⟩
      rw [← hw3] at hot hbt ⊢
      obtain ⟨ao3, cap3, hsl3⟩ := (RowW.of_own hot).slice
      subst hsl3
      have hR3 : RowW w3 (.slice ao2 R.length cap2) R := (RowW.of_own HU.out.1).below hbt
      have HB3 := Lib.hid ((HB1.out.trans (HU.out.2.mono HB1.out.size)).trans (hbt.mono (Nat.le_trans HB1.out.size HU.out.2.size)))
      have HT3 := Lib.hid (RowW.of_own hot)
      clear hT hot hbt hw3 hperm q0 q1 q2
      cases hbad : badW K (sortW R) with
      | some i =>
        have HA1 := Lib.hid (build_err w3 hR3 hK1 hKW (by omega) (by omega) hRs hbad)
        have HA2 := Lib.hid (fun w5 (hb : Below w3.heap.size w3 w5) => build_err w5 (HT3.out.below hb) hK1 hKW (by omega) hTl hTs (by rw [hsrt]; exact hbad))
        have HG3 := Lib.hid (fun w5 (hb : Below w3.heap.size w3 w5) => ((HG.out.below HB0.out HG.out.size).below HB3.out (Nat.lt_of_lt_of_le HG.out.size HB0.out.size)).below hb (Nat.lt_of_lt_of_le HG.out.size (Nat.le_trans HB0.out.size HB3.out.size)))
        clear hbad hR3 hsrt
        go_wp2_with (go_at_call 11; (with_reducible refine HA1.out.mono ?_); rintro e w4 ⟨t1, u1, rfl, hf, hb⟩; have HF4 := Lib.hid hf; have HB4 := Lib.hid hb; clear hf hb)
        go_wp2_with (go_at_call 11; (with_reducible refine (HA2.out _ HB4.out).mono ?_); rintro e w5 ⟨t2, u2, rfl, hf, hb⟩; have HF5 := Lib.hid hf; have HE5 := Lib.hid (HF4.out.below hb); have HB5 := Lib.hid (HB4.out.trans (hb.mono HB4.out.size)); have HK1 := Lib.hid (kindW_any w5 HE5.out (HG3.out _ HB5.out)); clear hf hb)
        go_wp2_with (go_at_call 12; (with_reducible refine HK1.out.mono ?_); rintro e w6 ⟨rfl, hb⟩; have HF6 := Lib.hid (HF5.out.below hb); have HB6 := Lib.hid (HB5.out.trans (hb.mono HB5.out.size)); have HK2 := Lib.hid (kindW_any w6 HF6.out (HG3.out _ HB6.out)); clear hb)
        go_wp2_with (go_at_call 12; (with_reducible refine HK2.out.mono ?_); rintro e w7 ⟨rfl, hb⟩; have HB7 := Lib.hid (HB6.out.trans (hb.mono HB6.out.size)); clear hb)
        go_ret
        have b1 := HB0.out.trans (HB3.out.mono HB0.out.size)
        exact ⟨rfl, b1.trans (HB7.out.mono b1.size)⟩
      | none =>
        have HA1 := Lib.hid (build_ok w3 hR3 hK1 hKW (by omega) (by omega) hRs hbad)
        have HA2 := Lib.hid (fun w5 (hb : Below w3.heap.size w3 w5) => build_ok w5 (HT3.out.below hb) hK1 hKW (by omega) hTl hTs (by rw [hsrt]; exact hbad))
        rw [hsrt] at HA2
        have hLl : (sortW R).length = R.length := sortW_len R
        have HLS2 := Lib.hid (sortW_size hRs)
        clear hbad hR3 hsrt
        generalize sortW R = L at *
        go_wp2_with (go_at_call 11; (with_reducible refine HA1.out.mono ?_); rintro e w4 ⟨b1, rfl, ht, hb⟩; have HA4 := Lib.hid ht; have HB4 := Lib.hid hb; clear ht hb)
        go_wp2_with (go_at_call 11; (with_reducible refine (HA2.out _ HB4.out).mono ?_); rintro e w5 ⟨b2, rfl, ht, hb⟩; have HC5 := Lib.hid ht; have HA5 := Lib.hid (HA4.out.below hb); have HB5 := Lib.hid (HB4.out.trans (hb.mono HB4.out.size)); clear ht hb)
        have HNW := Lib.hid (fun w6 => new_okW (W := W) (K := K) w6 hK1 hKW (by omega) (by omega) HLS2.out HA5.out.rise)
        go_wp2_with (first
          | (go_at_call 16; (with_reducible refine HA5.out.bytes.mono ?_); rintro e w' ⟨rfl, rfl⟩)
          | (go_at_call 15; (with_reducible refine (HNW.out _).mono ?_); rintro e w6 ⟨b3, rfl, ht, hb⟩; have HD6 := Lib.hid ht; have HA6 := Lib.hid (HA5.out.below hb); have HC6 := Lib.hid (HC5.out.below hb); have HB6 := Lib.hid (HB5.out.trans (hb.mono HB5.out.size)); clear ht hb))
        have HB3' := HB3
        go_loopw [17] (fun i wr => ∃ j : Nat, i = .int .i64 ((j : Int) + 1) ∧ j ≤ 12 ∧ Hid (Below w6.heap.size w6 wr)) (fun i _ => 14 - (intOf i).toNat)
        case atStart => exact ⟨0, rfl, by omega, Lib.hid (Below.refl _ _)⟩
        case round =>
          obtain ⟨j, rfl, hj, HBr⟩ := hrel
          have HAr := Lib.hid (HA6.out.below HBr.out)
          have j0 : (0 : Int) ≤ (j : Int) := by omega
          by_cases hlt : j + 1 < L.length
          · have hd : decide ((j : Int) + 1 < (L.length : Int)) = true := decide_eq_true (by omega)
            have hd2 : (j : Int) + 1 < (L.length : Int) := by omega
            obtain ⟨x, hx⟩ : ∃ x, L[j]? = some x := ⟨_, List.getElem?_eq_getElem (by omega)⟩
            obtain ⟨y, hy⟩ : ∃ y, L[j + 1]? = some y := ⟨_, List.getElem?_eq_getElem hlt⟩
            have hxs := HLS2.out x (mem_of_at hx)
            have hys := HLS2.out y (mem_of_at hy)
            have x1 : ((x.size : Int) == (W : Int)) = true := by rw [beq_iff_eq]; omega
            have x2 : ((x.size : Int) != (W : Int)) = false := by rw [bne, x1]; rfl
            have y1 : ((y.size : Int) == (W : Int)) = true := by rw [beq_iff_eq]; omega
            have y2 : ((y.size : Int) != (W : Int)) = false := by rw [bne, y1]; rfl
            have x3 : (K : Int) ≤ (x.size : Int) := by omega
            have y3 : (K : Int) ≤ (y.size : Int) := by omega
            have k0 : (0 : Int) ≤ (K : Int) := by omega
            have hxy : Op.bytesLess (x.extract 0 K).toList (y.extract 0 K).toList = true := by
              rw [less_ltW]
              obtain ⟨h1, rfl⟩ := List.getElem?_eq_some_iff.1 hx
              obtain ⟨h2, rfl⟩ := List.getElem?_eq_some_iff.1 hy
              exact List.pairwise_iff_getElem.1 HA6.out.rise _ _ h1 h2 (Nat.lt_succ_self j)
            have HX := Lib.hid hx
            have HY := Lib.hid (fun w5 (ht : TabL w5 b1 W K L) => show Calls Tryd.prog 18 #[.pointer (some ⟨b1, 0, none⟩), .int .i64 ((j : Int) + 1)] w5 fun e w' => e = .returned (.tuple #[.string y, .bool true]) ∧ ∃ n, w' = w5.drewN n from ht.row hy)
            clear hx hy hxs hys
            go_wp2_with (go_at_call 17; (with_reducible refine HAr.out.len.mono ?_); rintro e w7 ⟨rfl, q7, hw7⟩; have HA7 := Lib.hid (show TabL w7 b1 W K L from by rw [hw7]; exact HAr.out.below (below_drewN (Below.refl _ _) _)); have HB7 := Lib.hid (show Below w6.heap.size w6 w7 from by rw [hw7]; exact below_drewN HBr.out _); clear hw7)
            go_wp2_with (go_at_call 18; (with_reducible refine (HA7.out.row HX.out).mono ?_); rintro e w8 ⟨rfl, q8, hw8⟩; have HA8 := Lib.hid (show TabL w8 b1 W K L from by rw [hw8]; exact HA7.out.below (below_drewN (Below.refl _ _) _)); have HB8 := Lib.hid (show Below w6.heap.size w6 w8 from by rw [hw8]; exact below_drewN HB7.out _); clear hw8)
            go_wp2_with (go_at_call 18; (with_reducible refine (HY.out _ HA8.out).mono ?_); rintro e w9 ⟨rfl, q9, hw9⟩; have HB9 := Lib.hid (show Below w6.heap.size w6 w9 from by rw [hw9]; exact below_drewN HB8.out _); clear hw9)
            go_quiet (fail)
            go_wp2_with fail
            go_roundw
            case rel => exact ⟨j + 1, by go_num, by omega, Lib.hid (below_drewN HB9.out _)⟩
            case measure => simp [intOf]; omega
          · have hd : decide ((j : Int) + 1 < (L.length : Int)) = false := decide_eq_false (by omega)
            have hd2 : ¬ (j : Int) + 1 < (L.length : Int) := by omega
            have hlr : ((L.length : Int) == (R.length : Int)) = true := by rw [beq_iff_eq]; omega
            have hcc : ((catW L).toList == (catW L).toList) = true := beq_self_eq_true _
            go_wp2_with (go_at_call 17; (with_reducible refine HAr.out.len.mono ?_); rintro e w7 ⟨rfl, q7, hw7⟩; have HB7 := Lib.hid (show Below w6.heap.size w6 w7 from by rw [hw7]; exact below_drewN HBr.out _); have HA7 := Lib.hid (HA6.out.below HB7.out); have HC7 := Lib.hid (HC6.out.below HB7.out); have HD7 := Lib.hid (HD6.out.below HB7.out); clear hw7)
            go_wp2_with (first
              | (go_at_call 16; (with_reducible refine HA7.out.bytes.mono ?_); rintro e w' ⟨rfl, rfl⟩)
              | (go_at_call 16; (with_reducible refine HC7.out.bytes.mono ?_); rintro e w' ⟨rfl, rfl⟩)
              | (go_at_call 16; (with_reducible refine HD7.out.bytes.mono ?_); rintro e w' ⟨rfl, rfl⟩)
              | (go_at_call 17; (with_reducible refine HA7.out.len.mono ?_); rintro e w8 ⟨rfl, q8, hw8⟩; have HB8 := Lib.hid (show Below w6.heap.size w6 w8 from by rw [hw8]; exact below_drewN HB7.out _); have HD8 := Lib.hid (HD6.out.below HB8.out); clear hw8)
              | (go_at_call 17; (with_reducible refine HD8.out.len.mono ?_); rintro e w9 ⟨rfl, q9, hw9⟩; have HB9 := Lib.hid (show Below w6.heap.size w6 w9 from by rw [hw9]; exact below_drewN HB8.out _); have HA9 := Lib.hid (HA6.out.below HB9.out); clear hw9)
              | (go_at_call 17; (with_reducible refine HA9.out.len.mono ?_); rintro e wa ⟨rfl, qa, hwa⟩; have HBa := Lib.hid (show Below w6.heap.size w6 wa from by rw [hwa]; exact below_drewN HB9.out _); clear hwa))
            go_ret
            have z1 := HB0.out.trans (HB3.out.mono HB0.out.size)
            have z2 := z1.trans (HB6.out.mono z1.size)
            exact ⟨rfl, z2.trans (HBa.out.mono z2.size)⟩
end Go.Proofs.YtbkbnkpgldemkaaDoor
