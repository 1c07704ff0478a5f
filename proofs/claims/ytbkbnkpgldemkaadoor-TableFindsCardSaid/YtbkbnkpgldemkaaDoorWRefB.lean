/-
  The document's Build.
-/
import Derived.Test.YtbkbnkpgldemkaaDoorWRefN
import Derived.Laws.Concat
namespace Go.Proofs.YtbkbnkpgldemkaaDoor
open Go Go.RowKit

theorem buildRW_len (K : Nat) (l : List ByteArray) : (buildRW K l).length = l.length := (buildRW_both K l).1.length_eq
set_option maxRecDepth 100000 in
set_option maxHeartbeats 4000000 in
theorem refBuild_any (wi ki : Int) (v : Value) (l : List ByteArray) (w : World) (hv : RowW w v l) (hl : l.length ≤ 100) (hs : ∀ x ∈ l, x.size ≤ 1048576) :
    Calls Tryd.prog 9 #[.int .i64 wi, .int .i64 ki, v] w fun e w' => ∃ u ee p, e = .returned (.agg #[u, .int .i64 ee, .int .i64 p]) ∧ (GotN w' w.heap.size u ee p (rowsW wi.toNat (catW (buildRW ki.toNat l))) (buildE wi ki l (catW (buildRW ki.toNat l))) ∧ Below w.heap.size w w') := by
  obtain ⟨i0, hii, iz0, iz1, iz2⟩ := info_parts stringInfo
  have hub := Tryd.underlying28
  have HV := Lib.hid hv
  obtain ⟨ao, c, rfl, -⟩ := hv
  go_enter Tryd.func9, Tryd.ntmps9
  go_upto_region 1 with fail
  obtain ⟨W0, hW0⟩ : ∃ W0, w.alloc (.cells #[.slice none 0 0, .int .i64 0, .int .i64 0] 28) = W0 := ⟨_, rfl⟩
  have hb0 : Below w.heap.size w W0 := by rw [← hW0]; exact (Below.refl _ w).alloc (Nat.le_refl _) _
  have hR0 : W0.heap[w.heap.size]? = some (gotObj (.slice none 0 0) 0 0) := by rw [← hW0]; exact World.alloc_heap_new w _
  have hz0 : W0.heap.size = w.heap.size + 1 := by rw [← hW0]; simp
  rw [hW0]
  have HC := Lib.hid (HV.out.below hb0)
  have HB0 := Lib.hid hb0
  have HR0 := Lib.hid hR0
  have HZ0 := Lib.hid hz0
  obtain ⟨r0, r1, r2⟩ := got_cells hR0
  have f0 := got_free hR0 0
  have f1 := got_free hR0 1
  have f2 := got_free hR0 2
  clear hW0 hb0 hR0 hz0
  by_cases b1 : ki < 1
  · have a1 : decide (ki < 1) = true := decide_eq_true b1
    have HE := Lib.hid (fun c => buildE_bad (w := wi) (l := l) (c := c) (.inl b1))
    go_wp2_with fail
    refine bodyPost_ret (results_cell_row rfl _ _ w.heap.size 28 _ (0, 0) _ rfl (got_store HR0.out _ _ _) hub rfl gotSize) rfl ?_
    exact ⟨_, _, _, rfl, by rw [HE.out]; exact ⟨rfl, rfl, rfl⟩, bel_store HB0.out (Nat.le_refl _)⟩
  · have a1 : decide (ki < 1) = false := decide_eq_false b1
    by_cases b2 : wi < ki
    · have a2 : decide (wi < ki) = true := decide_eq_true b2
      have HE := Lib.hid (fun c => buildE_bad (l := l) (c := c) (.inr (.inl b2)))
      go_wp2_with fail
      refine bodyPost_ret (results_cell_row rfl _ _ w.heap.size 28 _ (0, 0) _ rfl (got_store HR0.out _ _ _) hub rfl gotSize) rfl ?_
      exact ⟨_, _, _, rfl, by rw [HE.out]; exact ⟨rfl, rfl, rfl⟩, bel_store HB0.out (Nat.le_refl _)⟩
    · have a2 : decide (wi < ki) = false := decide_eq_false b2
      by_cases b3 : 255 < wi
      · have a3 : decide (255 < wi) = true := decide_eq_true b3
        have HE := Lib.hid (fun c => buildE_bad (k := ki) (l := l) (c := c) (.inr (.inr b3)))
        go_wp2_with fail
        refine bodyPost_ret (results_cell_row rfl _ _ w.heap.size 28 _ (0, 0) _ rfl (got_store HR0.out _ _ _) hub rfl gotSize) rfl ?_
        exact ⟨_, _, _, rfl, by rw [HE.out]; exact ⟨rfl, rfl, rfl⟩, bel_store HB0.out (Nat.le_refl _)⟩
      · have a3 : decide (255 < wi) = false := decide_eq_false b3
        obtain ⟨W, rfl⟩ : ∃ W : Nat, wi = (W : Int) := ⟨wi.toNat, by omega⟩
        obtain ⟨K, rfl⟩ : ∃ K : Nat, ki = (K : Int) := ⟨ki.toNat, by omega⟩
        have h1 : 0 < K := by omega
        have h2 : K ≤ W := by omega
        have h3 : W ≤ 255 := by omega
        have k0 : (0 : Int) ≤ (K : Int) := by omega
        have HKN := Lib.hid (show (K : Int).toNat = K from Int.toNat_natCast K)
        have HEB := Lib.hid (fun c => buildE_ok (l := l) (c := c) (show ¬ ((K : Int) < 1 ∨ (W : Int) < (K : Int) ∨ 255 < (W : Int)) by omega))
        have HSZ := Lib.hid hs
        have a4 : decide (W < K) = false := decide_eq_false (by omega)
        clear b1 b2 b3 r0 r1 r2 f0 f1 f2 hs
        go_wp2_with fail
        go_loopw [7, 8, 9, 10] (fun u i _ _ wr => ∃ k : Nat, k ≤ l.length ∧ i = .int .i64 (k : Int) ∧ Hid (∀ i r, l[i]? = some r → i < k → r.size = W) ∧ wr.ownsRow W0.heap.size 9 1 u (buildRW K (l.take k)).length (strsW (buildRW K (l.take k))) ∧ Below W0.heap.size W0 wr) (fun _ i _ _ _ => l.length - (intOf i).toNat)
        case atStart => exact ⟨0, Nat.zero_le _, rfl, Lib.hid (fun i r _ h => absurd h (Nat.not_lt_zero _)), World.ownsRow_nil _ _ _ _, Below.refl _ _⟩
        case round =>
          obtain ⟨k, hk, rfl, HK, hO, hB⟩ := hrel
          by_cases hlt : k < l.length
          · have hki : (k : Int) < (l.length : Int) := by omega
            have hd : decide (k < l.length) = true := decide_eq_true hlt
            have hk0 : (0 : Int) ≤ (k : Int) := by omega
            obtain ⟨x, hx⟩ : ∃ x, l[k]? = some x := ⟨_, List.getElem?_eq_getElem hlt⟩
            obtain ⟨ao', cap', e', hc⟩ := HC.out
            injection e' with q1 q2 q3
            subst q1
            subst q3
            obtain ⟨g0, o0, rfl, c0⟩ := hc k x hx
            have HX := Lib.hid (fun wr (hb : Below W0.heap.size W0 wr) => (hb.cell (p := ⟨g0, o0 + k, none⟩) (lt_of_cellW c0)).trans c0)
            clear hc c0
            by_cases hsz : x.size = W
            · have hd2 : ((x.size : Int) == (W : Int)) = true := by rw [beq_iff_eq]; omega
              have HKS := Lib.hid (show ∀ i r, l[i]? = some r → i < k + 1 → r.size = W from fun i r hr hi => by
                rcases Nat.lt_or_eq_of_le (Nat.le_of_lt_succ hi) with h | h
                · exact HK.out i r hr h
                · rw [h, hx] at hr; cases hr; exact hsz)
              have HN := Lib.hid (show buildRW K (l.take (k + 1)) = insW K x (buildRW K (l.take k)) by rw [take_nextW hx, buildRW_snoc])
              have hDl := buildRW_len K (l.take k)
              rw [List.length_take, Nat.min_eq_left hk] at hDl
              have HDS := Lib.hid (show ∀ y ∈ buildRW K (l.take k), y.size = W from fun y hy => by
                have hy' := (buildRW_both K (l.take k)).1.mem_iff.1 hy
                obtain ⟨i, hi⟩ := List.getElem?_of_mem hy'
                rw [List.getElem?_take] at hi
                split at hi
                · exact HK.out i y hi (by assumption)
                · cases hi)
              have x1 : (K : Int) ≤ (x.size : Int) := by omega
              clear hx hsz
              generalize buildRW K (l.take k) = D at *
              have HO := Lib.hid hO
              obtain ⟨ua, un, uc, rfl⟩ := own_sliceW hO
              obtain rfl : un = D.length := own_lenW hO
              have HCX := HX.out _ hB
              clear hO
              have hDk := Lib.hid hDl
              have hD100 : D.length ≤ 100 := by omega
              clear hDl
              go_wp2_with fail
              go_loopw [9] (fun j w1 => ∃ n : Nat, n ≤ D.length ∧ j = .int .i64 (n : Int) ∧ w1.ownsRow W0.heap.size 9 1 (.slice ua D.length uc) D.length (strsW D) ∧ Below W0.heap.size W0 w1 ∧ Hid (∀ i y, i < n → D[i]? = some y → ltW (keyW K x) (keyW K y) = false)) (fun j _ => D.length - (intOf j).toNat)
              case atStart => exact ⟨0, Nat.zero_le _, rfl, HO.out, hB, Lib.hid (fun i y h => by omega)⟩
              case round =>
                clear HCX
                obtain ⟨n, hn, rfl, hO, hB1, HP⟩ := hrel
                have hn0 : (0 : Int) ≤ (n : Int) := by omega
                have cx := HX.out _ hB1
                have hcl := (own_capW hO).2
                have hcn : (n : Int) ≤ (uc : Int) := by omega
                have HOA := Lib.hid (fun m => (show (wr.drewN m).ownsRow W0.heap.size 9 1 (.slice ua D.length uc) D.length (strsW D) from hO).alloc (.cells #[] 9))
                by_cases hnl : n < D.length
                · have hni : (n : Int) < (D.length : Int) := by omega
                  have hnd : decide (n < D.length) = true := decide_eq_true hnl
                  have hun : ¬ uc = n := by omega
                  have hne : ((n : Int) == (D.length : Int)) = false := by rw [beq_eq_false_iff_ne]; omega
                  obtain ⟨g, cap, hg⟩ := own_someW hO (by omega)
                  injection hg with q1 _ q3
                  subst q1
                  subst q3
                  obtain ⟨y, hy⟩ : ∃ y, D[n]? = some y := ⟨_, List.getElem?_eq_getElem hnl⟩
                  have cy := own_cellW hO n y hy
                  have y1 : (K : Int) ≤ (y.size : Int) := by rw [HDS.out y (mem_of_at hy)]; omega
                  cases hc : ltW (keyW K x) (keyW K y) with
                  | false =>
                    obtain ⟨z1, z2, e1, e2, e3⟩ : ∃ z1 z2, Op.bytesLess (y.extract 0 K).toList (x.extract 0 K).toList = z1 ∧ ((y.extract 0 K).toList == (x.extract 0 K).toList) = z2 ∧ (z1 || z2) = true := by
                      refine ⟨_, _, rfl, rfl, ?_⟩
                      rw [less_ltW, eql_W]
                      cases h1 : ltW (y.extract 0 K) (x.extract 0 K) with
                      | true => rfl
                      | false => rw [Bool.false_or, decide_eq_true_eq]; exact ltW_tri h1 hc
                    have HP2 := Lib.hid (show ∀ i z, i < n + 1 → D[i]? = some z → ltW (keyW K x) (keyW K z) = false from fun i z hi hz => by
                      rcases Nat.lt_or_ge i n with h | h
                      · exact HP.out i z h hz
                      · obtain rfl : i = n := by omega
                        rw [hy] at hz; cases hz; exact hc)
                    go_wp2_with fail
                    go_quiet (fail)
                    go_wp2_with fail
                    go_roundw
                    case rel => exact ⟨n + 1, by omega, by go_num, hO, below_drewN hB1 _, HP2⟩
                    case measure => simp [intOf]; omega
                  | true =>
                    have e1 : Op.bytesLess (y.extract 0 K).toList (x.extract 0 K).toList = false := by rw [less_ltW]; exact ltW_asymm hc
                    have e2 : ((y.extract 0 K).toList == (x.extract 0 K).toList) = false := by
                      rw [eql_W]
                      refine decide_eq_false (fun e => ?_)
                      have hc' : ltW (x.extract 0 K) (y.extract 0 K) = true := hc
                      rw [e, ltW_irrefl] at hc'; cases hc'
                    have HE := Lib.hid (insW_at hn HP.out (fun z hz => by rw [hy] at hz; cases hz; exact hc))
                    go_wp2_with fail
                    go_quiet (fail)
                    rcases Nat.eq_zero_or_pos n with hz | hz
                    · subst hz
                      go_upto_region 13 with (first
                        | (refine wpList_build_noneW _ rfl rfl ?_)
                        | (at_builtin; refine wpList_append_anyW _ rfl _ _ 22 rfl wr.heap.size 9 i0 (.string ByteArray.empty) 1 16 Tryd.underlying22 hii iz0 iz1 iz2 rfl (by decide) _ 0 _ rfl (own_none9W _ _) _ _ _ (strsW (D.drop 0)) rfl (by simp [strsW]) (fun h => by cases h) (fun ad ha j u hu => by cases ha; rw [Addr.add_lit]; exact own_dropW (HOA.out _) 0 j u hu) strsW_one (by unfold maxLen; omega) (by omega) (by simp) ?_; intro v6 w6 hown6 hgrow6; have hO6 := own_normW hown6; have hB6 := none9_belW hgrow6; clear hown6 hgrow6; obtain ⟨va, vn, vc, rfl⟩ := own_sliceW hO6; obtain rfl : vn = (D.drop 0).length := own_lenW hO6))
                      have hBw6 := hB1.trans (hB6.mono hB1.size)
                      have HT := Lib.hid ((show w6.drew.ownsRow W0.heap.size 9 1 (.slice (some ⟨g, 0, none⟩) D.length uc) D.length (strsW D) from own_belowW hO (Below.drew hB6)).alloc (.cells #[.string x] 9))
                      have HR6 := Lib.hid (fun w' (hb : Below w6.heap.size w6 w') => ((RowW.of_own hO6).below hb).news)
                      have cx : w6.drew.cell? ⟨g0, o0 + k, none⟩ = some (.string x) := HX.out _ (Below.drew hBw6)
                      have hba : Below w6.heap.size w6 (w6.drew.alloc (.cells #[.string x] 9)) := (Below.drew (Below.refl _ _)).alloc (Nat.le_refl _) _
                      have ca := HX.out _ (hBw6.trans (hba.mono hBw6.size))
                      have hrl : (D.drop 0).length ≤ 100 := by rw [List.length_drop]; omega
                      clear hO6
                      go_region_held3 (fun w' => w'.cell? ⟨g0, o0 + k, none⟩ = some (.string x))
                        (assumption)
                        (first
                          | (refine step_append_grows (by rfl) _ _ 22 (by rfl) 9 i0 (.string ByteArray.empty) 1 16 Tryd.underlying22 hii iz0 iz1 iz2 (by rfl) (by decide) _ 0 0 (strsW (D.take 0)) (by rfl) (fun h => by cases h) (by simp [strsW] <;> omega) (fun b hb j u hu => by cases hb; simp only [Addr.add_lit, Nat.zero_add]; exact own_takeW HT.out 0 j u hu) _ 1 1 [.string x] (by rfl) (by rfl) (World.news_of_block (World.alloc_heap_new _ _)) (by intro u hu; simp at hu; subst hu; rfl) (Nat.lt_succ_self _) (by unfold maxLen; omega) (by omega) ?_; intro v7 w7 hown7 hgrow7; have hB7 := hba.grown hgrow7 hba.size (fun g hg => by cases hg); have cx7 := HX.out _ (hBw6.trans (hB7.mono hBw6.size)); have HN7 := Lib.hid (HR6.out _ hB7))
                          | (refine step_append_anyW _ (by rfl) _ _ 22 (by rfl) _ 9 i0 (.string ByteArray.empty) 1 16 Tryd.underlying22 hii iz0 iz1 iz2 (by rfl) (by decide) _ (0 + 1) _ (by rfl) hown7 va _ vc (strsW (D.drop 0)) (by rfl) (by simp [strsW]) (fun h => by have := HN7.out.1 h; have e := List.length_drop (i := 0) (l := D); omega) HN7.out.2 strsW_one (by unfold maxLen; omega) (by omega) hgrow7.size ?_; intro v8 w8 hown8 hgrow8; have hB8 := bel_step9W hB7 (by simp) hown7 hgrow8; have cx8 := HX.out _ (hBw6.trans (hB8.mono hBw6.size))))
                      go_wp2_with fail
                      go_roundw
                      case rel => exact ⟨k + 1, by omega, by go_num, HKS, by rw [HN.out, HE.out]; exact own_insW hown8 (Nat.le_trans hBw6.size (by simp)), hBw6.trans (hB8.mono hBw6.size)⟩
                      case measure => simp [intOf]; omega
                    · have hz : ¬ n = 0 := by omega
                      go_upto_region 13 with (first
                        | (refine wpList_build_noneW _ rfl rfl ?_)
                        | (at_builtin; refine wpList_append_anyW _ rfl _ _ 22 rfl wr.heap.size 9 i0 (.string ByteArray.empty) 1 16 Tryd.underlying22 hii iz0 iz1 iz2 rfl (by decide) _ 0 _ rfl (own_none9W _ _) _ _ _ (strsW (D.drop n)) rfl (by simp [strsW]) (fun h => by cases h) (fun ad ha j u hu => by cases ha; rw [Addr.add_lit]; exact own_dropW (HOA.out _) n j u hu) strsW_one (by unfold maxLen; omega) (by omega) (by simp) ?_; intro v6 w6 hown6 hgrow6; have hO6 := own_normW hown6; have hB6 := none9_belW hgrow6; clear hown6 hgrow6; obtain ⟨va, vn, vc, rfl⟩ := own_sliceW hO6; obtain rfl : vn = (D.drop n).length := own_lenW hO6))
                      have hBw6 := hB1.trans (hB6.mono hB1.size)
                      have HT := Lib.hid ((show w6.drew.ownsRow W0.heap.size 9 1 (.slice (some ⟨g, 0, none⟩) D.length uc) D.length (strsW D) from own_belowW hO (Below.drew hB6)).alloc (.cells #[.string x] 9))
                      have HR6 := Lib.hid (fun w' (hb : Below w6.heap.size w6 w') => ((RowW.of_own hO6).below hb).news)
                      have cx : w6.drew.cell? ⟨g0, o0 + k, none⟩ = some (.string x) := HX.out _ (Below.drew hBw6)
                      have hba : Below w6.heap.size w6 (w6.drew.alloc (.cells #[.string x] 9)) := (Below.drew (Below.refl _ _)).alloc (Nat.le_refl _) _
                      have ca := HX.out _ (hBw6.trans (hba.mono hBw6.size))
                      have hrl : (D.drop n).length ≤ 100 := by rw [List.length_drop]; omega
                      clear hO6
                      go_region_held3 (fun w' => w'.cell? ⟨g0, o0 + k, none⟩ = some (.string x))
                        (assumption)
                        (first
                          | (refine step_append_grows (by rfl) _ _ 22 (by rfl) 9 i0 (.string ByteArray.empty) 1 16 Tryd.underlying22 hii iz0 iz1 iz2 (by rfl) (by decide) _ n n (strsW (D.take n)) (by rfl) (fun h => by cases h) (by simp [strsW] <;> omega) (fun b hb j u hu => by cases hb; simp only [Addr.add_lit, Nat.zero_add]; exact own_takeW HT.out n j u hu) _ 1 1 [.string x] (by rfl) (by rfl) (World.news_of_block (World.alloc_heap_new _ _)) (by intro u hu; simp at hu; subst hu; rfl) (Nat.lt_succ_self _) (by unfold maxLen; omega) (by omega) ?_; intro v7 w7 hown7 hgrow7; have hB7 := hba.grown hgrow7 hba.size (fun g hg => by cases hg); have cx7 := HX.out _ (hBw6.trans (hB7.mono hBw6.size)); have HN7 := Lib.hid (HR6.out _ hB7))
                          | (refine step_append_anyW _ (by rfl) _ _ 22 (by rfl) _ 9 i0 (.string ByteArray.empty) 1 16 Tryd.underlying22 hii iz0 iz1 iz2 (by rfl) (by decide) _ (n + 1) _ (by rfl) hown7 va _ vc (strsW (D.drop n)) (by rfl) (by simp [strsW]) (fun h => by have := HN7.out.1 h; have e := List.length_drop (i := n) (l := D); omega) HN7.out.2 strsW_one (by unfold maxLen; omega) (by omega) hgrow7.size ?_; intro v8 w8 hown8 hgrow8; have hB8 := bel_step9W hB7 (by simp) hown7 hgrow8; have cx8 := HX.out _ (hBw6.trans (hB8.mono hBw6.size))))
                      go_wp2_with fail
                      go_roundw
                      case rel => exact ⟨k + 1, by omega, by go_num, HKS, by rw [HN.out, HE.out]; exact own_insW hown8 (Nat.le_trans hBw6.size (by simp)), hBw6.trans (hB8.mono hBw6.size)⟩
                      case measure => simp [intOf]; omega
                · obtain rfl : n = D.length := by omega
                  have hni : ¬ (D.length : Int) < (D.length : Int) := by omega
                  have hdi : decide (D.length < D.length) = false := decide_eq_false (by omega)
                  have HE := Lib.hid (insW_at hn HP.out (fun z hz => by rw [List.getElem?_eq_none (Nat.le_refl _)] at hz; cases hz))
                  go_wp2_with fail
                  go_quiet (fail)
                  by_cases huc : uc = D.length
                  · rcases Nat.eq_zero_or_pos D.length with hz | hz
                    · obtain rfl : D = [] := List.eq_nil_of_length_eq_zero hz
                      go_upto_region 13 with (first
                        | (refine wpList_build_noneW _ rfl rfl ?_)
                        | (at_builtin; refine wpList_append_anyW _ rfl _ _ 22 rfl wr.heap.size 9 i0 (.string ByteArray.empty) 1 16 Tryd.underlying22 hii iz0 iz1 iz2 rfl (by decide) _ 0 _ rfl (own_none9W _ _) _ _ _ (strsW (([] : List ByteArray).drop 0)) rfl (by simp [strsW]) (fun _ => by first | rfl | omega) (fun ad ha j u hu => by simp [strsW] at hu) strsW_one (by unfold maxLen; omega) (by omega) (by simp) ?_; intro v6 w6 hown6 hgrow6; have hO6 := own_normW hown6; have hB6 := none9_belW hgrow6; clear hown6 hgrow6; obtain ⟨va, vn, vc, rfl⟩ := own_sliceW hO6; obtain rfl : vn = (([] : List ByteArray).drop 0).length := own_lenW hO6))
                      have hBw6 := hB1.trans (hB6.mono hB1.size)
                      have HT := Lib.hid ((show w6.drew.ownsRow W0.heap.size 9 1 (.slice ua ([] : List ByteArray).length uc) ([] : List ByteArray).length (strsW ([] : List ByteArray)) from own_belowW hO (Below.drew hB6)).alloc (.cells #[.string x] 9))
                      have HR6 := Lib.hid (fun w' (hb : Below w6.heap.size w6 w') => ((RowW.of_own hO6).below hb).news)
                      have cx : w6.drew.cell? ⟨g0, o0 + k, none⟩ = some (.string x) := HX.out _ (Below.drew hBw6)
                      have hba : Below w6.heap.size w6 (w6.drew.alloc (.cells #[.string x] 9)) := (Below.drew (Below.refl _ _)).alloc (Nat.le_refl _) _
                      have ca := HX.out _ (hBw6.trans (hba.mono hBw6.size))
                      have hrl : (([] : List ByteArray).drop 0).length ≤ 100 := by rw [List.length_drop]; omega
                      clear hO6
                      go_region_held3 (fun w' => w'.cell? ⟨g0, o0 + k, none⟩ = some (.string x))
                        (assumption)
                        (first
                          | (refine step_append_grows (by rfl) _ _ 22 (by rfl) 9 i0 (.string ByteArray.empty) 1 16 Tryd.underlying22 hii iz0 iz1 iz2 (by rfl) (by decide) _ 0 0 (strsW (([] : List ByteArray).take 0)) (by rfl) (fun _ => ⟨rfl, rfl⟩) (by simp [strsW] <;> omega) (fun b hb j u hu => by simp [strsW] at hu) _ 1 1 [.string x] (by rfl) (by rfl) (World.news_of_block (World.alloc_heap_new _ _)) (by intro u hu; simp at hu; subst hu; rfl) (Nat.lt_succ_self _) (by unfold maxLen; omega) (by omega) ?_; intro v7 w7 hown7 hgrow7; have hB7 := hba.grown hgrow7 hba.size (fun g hg => by cases hg); have cx7 := HX.out _ (hBw6.trans (hB7.mono hBw6.size)); have HN7 := Lib.hid (HR6.out _ hB7))
                          | (refine step_append_anyW _ (by rfl) _ _ 22 (by rfl) _ 9 i0 (.string ByteArray.empty) 1 16 Tryd.underlying22 hii iz0 iz1 iz2 (by rfl) (by decide) _ (0 + 1) _ (by rfl) hown7 va _ vc (strsW (([] : List ByteArray).drop 0)) (by rfl) (by simp [strsW]) (fun h => by have := HN7.out.1 h; have e := List.length_drop (i := 0) (l := ([] : List ByteArray)); omega) HN7.out.2 strsW_one (by unfold maxLen; omega) (by omega) hgrow7.size ?_; intro v8 w8 hown8 hgrow8; have hB8 := bel_step9W hB7 (by simp) hown7 hgrow8; have cx8 := HX.out _ (hBw6.trans (hB8.mono hBw6.size))))
                      go_wp2_with fail
                      go_roundw
                      case rel => exact ⟨k + 1, by omega, by go_num, HKS, by rw [HN.out, HE.out]; exact own_insW hown8 (Nat.le_trans hBw6.size (by simp)), hBw6.trans (hB8.mono hBw6.size)⟩
                      case measure => simp [intOf]; omega
                    · have hz : ¬ D.length = 0 := by omega
                      obtain ⟨g, cap, hg⟩ := own_someW hO (by omega)
                      injection hg with q1 _ q3
                      subst q1
                      subst q3
                      go_upto_region 13 with (first
                        | (refine wpList_build_noneW _ rfl rfl ?_)
                        | (at_builtin; refine wpList_append_anyW _ rfl _ _ 22 rfl wr.heap.size 9 i0 (.string ByteArray.empty) 1 16 Tryd.underlying22 hii iz0 iz1 iz2 rfl (by decide) _ 0 _ rfl (own_none9W _ _) _ _ _ (strsW (D.drop D.length)) rfl (by simp [strsW]) (fun _ => by first | rfl | omega) (fun ad ha j u hu => by simp [strsW] at hu) strsW_one (by unfold maxLen; omega) (by omega) (by simp) ?_; intro v6 w6 hown6 hgrow6; have hO6 := own_normW hown6; have hB6 := none9_belW hgrow6; clear hown6 hgrow6; obtain ⟨va, vn, vc, rfl⟩ := own_sliceW hO6; obtain rfl : vn = (D.drop D.length).length := own_lenW hO6))
                      have hBw6 := hB1.trans (hB6.mono hB1.size)
                      have HT := Lib.hid ((show w6.drew.ownsRow W0.heap.size 9 1 (.slice (some ⟨g, 0, none⟩) D.length uc) D.length (strsW D) from own_belowW hO (Below.drew hB6)).alloc (.cells #[.string x] 9))
                      have HR6 := Lib.hid (fun w' (hb : Below w6.heap.size w6 w') => ((RowW.of_own hO6).below hb).news)
                      have cx : w6.drew.cell? ⟨g0, o0 + k, none⟩ = some (.string x) := HX.out _ (Below.drew hBw6)
                      have hba : Below w6.heap.size w6 (w6.drew.alloc (.cells #[.string x] 9)) := (Below.drew (Below.refl _ _)).alloc (Nat.le_refl _) _
                      have ca := HX.out _ (hBw6.trans (hba.mono hBw6.size))
                      have hrl : (D.drop D.length).length ≤ 100 := by rw [List.length_drop]; omega
                      clear hO6
                      go_region_held3 (fun w' => w'.cell? ⟨g0, o0 + k, none⟩ = some (.string x))
                        (assumption)
                        (first
                          | (refine step_append_grows (by rfl) _ _ 22 (by rfl) 9 i0 (.string ByteArray.empty) 1 16 Tryd.underlying22 hii iz0 iz1 iz2 (by rfl) (by decide) _ D.length D.length (strsW (D.take D.length)) (by rfl) (fun h => by cases h) (by simp [strsW] <;> omega) (fun b hb j u hu => by cases hb; simp only [Addr.add_lit, Nat.zero_add]; exact own_takeW HT.out D.length j u hu) _ 1 1 [.string x] (by rfl) (by rfl) (World.news_of_block (World.alloc_heap_new _ _)) (by intro u hu; simp at hu; subst hu; rfl) (Nat.lt_succ_self _) (by unfold maxLen; omega) (by omega) ?_; intro v7 w7 hown7 hgrow7; have hB7 := hba.grown hgrow7 hba.size (fun g hg => by cases hg); have cx7 := HX.out _ (hBw6.trans (hB7.mono hBw6.size)); have HN7 := Lib.hid (HR6.out _ hB7))
                          | (refine step_append_anyW _ (by rfl) _ _ 22 (by rfl) _ 9 i0 (.string ByteArray.empty) 1 16 Tryd.underlying22 hii iz0 iz1 iz2 (by rfl) (by decide) _ (D.length + 1) _ (by rfl) hown7 va _ vc (strsW (D.drop D.length)) (by rfl) (by simp [strsW]) (fun h => by have := HN7.out.1 h; have e := List.length_drop (i := D.length) (l := D); omega) HN7.out.2 strsW_one (by unfold maxLen; omega) (by omega) hgrow7.size ?_; intro v8 w8 hown8 hgrow8; have hB8 := bel_step9W hB7 (by simp) hown7 hgrow8; have cx8 := HX.out _ (hBw6.trans (hB8.mono hBw6.size))))
                      go_wp2_with fail
                      go_roundw
                      case rel => exact ⟨k + 1, by omega, by go_num, HKS, by rw [HN.out, HE.out]; exact own_insW hown8 (Nat.le_trans hBw6.size (by simp)), hBw6.trans (hB8.mono hBw6.size)⟩
                      case measure => simp [intOf]; omega
                  · rcases Nat.eq_zero_or_pos D.length with hz | hz
                    · obtain rfl : D = [] := List.eq_nil_of_length_eq_zero hz
                      go_upto_region 13 with (first
                        | (refine wpList_build_noneW _ rfl rfl ?_)
                        | (at_builtin; refine wpList_append_anyW _ rfl _ _ 22 rfl wr.heap.size 9 i0 (.string ByteArray.empty) 1 16 Tryd.underlying22 hii iz0 iz1 iz2 rfl (by decide) _ 0 _ rfl (own_none9W _ _) _ _ _ (strsW (([] : List ByteArray).drop 0)) rfl (by simp [strsW]) (fun _ => by first | rfl | omega) (fun ad ha j u hu => by simp [strsW] at hu) strsW_one (by unfold maxLen; omega) (by omega) (by simp) ?_; intro v6 w6 hown6 hgrow6; have hO6 := own_normW hown6; have hB6 := none9_belW hgrow6; clear hown6 hgrow6; obtain ⟨va, vn, vc, rfl⟩ := own_sliceW hO6; obtain rfl : vn = (([] : List ByteArray).drop 0).length := own_lenW hO6))
                      have hBw6 := hB1.trans (hB6.mono hB1.size)
                      have HT := Lib.hid ((show w6.drew.ownsRow W0.heap.size 9 1 (.slice ua ([] : List ByteArray).length uc) ([] : List ByteArray).length (strsW ([] : List ByteArray)) from own_belowW hO (Below.drew hB6)).alloc (.cells #[.string x] 9))
                      have HR6 := Lib.hid (fun w' (hb : Below w6.heap.size w6 w') => ((RowW.of_own hO6).below hb).news)
                      have cx : w6.drew.cell? ⟨g0, o0 + k, none⟩ = some (.string x) := HX.out _ (Below.drew hBw6)
                      have hba : Below w6.heap.size w6 (w6.drew.alloc (.cells #[.string x] 9)) := (Below.drew (Below.refl _ _)).alloc (Nat.le_refl _) _
                      have ca := HX.out _ (hBw6.trans (hba.mono hBw6.size))
                      have hrl : (([] : List ByteArray).drop 0).length ≤ 100 := by rw [List.length_drop]; omega
                      clear hO6
                      go_region_held3 (fun w' => w'.cell? ⟨g0, o0 + k, none⟩ = some (.string x))
                        (assumption)
                        (first
                          | (refine step_append_grows (by rfl) _ _ 22 (by rfl) 9 i0 (.string ByteArray.empty) 1 16 Tryd.underlying22 hii iz0 iz1 iz2 (by rfl) (by decide) _ 0 0 (strsW (([] : List ByteArray).take 0)) (by rfl) (fun _ => ⟨rfl, rfl⟩) (by simp [strsW] <;> omega) (fun b hb j u hu => by simp [strsW] at hu) _ 1 1 [.string x] (by rfl) (by rfl) (World.news_of_block (World.alloc_heap_new _ _)) (by intro u hu; simp at hu; subst hu; rfl) (Nat.lt_succ_self _) (by unfold maxLen; omega) (by omega) ?_; intro v7 w7 hown7 hgrow7; have hB7 := hba.grown hgrow7 hba.size (fun g hg => by cases hg); have cx7 := HX.out _ (hBw6.trans (hB7.mono hBw6.size)); have HN7 := Lib.hid (HR6.out _ hB7))
                          | (refine step_append_anyW _ (by rfl) _ _ 22 (by rfl) _ 9 i0 (.string ByteArray.empty) 1 16 Tryd.underlying22 hii iz0 iz1 iz2 (by rfl) (by decide) _ (0 + 1) _ (by rfl) hown7 va _ vc (strsW (([] : List ByteArray).drop 0)) (by rfl) (by simp [strsW]) (fun h => by have := HN7.out.1 h; have e := List.length_drop (i := 0) (l := ([] : List ByteArray)); omega) HN7.out.2 strsW_one (by unfold maxLen; omega) (by omega) hgrow7.size ?_; intro v8 w8 hown8 hgrow8; have hB8 := bel_step9W hB7 (by simp) hown7 hgrow8; have cx8 := HX.out _ (hBw6.trans (hB8.mono hBw6.size))))
                      go_wp2_with fail
                      go_roundw
                      case rel => exact ⟨k + 1, by omega, by go_num, HKS, by rw [HN.out, HE.out]; exact own_insW hown8 (Nat.le_trans hBw6.size (by simp)), hBw6.trans (hB8.mono hBw6.size)⟩
                      case measure => simp [intOf]; omega
                    · have hz : ¬ D.length = 0 := by omega
                      obtain ⟨g, cap, hg⟩ := own_someW hO (by omega)
                      injection hg with q1 _ q3
                      subst q1
                      subst q3
                      go_upto_region 13 with (first
                        | (refine wpList_build_noneW _ rfl rfl ?_)
                        | (at_builtin; refine wpList_append_anyW _ rfl _ _ 22 rfl wr.heap.size 9 i0 (.string ByteArray.empty) 1 16 Tryd.underlying22 hii iz0 iz1 iz2 rfl (by decide) _ 0 _ rfl (own_none9W _ _) _ _ _ (strsW (D.drop D.length)) rfl (by simp [strsW]) (fun _ => by first | rfl | omega) (fun ad ha j u hu => by simp [strsW] at hu) strsW_one (by unfold maxLen; omega) (by omega) (by simp) ?_; intro v6 w6 hown6 hgrow6; have hO6 := own_normW hown6; have hB6 := none9_belW hgrow6; clear hown6 hgrow6; obtain ⟨va, vn, vc, rfl⟩ := own_sliceW hO6; obtain rfl : vn = (D.drop D.length).length := own_lenW hO6))
                      have hBw6 := hB1.trans (hB6.mono hB1.size)
                      have HT := Lib.hid ((show w6.drew.ownsRow W0.heap.size 9 1 (.slice (some ⟨g, 0, none⟩) D.length uc) D.length (strsW D) from own_belowW hO (Below.drew hB6)).alloc (.cells #[.string x] 9))
                      have HR6 := Lib.hid (fun w' (hb : Below w6.heap.size w6 w') => ((RowW.of_own hO6).below hb).news)
                      have cx : w6.drew.cell? ⟨g0, o0 + k, none⟩ = some (.string x) := HX.out _ (Below.drew hBw6)
                      have hba : Below w6.heap.size w6 (w6.drew.alloc (.cells #[.string x] 9)) := (Below.drew (Below.refl _ _)).alloc (Nat.le_refl _) _
                      have ca := HX.out _ (hBw6.trans (hba.mono hBw6.size))
                      have hrl : (D.drop D.length).length ≤ 100 := by rw [List.length_drop]; omega
                      clear hO6
                      go_region_held3 (fun w' => w'.cell? ⟨g0, o0 + k, none⟩ = some (.string x))
                        (assumption)
                        (first
                          | (refine step_append_grows (by rfl) _ _ 22 (by rfl) 9 i0 (.string ByteArray.empty) 1 16 Tryd.underlying22 hii iz0 iz1 iz2 (by rfl) (by decide) _ D.length D.length (strsW (D.take D.length)) (by rfl) (fun h => by cases h) (by simp [strsW] <;> omega) (fun b hb j u hu => by cases hb; simp only [Addr.add_lit, Nat.zero_add]; exact own_takeW HT.out D.length j u hu) _ 1 1 [.string x] (by rfl) (by rfl) (World.news_of_block (World.alloc_heap_new _ _)) (by intro u hu; simp at hu; subst hu; rfl) (Nat.lt_succ_self _) (by unfold maxLen; omega) (by omega) ?_; intro v7 w7 hown7 hgrow7; have hB7 := hba.grown hgrow7 hba.size (fun g hg => by cases hg); have cx7 := HX.out _ (hBw6.trans (hB7.mono hBw6.size)); have HN7 := Lib.hid (HR6.out _ hB7))
                          | (refine step_append_anyW _ (by rfl) _ _ 22 (by rfl) _ 9 i0 (.string ByteArray.empty) 1 16 Tryd.underlying22 hii iz0 iz1 iz2 (by rfl) (by decide) _ (D.length + 1) _ (by rfl) hown7 va _ vc (strsW (D.drop D.length)) (by rfl) (by simp [strsW]) (fun h => by have := HN7.out.1 h; have e := List.length_drop (i := D.length) (l := D); omega) HN7.out.2 strsW_one (by unfold maxLen; omega) (by omega) hgrow7.size ?_; intro v8 w8 hown8 hgrow8; have hB8 := bel_step9W hB7 (by simp) hown7 hgrow8; have cx8 := HX.out _ (hBw6.trans (hB8.mono hBw6.size))))
                      go_wp2_with fail
                      go_roundw
                      case rel => exact ⟨k + 1, by omega, by go_num, HKS, by rw [HN.out, HE.out]; exact own_insW hown8 (Nat.le_trans hBw6.size (by simp)), hBw6.trans (hB8.mono hBw6.size)⟩
                      case measure => simp [intOf]; omega
            · have hd2 : ((x.size : Int) == (W : Int)) = false := by rw [beq_eq_false_iff_ne]; omega
              have HOD := Lib.hid (show oddW (W : Int) l = some k from by
                unfold oddW
                rw [List.findIdx?_eq_some_iff_getElem]
                obtain ⟨hk', rfl⟩ := List.getElem?_eq_some_iff.1 hx
                refine ⟨hk', by simpa [Int.natCast_inj] using hsz, fun j hj => ?_⟩
                have := HK.out j _ (List.getElem?_eq_getElem (by omega)) hj
                simp [this])
              have hR := (hB.block _ (lt_of_block HR0.out)).trans HR0.out
              obtain ⟨r0, r1, r2⟩ := got_cells hR
              have f0 := got_free hR 0
              have f1 := got_free hR 1
              have f2 := got_free hR 2
              have HRr := Lib.hid hR
              have HCX := HX.out _ hB
              clear hR hx hsz hO
              go_wp2_with fail
              refine bodyPost_ret (results_cell_row rfl _ _ w.heap.size 28 _ (0, 0) _ rfl (got_store HRr.out _ _ _) hub rfl gotSize) rfl ?_
              exact ⟨_, _, _, rfl, by rw [HEB.out, HOD.out]; exact ⟨rfl, rfl, rfl⟩, bel_store (HB0.out.trans (hB.mono HB0.out.size)) (Nat.le_refl _)⟩
          · obtain rfl : k = l.length := by omega
            have hki : ¬ (l.length : Int) < (l.length : Int) := by omega
            have hd : decide (l.length < l.length) = false := decide_eq_false (by omega)
            rw [List.take_of_length_le (Nat.le_refl _)] at hO
            have hall : ∀ x ∈ l, x.size = W := by
              intro x hx
              obtain ⟨i, hi⟩ := List.getElem?_of_mem hx
              exact HK.out i x hi (List.getElem?_eq_some_iff.1 hi).1
            have HOD := Lib.hid (show oddW (W : Int) l = none from List.findIdx?_eq_none_iff.2 fun x hx => by simp [hall x hx])
            have hBl := buildRW_len K l
            have HBS := Lib.hid (show ∀ y ∈ buildRW K l, y.size = W from fun y hy => hall y ((buildRW_both K l).1.mem_iff.1 hy))
            obtain ⟨B, hBe⟩ : ∃ B, buildRW K l = B := ⟨_, rfl⟩
            rw [hBe] at hO hBl HBS
            have hcs : (catW B).size ≤ 1048576 := by
              rw [cat_size HBS.out, hBl]
              have : l.length * W ≤ 100 * 255 := Nat.mul_le_mul hl h3
              omega
            have HNW := Lib.hid (fun w5 => refNew_any (W : Int) (K : Int) (catW B) w5 hcs)
            have HGO := Lib.hid (show buildE (W : Int) (K : Int) l (catW B) = newE (W : Int) (K : Int) (catW B) by rw [HEB.out, HOD.out])
            have HBe := Lib.hid (show buildRW (K : Int).toNat l = B by rw [HKN.out, hBe])
            have HO := Lib.hid hO
            obtain ⟨ua, cap, hsl⟩ := (RowW.of_own hO).slice
            subst hsl
            clear hBe hall hO hlt hk HK
            have HCAT := Lib.hid hcs
            have hB100 : B.length ≤ 100 := by omega
            clear hBl hcs
            go_wp2_with fail
            generalize wr = w2 at *
            go_loopw [11, 12] (fun b i wq => ∃ k : Nat, i = .int .i64 (k : Int) ∧ k ≤ B.length ∧ b = .string (catW (B.take k)) ∧ wq = w2) (fun _ i _ => B.length + 1 - (intOf i).toNat)
            case atStart => exact ⟨0, rfl, Nat.zero_le _, rfl, rfl⟩
            case round =>
              obtain ⟨k, rfl, hk, rfl, hwq⟩ := hrel
              subst hwq
              by_cases hlt : k < B.length
              · have hki : (k : Int) < (B.length : Int) := by omega
                have hd : decide (k < B.length) = true := decide_eq_true hlt
                have hk0 : (0 : Int) ≤ (k : Int) := by omega
                obtain ⟨x, hx⟩ : ∃ x, B[k]? = some x := ⟨_, List.getElem?_eq_getElem hlt⟩
                obtain ⟨ao', cap', e', hc⟩ := RowW.of_own HO.out
                injection e' with q1 q2 q3
                subst q1
                subst q3
                obtain ⟨g0, o0, rfl, c0⟩ := hc k x hx
                have HST := Lib.hid (show catW (B.take k) ++ x = catW (B.take (k + 1)) by rw [take_nextW hx, cat_snoc])
                have hq : ¬ 9223372036854775807 < (catW (B.take k)).size + x.size := by
                  rw [cat_size (W := W) (fun y hy => HBS.out y (List.mem_of_mem_take hy)), HBS.out x (mem_of_at hx)]
                  have : (B.take k).length * W ≤ 100 * 255 := Nat.mul_le_mul (by rw [List.length_take]; omega) h3
                  omega
                clear hc hx
                generalize catW (B.take k) = cc at *
                go_wp2_with fail
                go_roundw
                case rel => exact ⟨k + 1, by go_num, by omega, by rw [HST.out], trivial⟩
                case measure => simp [intOf]; omega
              · obtain rfl : k = B.length := by omega
                have hki : ¬ (B.length : Int) < (B.length : Int) := by omega
                have hd : decide (B.length < B.length) = false := decide_eq_false (by omega)
                rw [List.take_of_length_le (Nat.le_refl _)]
                have HRb := Lib.hid (fun w5 (hb : Below wr.heap.size wr w5) => ((hB.trans (hb.mono hB.size)).block _ (lt_of_block HR0.out)).trans HR0.out)
                have HBB := Lib.hid hB
                clear hB
                go_wp2_with (go_at_call 21; (with_reducible refine (HNW.out _).mono ?_); rintro e w5 ⟨u5, ee, p5, rfl, hg, hb⟩; have hR := HRb.out _ hb; obtain ⟨r0, r1, r2⟩ := got_cells hR; have f0 := got_free hR 0; have f1 := got_free hR 1; have f2 := got_free hR 2; have HG := Lib.hid hg; obtain ⟨a5, n5, c5, hu5⟩ := hg.slice; subst hu5; have HB5 := Lib.hid hb; have HRr := Lib.hid hR; clear hg hb hR)
                refine bodyPost_ret (results_cell_row rfl _ _ w.heap.size 28 _ (0, 0) _ rfl (got_store HRr.out _ _ _) hub rfl gotSize) rfl ?_
                have hz := HZ0.out
                have hbz := HBB.out.size
                have z1 := HB0.out.trans (HBB.out.mono HB0.out.size)
                refine ⟨_, _, _, rfl, ?_, bel_store (z1.trans (HB5.out.mono z1.size)) (Nat.le_refl _)⟩
                rw [HBe.out, HGO.out]
                exact HG.out.store (by omega) (by omega)
end Go.Proofs.YtbkbnkpgldemkaaDoor
