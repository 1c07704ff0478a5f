/-
  TableStops: its walk.
-/
import Derived.Test.YtbkbnkpgldemkaaDoorWCount
import Derived.Test.YtbkbnkpgldemkaaDoorWArgs
import Derived.Deep.RegionHeld3
namespace Go.Proofs.YtbkbnkpgldemkaaDoor
open Go Go.RowKit

attribute [local go_sem] Oper.semAt_some

theorem stopsW_end {w W4 : World} {D D2 : Nat} {a : Act} (hr : W4.heap[w.heap.size + 1]? = some (.cells #[.bool false] 4 (0, 0))) (h2 : W4.heap[D2]? = some (.deferred (some []))) (h1 : W4.heap[D]? = some (.deferred (some [])))
    (hd : D < D2) (hw1 : w.heap.size + 1 < D) (hw2 : w.heap.size + 1 < D2) (hB : Below w.heap.size w W4) (ha : a.defers = [{ target := .collected D2, args := #[] }, { target := .collected D, args := #[] }]) (ht : a.tmps.getD 4 undef = .pointer (some ⟨w.heap.size + 1, 0, none⟩)) :
    bodyPostM Fence.wide 0 Tryd.prog Tryd.f5 (fun e w' => e = .returned (.bool true) ∧ Below w.heap.size w w') .ret a (W4.setCell ⟨w.heap.size + 1, 0, none⟩ (.bool true)) := by
  have k2 : (W4.setCell ⟨w.heap.size + 1, 0, none⟩ (.bool true)).heap[D2]? = some (.deferred (some [])) := (Below.heap_setCell _ _ _ _ (by show D2 ≠ w.heap.size + 1; omega)).trans h2
  have k1 : ((W4.setCell ⟨w.heap.size + 1, 0, none⟩ (.bool true)).putObj D2 (.deferred none)).heap[D]? = some (.deferred (some [])) := (World.putObj_heap_other (by omega)).trans ((Below.heap_setCell _ _ _ _ (by show D ≠ w.heap.size + 1; omega)).trans h1)
  have kr : (((W4.setCell ⟨w.heap.size + 1, 0, none⟩ (.bool true)).putObj D2 (.deferred none)).putObj D (.deferred none)).heap[w.heap.size + 1]? = some (.cells #[.bool true] 4 (0, 0)) :=
    (World.putObj_heap_other (by omega)).trans ((World.putObj_heap_other (by omega)).trans (one_setCell hr))
  have hB5 := (hB.setCell (p := ⟨w.heap.size + 1, 0, none⟩) (by show w.heap.size ≤ w.heap.size + 1; omega) (.bool true))
  obtain ⟨tmps, defers⟩ := a
  dsimp only at ha ht
  subst ha
  rw [Array.getD_eq_getD_getElem?] at ht
  refine ⟨by simp, .inl ⟨_, _, rfl, run_takeDeferred k2, ?_⟩⟩
  refine ⟨by simp, .inl ⟨_, _, rfl, run_takeDeferred k1, ?_⟩⟩
  refine ⟨.bool true, by simp [results, Tryd.results5, go_sem, ht, cell_of_one kr], rfl, ?_⟩
  have b1 := hB5.trans (belowK_b (w := w) (Nat.le_refl _) _ D2 _ (.deferred none) (by omega) k2 rfl rfl)
  exact b1.trans (belowK_b (w := w) (Nat.le_refl _) _ D _ _ (by omega) k1 rfl rfl)

set_option maxRecDepth 100000 in
set_option maxHeartbeats 8000000 in
theorem tableStops_law (v : Value) (l : List ByteArray) (a0 a1 : Int) (w : World) (hv : TextsIn w v l) (hg : TypeLaid w) :
    Calls Tryd.prog 5 #[v, .agg #[.int .i64 a0, .int .i64 a1]] w fun e w' => e = .returned (.bool true) ∧ Below w.heap.size w w' := by
  obtain ⟨hrow, hls⟩ := rowW_texts hv
  have hc0 := restW_lt a0 9 (by omega)
  obtain ⟨c0, hc0e⟩ : ∃ c, restW a0 9 = c := ⟨_, rfl⟩
  rw [hc0e] at hc0
  obtain ⟨W, hW⟩ : ∃ W, c0 + 1 = W := ⟨_, rfl⟩
  have hW1 : 1 ≤ W := by omega
  have hW9 : W ≤ 9 := by omega
  obtain ⟨k, hke⟩ : ∃ c, restW a1 14 = c := ⟨_, rfl⟩
  have hk14 : k < 14 := by rw [← hke]; exact restW_lt a1 14 (by omega)
  have RS0 := Lib.hid (fun w5 => show Calls Tryd.prog 8 #[.int .i64 a0, .int .i64 9] w5 fun e w' => e = .returned (.int .i64 (c0 : Int)) ∧ w5 = w' by
    have := rest11_any a0 9 w5 (by omega) (by omega)
    rwa [hc0e] at this)
  have RS1 := Lib.hid (fun w5 => show Calls Tryd.prog 8 #[.int .i64 a1, .int .i64 14] w5 fun e w' => e = .returned (.int .i64 (k : Int)) ∧ w5 = w' by
    have := rest11_any a1 14 w5 (by omega) (by omega)
    rwa [hke] at this)
  have hWe : 1 + (c0 : Int) = (W : Int) := by omega
  have HROW := Lib.hid hrow
  have HLS := Lib.hid hls
  have HG := Lib.hid hg
  obtain ⟨ao, cap, rfl, -⟩ := hrow
  clear hv hls hg hc0e hc0 hW hke
  refine callsIn_wide (n := 0) |>.1 ?_
  refine callsIn_of_wp_marks Tryd.func5 rfl trivial ?_ rfl
  simp only [Tryd.ntmps5, List.size_toArray, List.length_cons, List.length_nil, Nat.reduceAdd, Nat.reduceSub, Array.replicate_succ, Array.replicate_zero, List.push_toArray, List.append_toArray, List.nil_append, List.cons_append]
  gi_wp2_with fail
  obtain ⟨W0, hW0⟩ : ∃ W0, (w.alloc (.cells #[.int .i64 a0, .int .i64 a1] 48)).alloc (.cells #[.bool false] 4) = W0 := ⟨_, rfl⟩
  have hb0 : Below w.heap.size w W0 := by rw [← hW0]; exact ((Below.refl _ w).alloc (Nat.le_refl _) _).alloc (by simp) _
  have hs0 : W0.heap.size = w.heap.size + 2 := by rw [← hW0]; simp
  have hh0 : W0.heap[w.heap.size]? = some (.cells #[.int .i64 a0, .int .i64 a1] 48 (0, 0)) := by rw [← hW0, Below.heap_alloc _ _ _ (by simp)]; exact World.alloc_heap_new w _
  have hr0 : W0.heap[w.heap.size + 1]? = some (.cells #[.bool false] 4 (0, 0)) := by
    rw [← hW0]
    have := World.alloc_heap_new (w.alloc (.cells #[.int .i64 a0, .int .i64 a1] 48)) (.cells #[.bool false] 4)
    rwa [World.size_alloc] at this
  rw [hW0]
  have HQ := Lib.hid (fun w5 (hb : Below W0.heap.size W0 w5) => show w5.cell? ⟨w.heap.size, 0, none⟩ = some (.int .i64 a0) ∧ w5.cell? ⟨w.heap.size, 1, none⟩ = some (.int .i64 a1) from by
    have h := (hb.block _ (lt_of_block hh0)).trans hh0
    simp [World.cell?, h])
  have HR0 := Lib.hid (fun w5 (hb : Below W0.heap.size W0 w5) => (hb.block _ (lt_of_block hr0)).trans hr0)
  have HB0 := Lib.hid hb0
  have HS0 := Lib.hid hs0
  have HRS := Lib.hid (And.intro (rowsT_len W l) (rowsT_size l hW9))
  have RW := Lib.hid (fun w5 (hb : Below W0.heap.size W0 w5) => rows11_zero (.slice ao l.length cap) l W w5 hW9 (HROW.out.below (hb0.trans (hb.mono hb0.size))) HLS.out)
  clear hW0 hh0 hr0 hb0 hs0
  generalize rowsT W l = R at *
  refine ⟨trivial, rfl, (callsIn_wide.2 (awake11_any W0)).mono ?_⟩
  rintro e w1 ⟨rfl, hb1⟩
  obtain ⟨q0, q1⟩ := HQ.out _ hb1
  have HB1 := Lib.hid hb1
  clear hb1
  gi_wp2_with fail
  refine ⟨trivial, rfl, (callsIn_wide.2 (RS0.out _)).mono ?_⟩
  rintro e w' ⟨rfl, rfl⟩
  gi_wp2_with fail
  refine ⟨trivial, rfl, (callsIn_wide.2 (RW.out _ HB1.out)).mono ?_⟩
  rintro e w2 ⟨u, rfl, hu⟩
  have HU := Lib.hid hu
  obtain ⟨ao2, cap2, hsl⟩ := (RowW.of_own hu.1).slice
  subst hsl
  have HB2 := Lib.hid (HB1.out.trans (hu.2.mono HB1.out.size))
  clear hu q0 q1
  obtain ⟨hRl, hRs⟩ := HRS.out
  gi_wp2_with fail
  cases hbad : badW W (sortW R) with
  | some i =>
    refine ⟨trivial, rfl, (callsIn_wide.2 (build_err w2 (RowW.of_own HU.out.1) hW1 (Nat.le_refl W) (by omega) (by omega) hRs hbad)).mono ?_⟩
    rintro e w3 ⟨ty, uu, rfl, hf, hb⟩
    have hb3 := HB2.out.trans (hb.mono HB2.out.size)
    have hg3 := (HG.out.below HB0.out HG.out.size).below hb3 (Nat.lt_of_lt_of_le HG.out.size HB0.out.size)
    have HKD := Lib.hid (kindW_any w3 hf hg3)
    have HB3 := Lib.hid hb3
    clear hf hb hb3 hg3 hbad
    gi_wp2_with fail
    refine ⟨trivial, rfl, (callsIn_wide.2 HKD.out).mono ?_⟩
    rintro e w4 ⟨rfl, hb4⟩
    have hr4 := HR0.out w4 (HB3.out.trans (hb4.mono HB3.out.size))
    have c4 := cell_of_one hr4
    have f4 := free_of_one hr4
    have HR4 := Lib.hid hr4
    have HB4 := Lib.hid (HB3.out.trans (hb4.mono HB3.out.size))
    clear hb4 hr4
    gi_wp2_with fail
    have k1 : (w4.setCell ⟨w.heap.size + 1, 0, none⟩ (.bool true)).heap[w.heap.size + 1]? = some (.cells #[.bool true] 4 (0, 0)) := one_setCell HR4.out
    refine ⟨.bool true, by simp [results, Tryd.results5, go_sem, cell_of_one k1], rfl, ?_⟩
    exact (HB0.out.trans (HB4.out.mono HB0.out.size)).setCell (p := ⟨w.heap.size + 1, 0, none⟩) (by show w.heap.size ≤ w.heap.size + 1; omega) _
  | none =>
    refine ⟨trivial, rfl, (callsIn_wide.2 (build_ok w2 (RowW.of_own HU.out.1) hW1 (Nat.le_refl W) (by omega) (by omega) hRs hbad)).mono ?_⟩
    rintro e w3 ⟨b, rfl, ht, hb⟩
    have HT3 := Lib.hid ht
    have HB3 := Lib.hid (HB2.out.trans (hb.mono HB2.out.size))
    have hLl : (sortW R).length ≤ 12 := by rw [sortW_len]; exact hRl
    clear ht hb hbad hRs hRl
    generalize sortW R = L at *
    gi_wp2_with fail
    refine ⟨trivial, rfl, (callsIn_wide.2 (prefix_make (some ⟨b, 0, none⟩) ⟨#[]⟩ w3)).mono ?_⟩
    rintro e w4 ⟨rfl, hw4⟩
    have hb4 : Below w3.heap.size w3 w4 := by rw [← hw4]; exact ((Below.refl _ w3).alloc (Nat.le_refl _) _).alloc (by simp) _
    have hx1 : w4.heap[w3.heap.size]? = some (.cells #[.pointer (some ⟨b, 0, none⟩)] 31 (0, 0)) := by rw [← hw4, Below.heap_alloc _ _ _ (by simp)]; exact World.alloc_heap_new w3 _
    have hx2 : w4.heap[w3.heap.size + 1]? = some (.cells #[.string ⟨#[]⟩] 9 (0, 0)) := by
      rw [← hw4]
      have := World.alloc_heap_new (w3.alloc (.cells #[.pointer (some ⟨b, 0, none⟩)] 31)) (.cells #[.string ({ data := #[] } : ByteArray)] 9)
      rwa [World.size_alloc] at this
    have HT4 := Lib.hid (HT3.out.below hb4)
    have HB4 := Lib.hid (HB3.out.trans (hb4.mono HB3.out.size))
    obtain ⟨B1, hB1e⟩ : ∃ n, w3.heap.size = n := ⟨_, rfl⟩
    rw [hB1e] at hx1 hx2 ⊢
    have HX1 := Lib.hid hx1
    have HX2 := Lib.hid hx2
    clear hw4 hb4 hx1 hx2 hB1e HT3 HB3
    have hnil := seqW_nil2 (.pointer (some ⟨B1, 0, none⟩)) (.pointer (some ⟨B1 + 1, 0, none⟩))
    obtain ⟨q0, q1⟩ := HQ.out _ HB4.out
    gi_wp2_with fail
    refine ⟨trivial, rfl, (callsIn_wide.2 (RS1.out _)).mono ?_⟩
    rintro e w' ⟨rfl, rfl⟩
    gi_wp2_with fail
    obtain ⟨M, hM⟩ : ∃ n, w4.heap.size = n := ⟨_, rfl⟩
    obtain ⟨W7, hW7⟩ : ∃ W7, (w4.alloc (.cells #[.int .i64 (k : Int)] 3)).alloc (.cells #[.int .i64 0] 3) = W7 := ⟨_, rfl⟩
    have hb7 : Below w4.heap.size w4 W7 := by rw [← hW7]; exact ((Below.refl _ w4).alloc (Nat.le_refl _) _).alloc (by simp) _
    have hs7 : W7.heap.size = M + 2 := by rw [← hW7, ← hM]; simp
    have hk7 : W7.heap[M]? = some (.cells #[.int .i64 (k : Int)] 3 (0, 0)) := by rw [← hW7, ← hM, Below.heap_alloc _ _ _ (by simp)]; exact World.alloc_heap_new w4 _
    have hg7 : W7.heap[M + 1]? = some (.cells #[.int .i64 0] 3 (0, 0)) := by
      rw [← hW7, ← hM]
      have := World.alloc_heap_new (w4.alloc (.cells #[.int .i64 (k : Int)] 3)) (.cells #[.int .i64 0] 3)
      rwa [World.size_alloc] at this
    rw [hW7, hM]
    have hl1 := lt_of_block HX1.out
    have hl2 := lt_of_block HX2.out
    have hlb := lt_of_block HT4.out.tab
    have hz0 := HB4.out.size
    have hS := HS0.out
    rw [hM] at hl1 hl2 hlb hz0 hb7
    have HT7 := Lib.hid (HT4.out.below (hb7.mono (Nat.le_of_eq hM)))
    have HX17 := Lib.hid ((hb7.block _ hl1).trans HX1.out)
    have HX27 := Lib.hid ((hb7.block _ hl2).trans HX2.out)
    have HB7 := Lib.hid (HB4.out.trans (hb7.mono hz0))
    have HK7 := Lib.hid hk7
    clear hW7 hk7 q0 q1 hb7 HX1 HX2 HB4
    have hseq := all_seqW (fr := fun _ => false) (q := fun j => j < W7.heap.size ∧ j ≠ M + 1) HT7.out ⟨⟨by omega, by omega⟩, ⟨by omega, by omega⟩, ⟨by omega, by omega⟩⟩ HX17.out HX27.out
    refine rangeQ (gf := 33) (lb := #[.pointer (some ⟨B1, 0, none⟩), .pointer (some ⟨B1 + 1, 0, none⟩)]) rfl (Go.Proofs.enters_of Tryd.func33 (by kernel_rfl) rfl) hseq (fun _ h => by cases h) (fun j h => h.1) (fun _ => rfl)
      (StIW W7 (M + 1) k) (StXW W7 (M + 1) k)
      (fun s A B row hs hg hr => ⟨ownFrom_grownW (β := Unit) (Nat.le_refl _) () A B row hs.1 hg hr, ownFrom_block (β := Unit) (by omega) () A B row hs.2.1 hg hr, hs.2.2⟩)
      (fun c s A B row hs hg hr => ⟨hs.1, ownFrom_grownW (β := Unit) (Nat.le_refl _) () A B row hs.2.1 hg hr, ownFrom_block (β := Unit) (by omega) () A B row hs.2.2.1 hg hr, hs.2.2.2⟩)
      ⟨grown_of_below (Below.refl _ _) |> grown_anyW, hg7, Nat.zero_le _⟩
      (fun y => { tmps := #[.slice ao l.length cap, .agg #[.int .i64 a0, .int .i64 a1], undef, .pointer (some ⟨w.heap.size, 0, none⟩), .pointer (some ⟨w.heap.size + 1, 0, none⟩), .bool true, .int .i64 (W : Int), .pointer (some ⟨b, 0, none⟩), .nilIface, .func (.func 33) #[] #[.pointer (some ⟨B1, 0, none⟩), .pointer (some ⟨B1 + 1, 0, none⟩)], .pointer (some ⟨M, 0, none⟩), .pointer (some ⟨M + 1, 0, none⟩), undef, undef, .bool true, .pointer (some ⟨w.heap.size, 0, none⟩), .int .i64 a0, .int .i64 (c0 : Int), .int .i64 (W : Int), .tuple #[.pointer (some ⟨b, 0, none⟩), .nilIface], .int .i64 (W : Int), .int .i64 (W : Int), .slice ao l.length cap, .int .i64 (W : Int), .slice ao2 R.length cap2, .tuple #[.pointer (some ⟨b, 0, none⟩), .nilIface], .pointer (some ⟨b, 0, none⟩), .nilIface, .nilIface, .bool false, undef, undef, undef, undef, undef, undef, .pointer (some ⟨b, 0, none⟩), .func (.func 33) #[] #[.pointer (some ⟨B1, 0, none⟩), .pointer (some ⟨B1 + 1, 0, none⟩)], .func (.func 33) #[] #[.pointer (some ⟨B1, 0, none⟩), .pointer (some ⟨B1 + 1, 0, none⟩)], .bool false, .pointer (some ⟨w.heap.size, 1, none⟩), .int .i64 a1, .int .i64 (k : Int), .func (.func 33) #[] #[.pointer (some ⟨B1, 0, none⟩), .pointer (some ⟨B1 + 1, 0, none⟩)], .int .i64 y.1, .string y.2, undef, undef, undef, undef, undef, undef, undef, undef, undef, undef, undef, undef, undef, undef, undef, undef, undef, undef, undef, undef, undef, undef, undef, undef, undef, undef, undef], defers := [] })
      ?assign ?body ?done ?stop
    case assign =>
      intro l' y W3 K hK
      gi_wp2
      exact hK
    case body =>
      rintro l' pre x W3 ⟨hgr, hgot, hpk⟩ hpre hsz3
      have hG3 := Lib.hid hgr
      have c2 := cell_of_one ((hgr.block M (by omega) (fun e => by have := Option.some.inj e; omega)).trans HK7.out)
      have c3 := cell_of_one hgot
      have f3 := free_of_one hgot
      have HGOT := Lib.hid hgot
      rcases Nat.lt_or_ge pre.length k with hlt | hge
      · have hne : ((pre.length : Int) == (k : Int)) = false := by rw [beq_eq_false_iff_ne]; omega
        have hp0 : (0 : Int) ≤ (pre.length : Int) := by omega
        have hpb : (pre.length : Int) ≤ 14 := by omega
        have HE := Lib.hid (show ((pre ++ [x]).length : Int) = (pre.length : Int) + 1 by simp)
        clear hgr hgot hpre
        gi_wp2
        exact ⟨KeepQ.setCell _ _ _ _ (p := ⟨M + 1, 0, none⟩) _ (fun h => h.2 rfl) (by show M + 1 < W7.heap.size; omega), grown_setW hG3.out _, by rw [HE.out]; exact one_setCell HGOT.out, by simp; omega⟩
      · obtain rfl : pre.length = k := by omega
        clear hgr hgot hpre
        gi_wp2
        exact ⟨KeepQ.refl _ _ _ _, rfl, hG3.out, HGOT.out, by simp⟩
    case' done =>
      rintro D ys W3 hD rfl ⟨hgr, hgot, hpk⟩ hK
      rw [fromW_len] at hgot hpk
      obtain ⟨j, hj⟩ : ∃ j, L.length = j := ⟨_, rfl⟩
      rw [hj] at hgot hpk
      have HMIN := Lib.hid (show min k L.length = j by omega)
      clear hj hpk hseq hg7
    case' stop =>
      rintro D c pre W3 hD hpre ⟨rfl, hgr, hgot, hpk⟩ hK
      obtain ⟨j, hj⟩ : ∃ j, k = j := ⟨_, rfl⟩
      rw [hj] at hgot
      have hpl := hpre.length_le
      rw [fromW_len] at hpl
      have HMIN := Lib.hid (show min k L.length = j by omega)
      clear hj hpl hpre hpk hseq hg7
    all_goals
      have HG3 := Lib.hid hgr
      have HGOT := Lib.hid hgot
      have HD3 := Lib.hid hK
      have hsz3 : W7.heap.size ≤ W3.heap.size := hgr.size
      have hDl := lt_of_block hK
      have nx : ∀ i, i < W7.heap.size → i ≠ M + 1 → W3.heap[i]? = W7.heap[i]? := fun i h1 h2 => hgr.block i h1 (fun e => h2 (Option.some.inj e))
      have HR3 := Lib.hid ((nx (w.heap.size + 1) (by omega) (by omega)).trans (HR0.out _ HB7.out))
      have HX13 := Lib.hid ((nx B1 (by omega) (by omega)).trans HX17.out)
      have HX23 := Lib.hid ((nx (B1 + 1) (by omega) (by omega)).trans HX27.out)
      have HK3 := Lib.hid ((nx M (by omega) (by omega)).trans HK7.out)
      have HT3 := Lib.hid (show TabL W3 b W W L from ⟨(nx b (by omega) (by omega)).trans HT7.out.tab, HT7.out.wid, HT7.out.sz, HT7.out.rise⟩)
      have HB3 := Lib.hid (show Below W0.heap.size W0 W3 from HB7.out.grown hgr HB7.out.size (fun r e => by have := Option.some.inj e; omega))
      clear hgr hgot hK nx HX17 HX27 HK7 HT7 HB7
      gi_wp2_with fail
      obtain ⟨M2, hM2⟩ : ∃ m, W3.heap.size = m := ⟨_, rfl⟩
      obtain ⟨W8, hW8⟩ : ∃ W8, W3.alloc (.cells #[.int .i64 0] 3) = W8 := ⟨_, rfl⟩
      have hn8 : W8.heap[M2]? = some (.cells #[.int .i64 0] 3 (0, 0)) := by rw [← hW8, ← hM2]; exact World.alloc_heap_new W3 _
      have hb8 : Below W3.heap.size W3 W8 := by rw [← hW8]; exact (Below.refl _ W3).alloc (Nat.le_refl _) _
      have hs8 : W8.heap.size = M2 + 1 := by rw [← hW8, ← hM2]; simp
      rw [hW8, hM2]
      have HR8 := Lib.hid ((hb8.block _ (lt_of_block HR3.out)).trans HR3.out)
      have HX18 := Lib.hid ((hb8.block _ (lt_of_block HX13.out)).trans HX13.out)
      have HX28 := Lib.hid ((hb8.block _ (lt_of_block HX23.out)).trans HX23.out)
      have HK8 := Lib.hid ((hb8.block _ (lt_of_block HK3.out)).trans HK3.out)
      have HGOT8 := Lib.hid ((hb8.block _ (lt_of_block HGOT.out)).trans HGOT.out)
      have HD8 := Lib.hid ((hb8.block _ (lt_of_block HD3.out)).trans HD3.out)
      have HT8 := Lib.hid (HT3.out.below hb8)
      have HB8 := Lib.hid (HB3.out.trans (hb8.mono HB3.out.size))
      rw [hM2] at hsz3 hDl
      have hlb8 : b < M2 := by omega
      clear hW8 hb8 HX13 HX23 HK3 HGOT HD3 HT3 HB3 HR3 HG3
      have hseq2 := all_seqW (fr := fun _ => false) (q := fun j => j < W8.heap.size ∧ j ≠ M2) HT8.out ⟨⟨by omega, by omega⟩, ⟨by omega, by omega⟩, ⟨by omega, by omega⟩⟩ HX18.out HX28.out
      refine rangeQ (gf := 33) (lb := #[.pointer (some ⟨B1, 0, none⟩), .pointer (some ⟨B1 + 1, 0, none⟩)]) rfl (Go.Proofs.enters_of Tryd.func33 (by kernel_rfl) rfl) hseq2 (fun _ h => by cases h) (fun j h => h.1) (fun _ => rfl)
        (StIW W8 M2 100) (fun _ _ _ => False)
        (fun s A B row hs hg hr => ⟨ownFrom_grownW (β := Unit) (Nat.le_refl _) () A B row hs.1 hg hr, ownFrom_block (β := Unit) (by omega) () A B row hs.2.1 hg hr, hs.2.2⟩)
        (fun _ _ _ _ _ hs _ _ => hs.elim)
        ⟨grown_of_below (Below.refl _ _) |> grown_anyW, hn8, Nat.zero_le _⟩
        (fun y => { tmps := #[.slice ao l.length cap, .agg #[.int .i64 a0, .int .i64 a1], undef, .pointer (some ⟨w.heap.size, 0, none⟩), .pointer (some ⟨w.heap.size + 1, 0, none⟩), .bool true, .int .i64 (W : Int), .pointer (some ⟨b, 0, none⟩), .nilIface, .func (.func 33) #[] #[.pointer (some ⟨B1, 0, none⟩), .pointer (some ⟨B1 + 1, 0, none⟩)], .pointer (some ⟨M, 0, none⟩), .pointer (some ⟨M + 1, 0, none⟩), .pointer (some ⟨M2, 0, none⟩), .int .i64 y.1, .bool true, .pointer (some ⟨w.heap.size, 0, none⟩), .int .i64 a0, .int .i64 (c0 : Int), .int .i64 (W : Int), .tuple #[.pointer (some ⟨b, 0, none⟩), .nilIface], .int .i64 (W : Int), .int .i64 (W : Int), .slice ao l.length cap, .int .i64 (W : Int), .slice ao2 R.length cap2, .tuple #[.pointer (some ⟨b, 0, none⟩), .nilIface], .pointer (some ⟨b, 0, none⟩), .nilIface, .nilIface, .bool false, undef, undef, undef, undef, undef, undef, .pointer (some ⟨b, 0, none⟩), .func (.func 33) #[] #[.pointer (some ⟨B1, 0, none⟩), .pointer (some ⟨B1 + 1, 0, none⟩)], .func (.func 33) #[] #[.pointer (some ⟨B1, 0, none⟩), .pointer (some ⟨B1 + 1, 0, none⟩)], .bool false, .pointer (some ⟨w.heap.size, 1, none⟩), .int .i64 a1, .int .i64 (k : Int), .func (.func 33) #[] #[.pointer (some ⟨B1, 0, none⟩), .pointer (some ⟨B1 + 1, 0, none⟩)], undef, undef, undef, undef, undef, undef, undef, .func (.func 33) #[] #[.pointer (some ⟨B1, 0, none⟩), .pointer (some ⟨B1 + 1, 0, none⟩)], .int .i64 y.1, .string y.2, undef, undef, undef, undef, undef, undef, undef, undef, undef, undef, undef, undef, undef, undef, undef, undef, undef, undef, undef], defers := [] })
        ?assign2 ?body2 ?done2 ?stop2
      case assign2 =>
        intro l' y W4 K hK
        gi_wp2
        exact hK
      case body2 =>
        rintro l' pre x W4 ⟨hgr4, hcnt, _⟩ hpre4 _
        obtain ⟨r, hr, rfl⟩ := fromW_prefix hpre4
        have hpl4 : pre.length < L.length := (List.getElem?_eq_some_iff.1 hr).1
        have c0 := cell_of_one hcnt
        have f0 := free_of_one hcnt
        have HG4 := Lib.hid hgr4
        have HC4 := Lib.hid hcnt
        have HE := Lib.hid (show ((pre ++ [(pre.length, r)]).length : Int) = (pre.length : Int) + 1 by simp)
        have hp0 : (0 : Int) ≤ (pre.length : Int) := by omega
        have hp1 : (pre.length : Int) ≤ 60 := by omega
        clear hgr4 hcnt hpre4 hr
        dsimp only
        gi_wp2
        exact ⟨KeepQ.setCell _ _ _ _ (p := ⟨M2, 0, none⟩) _ (fun h => h.2 rfl) (by show M2 < W8.heap.size; omega), grown_setW HG4.out _, by rw [HE.out]; exact one_setCell HC4.out, by simp; omega⟩
      case done2 =>
        rintro D2 ys W4 hD2 rfl ⟨hgr4, hcnt, hbig⟩ hK2
        clear hbig hseq2 hnil
        rw [fromW_len] at hcnt
        have nx : ∀ i, i < W8.heap.size → i ≠ M2 → W4.heap[i]? = W8.heap[i]? := fun i h1 h2 => hgr4.block i h1 (fun e => h2 (Option.some.inj e))
        have hx4 := (nx (w.heap.size + 1) (by omega) (by omega)).trans HR8.out
        have hd4 := (nx D (by omega) (by omega)).trans HD8.out
        have HT4' := Lib.hid (show TabL W4 b W W L from ⟨(nx b (by omega) (by omega)).trans HT8.out.tab, HT8.out.wid, HT8.out.sz, HT8.out.rise⟩)
        have hk4 := cell_of_one ((nx M (by omega) (by omega)).trans HK8.out)
        have hj4 := cell_of_one ((nx (M + 1) (by omega) (by omega)).trans HGOT8.out)
        have hn4 := cell_of_one hcnt
        have HB4 := Lib.hid (show Below W0.heap.size W0 W4 from HB8.out.grown hgr4 HB8.out.size (fun r e => by have := Option.some.inj e; omega))
        have HR4 := Lib.hid hx4
        have HD4 := Lib.hid hd4
        have HK4 := Lib.hid hK2
        have c5 := cell_of_one hx4
        have f5 := free_of_one hx4
        have hd : D < D2 := by omega
        have hwd : w.heap.size + 1 < D := by omega
        clear hgr4 hcnt hx4 hd4 hK2 hs8 hs7 nx
        obtain ⟨N, hN⟩ : ∃ n, L.length = n := ⟨_, rfl⟩
        have HLN := Lib.hid (fun w5 (ht : TabL w5 b W W L) => ht.len)
        rw [hN] at HLN hn4 HMIN
        have hmin : ((j : Int) == min (k : Int) (N : Int)) = true := by have := HMIN.out; rw [beq_iff_eq]; omega
        gi_wp2_with fail
        refine wpIn_wide.2 ?_
        have hbw : Below w.heap.size w W4 := HB0.out.trans (HB4.out.mono HB0.out.size)
        have hbd : Below w.heap.size w W4.drew := Below.drew hbw
        have ht4 : W4.drew.heap[b]? = some (tabObj W W (catW L)) := HT4'.out.tab
        have e1 : W4.drew.cell? ⟨M2, 0, none⟩ = some (.int .i64 (N : Int)) := hn4
        have e2 : W4.drew.cell? ⟨M + 1, 0, none⟩ = some (.int .i64 (j : Int)) := hj4
        have e3 : W4.drew.cell? ⟨M, 0, none⟩ = some (.int .i64 (k : Int)) := hk4
        have e4 : W4.drew.heap[w.heap.size + 1]? = some (.cells #[.bool false] 4 (0, 0)) := HR4.out
        have HLQ := Lib.hid (fun w5 (h5 : w5.heap[b]? = some (tabObj W W (catW L))) => (HLN.out w5 ⟨h5, HT4'.out.wid, HT4'.out.sz, HT4'.out.rise⟩).mono (R' := fun e w' => e = .returned (.int .i64 (N : Int)) ∧ ∃ n, w' = w5.drewN n) fun e w' h => h)
        have HAF := Lib.hid (fun (w5 : World) (u : Value) (h1 : Below w.heap.size w w5) (h2 : w5.heap[b]? = some (tabObj W W (catW L))) (h3 : w5.cell? ⟨M2, 0, none⟩ = some (.int .i64 (N : Int))) (h4 : w5.cell? ⟨M + 1, 0, none⟩ = some (.int .i64 (j : Int))) (h5 : w5.cell? ⟨M, 0, none⟩ = some (.int .i64 (k : Int))) =>
          show Below w.heap.size w (w5.setCell ⟨w.heap.size + 1, 0, none⟩ u) ∧ (w5.setCell ⟨w.heap.size + 1, 0, none⟩ u).heap[b]? = some (tabObj W W (catW L)) ∧ (w5.setCell ⟨w.heap.size + 1, 0, none⟩ u).cell? ⟨M2, 0, none⟩ = some (.int .i64 (N : Int)) ∧ (w5.setCell ⟨w.heap.size + 1, 0, none⟩ u).cell? ⟨M + 1, 0, none⟩ = some (.int .i64 (j : Int)) ∧ (w5.setCell ⟨w.heap.size + 1, 0, none⟩ u).cell? ⟨M, 0, none⟩ = some (.int .i64 (k : Int)) from by
            have ne : ∀ i, i ≠ w.heap.size + 1 → (w5.setCell ⟨w.heap.size + 1, 0, none⟩ u).heap[i]? = w5.heap[i]? := fun i h => Below.heap_setCell _ _ _ _ (by show i ≠ w.heap.size + 1; exact h)
            refine ⟨h1.setCell (p := ⟨w.heap.size + 1, 0, none⟩) (by show w.heap.size ≤ w.heap.size + 1; omega) _, (ne b ?_).trans h2, (World.cell?_of_block (a := ⟨M2, 0, none⟩) (ne M2 (by omega))).trans h3, (World.cell?_of_block (a := ⟨M + 1, 0, none⟩) (ne (M + 1) (by omega))).trans h4, (World.cell?_of_block (a := ⟨M, 0, none⟩) (ne M (by omega))).trans h5⟩
            rintro rfl
            have := HT4'.out.tab
            rw [HR4.out] at this
            simp [tabObj] at this)
        clear hn4 hj4 hk4 c5 f5
        go_region_held3 (fun w' => Below w.heap.size w w' ∧ w'.heap[b]? = some (tabObj W W (catW L)) ∧ w'.cell? ⟨M2, 0, none⟩ = some (.int .i64 (N : Int)) ∧ w'.cell? ⟨M + 1, 0, none⟩ = some (.int .i64 (j : Int)) ∧ w'.cell? ⟨M, 0, none⟩ = some (.int .i64 (k : Int)))
          (first | exact ⟨by assumption, by assumption, by assumption, by assumption, by assumption⟩ | exact HAF.out _ _ (by assumption) (by assumption) (by assumption) (by assumption) (by assumption))
          ((go_at_call 17; (with_reducible refine (HLQ.out _ (by assumption)).mono ?_); rintro e w15 ⟨rfl, q15, hw15⟩; have g1 : Below w.heap.size w w15 := (by rw [hw15]; exact below_drewN hbd _); have g2 : w15.heap[b]? = some (tabObj W W (catW L)) := (by rw [hw15]; exact ht4); have g3 : w15.cell? ⟨M2, 0, none⟩ = some (.int .i64 (N : Int)) := (by rw [hw15]; exact e1); have g4 : w15.cell? ⟨M + 1, 0, none⟩ = some (.int .i64 (j : Int)) := (by rw [hw15]; exact e2); have g5 : w15.cell? ⟨M, 0, none⟩ = some (.int .i64 (k : Int)) := (by rw [hw15]; exact e3); have g6 : w15.heap[w.heap.size + 1]? = some (.cells #[.bool false] 4 (0, 0)) := (by rw [hw15]; exact e4); have g7 := cell_of_one g6; have g8 := free_of_one g6; have HD15 := Lib.hid (show w15.heap[D]? = some (.deferred (some [])) from by rw [hw15]; exact HD4.out); have HK15 := Lib.hid (show w15.heap[D2]? = some (.deferred (some [])) from by rw [hw15]; exact HK4.out); clear hw15))
        go_wp2
        all_goals
          refine wpIn_ret ?_
          exact stopsW_end g6 HK15.out HD15.out hd hwd (by omega) g1 rfl rfl
      case stop2 =>
        rintro D c pre W3 hD hpre h hK
        exact h.elim
end Go.Proofs.YtbkbnkpgldemkaaDoor
