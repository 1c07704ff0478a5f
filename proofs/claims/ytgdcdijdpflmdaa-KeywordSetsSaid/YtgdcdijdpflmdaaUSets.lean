/-
  KeywordSets: what it asks of one, and the walk over the law.
-/
import Derived.Test.YtgdcdijdpflmdaaUSetR
import Derived.Test.YtgdcdijdpflmdaaUBackLaw
namespace Go.Proofs.Ytgdcdijdpflmdaa
open Go Go.RowKit

theorem ExtD.ext {W : World} {base : Nat} {v : Value} {K : KX} (h : ExtD W base v K) : ExtU W v K := by
  obtain ⟨D, hD, ho, hr⟩ := h
  have e : OwnZ W W base v D := ⟨by rw [show D.length = K.length by rw [← hD, List.length_map]]; exact ho, fun z hz => RowU.of_own (hr z hz)⟩
  have := e.ext (Below.refl _ _)
  rwa [hD] at this
theorem setK_fst (k : List ByteArray × KX) (key : ByteArray) (v : List ByteArray) : (setK k key v).1 = k.1 := by unfold setK; split <;> rfl
theorem setX_len5 (k : ByteArray) (v : List ByteArray) (K : KX) : (setX k v K).length ≤ K.length + 1 := by
  induction K with
  | nil => simp [setX]
  | cons x r ih => unfold setX; split <;> simp; omega
theorem setX_subs (k : ByteArray) (v : List ByteArray) (K : KX) (n : Nat) (hv : v.length ≤ n) (h : ∀ x ∈ K, x.2.length ≤ n) : ∀ x ∈ setX k v K, x.2.length ≤ n := by
  induction K with
  | nil => intro x hx; simp [setX] at hx; rw [hx]; exact hv
  | cons y r ih =>
    intro x hx
    unfold setX at hx
    split at hx
    · rcases List.mem_cons.1 hx with rfl | hx
      · exact hv
      · exact h x (List.mem_cons_of_mem _ hx)
    · rcases List.mem_cons.1 hx with rfl | hx
      · exact h _ List.mem_cons_self
      · exact ih (fun z hz => h z (List.mem_cons_of_mem _ hz)) x hx
theorem setK_bounds (k : List ByteArray × KX) (key : ByteArray) (v : List ByteArray) (hK : k.2.length ≤ 50) (hv : v.length ≤ 1000) (h : ∀ x ∈ k.2, x.2.length ≤ 1000) : (setK k key v).2.length ≤ 100 ∧ ∀ x ∈ (setK k key v).2, x.2.length ≤ 1000 := by
  unfold setK
  split
  · have := setX_len5 (lowS key) (v.map lowS) k.2
    exact ⟨by dsimp only; omega, setX_subs _ _ _ _ (by simpa using hv) h⟩
  · exact ⟨by omega, h⟩
set_option maxRecDepth 100000 in
set_option maxHeartbeats 8000000 in
theorem sets_own (v : Value) (k : List ByteArray × KX) (key : ByteArray) (vv : Value) (vl : List ByteArray) (w : World) (hv : KeyU w v k) (hvv : RowU w vv vl) (hA : k.1.length ≤ 100) (hK : k.2.length ≤ 50) (hx : ∀ x ∈ k.2, x.2.length ≤ 1000) (hks : key.size ≤ 1000) (hvl : vl.length ≤ 1000) (hvs : ∀ x ∈ vl, x.size ≤ 1000) :
    Calls Try.prog 25 #[v, .string key, vv] w fun e w' => e = .returned (.bool true) ∧ Below w.heap.size w w' := by
  have HL1 := Lib.hid (show (setK k key vl).1.length ≤ 1000 by rw [setK_fst]; omega)
  obtain ⟨hl2, hx2⟩ := setK_bounds k key vl hK hvl hx
  have HL2 := Lib.hid hl2
  have HX2 := Lib.hid hx2
  have HX := Lib.hid hx
  have HVS := Lib.hid hvs
  have hK : k.2.length ≤ 100 := by omega
  obtain ⟨va, vk, rfl, rA, rK⟩ := hv
  obtain ⟨W0, hW0⟩ : ∃ W0, w.alloc (.cells #[va, vk] 41) = W0 := ⟨_, rfl⟩
  have hb0 : Below w.heap.size w W0 := by rw [← hW0]; exact (Below.refl _ w).alloc (Nat.le_refl _) _
  have hA0 : W0.heap[w.heap.size]? = some (.cells #[va, vk] 41 (0, 0)) := by rw [← hW0]; exact World.alloc_heap_new w _
  have HQ := Lib.hid (fun wr (hb : Below W0.heap.size W0 wr) => key_cells ((hb.block _ (lt_of_heap hA0)).trans hA0))
  have HK := Lib.hid (fun wr (hb : Below W0.heap.size W0 wr) => show KeyU wr (.agg #[va, vk]) k from ⟨_, _, rfl, (rA.below hb0).below hb, (rK.below hb0).below hb⟩)
  have HV := Lib.hid (fun wr (hb : Below W0.heap.size W0 wr) => (hvv.below hb0).below hb)
  have HB0 := Lib.hid hb0
  have G1 := Lib.hid (getR_kw (.agg #[va, vk]) k key W0 (HK.out _ (Below.refl _ _)) hK hks)
  have G2 := Lib.hid (fun wr (hb : Below W0.heap.size W0 wr) => get_kw (.agg #[va, vk]) k key wr (HK.out _ hb) hK hx hks)
  have HE := Lib.hid (fun wr (hb : Below W0.heap.size W0 wr) => (rK.below hb0).below hb)
  obtain ⟨q0, q1⟩ := HQ.out _ (Below.refl _ _)
  obtain ⟨a1, p1, rfl, -⟩ := rA
  obtain ⟨a2, p2, rfl, -⟩ := rK
  obtain ⟨a3, p3, rfl, -⟩ := hvv
  clear hb0 hA0 hx hvs hl2 hx2
  by_cases hp : placeN k.2 (lowS key) < k.2.length
  · have hI : placeI k.2 (lowS key) = (placeN k.2 (lowS key) : Int) := by unfold placeI; rw [if_pos hp]
    rw [hI] at G1
    rw [decide_eq_true hp] at G2
    obtain ⟨y, hy⟩ : ∃ y, k.2[placeN k.2 (lowS key)]? = some y := ⟨_, List.getElem?_eq_getElem hp⟩
    have hgl : getL k.2 (lowS key) = y.2 := by unfold getL; rw [hy]; rfl
    rw [hgl] at G2
    have hp1 : (placeN k.2 (lowS key) : Int) < (k.2.length : Int) := by omega
    have hp0 : (0 : Int) ≤ (placeN k.2 (lowS key) : Int) := by omega
    have HY := Lib.hid hy
    have hyl := HX.out y (List.mem_of_getElem? hy)
    clear hI hgl hy hp
    generalize placeN k.2 (lowS key) = pn at *
    go_enter Try.func25, Try.ntmps25
    go_upto_region 2 with (go_at_call 65; (with_reducible refine G1.out.mono ?_); rintro e w1 ⟨rfl, hb1⟩; obtain ⟨q0, q1⟩ := HQ.out _ hb1; have G3 := Lib.hid (G2.out _ hb1))
    clear hW0
    go_upto_region 3 with (go_at_call 66; (with_reducible refine G3.out.mono ?_); rintro e w2 ⟨u2, rfl, ho2, hb2⟩; have hB2 := hb1.trans (hb2.mono hb1.size); obtain ⟨q0, q1⟩ := HQ.out _ hB2; obtain ⟨ga, gn, gc, rfl⟩ := own_slice ho2)
    obtain ⟨g, o, ⟨ta, tn, tc⟩, rfl, -, c2, hr, -⟩ := ExtU.at (HE.out _ hB2) HY.out
    simp only [slc] at c2 hr
    have SS := sameU_rows (.slice ga gn gc) (.slice ta tn tc) y.2 y.2 w2 (RowU.of_own ho2) hr (Nat.le_trans hyl (by decide))
    rw [decide_eq_true rfl] at SS
    have SS := Lib.hid SS
    have HB2 := Lib.hid hB2
    clear ho2 hb2 hb1 hB2 hr G1 G2 G3 HE HY
    go_upto_region 9 with (go_at_call 20; (with_reducible refine SS.out.mono ?_); rintro e w5 ⟨rfl, hb5⟩)
    obtain ⟨WT, rfl⟩ : ∃ x, x = w5 := ⟨_, rfl⟩
    have hBT := HB2.out.trans (hb5.mono HB2.out.size)
    clear hb5 SS HB2 c2 q0 q1
    have SC := Lib.hid (set_kw (.agg #[.slice a1 k.1.length p1, .slice (some ⟨g, o, none⟩) (List.length k.2) p2]) k key (.slice a3 vl.length p3) vl WT (HK.out _ hBT) (HV.out _ hBT) hA hK HX.out hvl HVS.out)
    have hBT := Lib.hid hBT
    obtain ⟨q0, q1⟩ := HQ.out _ hBT.out
    go_upto_region 9 with fail
    go_upto_region 10 with (go_at_call 67; (with_reducible refine SC.out.mono ?_); rintro e w9 ⟨sa, sk, rfl, hsa, hsk, hb9⟩; have hse := hsk.ext; obtain ⟨ia, im, ic, rfl⟩ := own_slice hsa; obtain ⟨ja, jm, jc, rfl⟩ := (show ∃ a n c, sk = Value.slice a n c from by obtain ⟨_, _, h, _⟩ := hsk; exact own_slice h))
    obtain ⟨W10, hW10⟩ : ∃ W10, w9.alloc (.cells #[.slice ia im ic, .slice ja jm jc] 41) = W10 := ⟨_, rfl⟩
    have hb10 : Below w9.heap.size w9 W10 := by rw [← hW10]; exact (Below.refl _ w9).alloc (Nat.le_refl _) _
    have hX10 : W10.heap[w9.heap.size]? = some (.cells #[.slice ia im ic, .slice ja jm jc] 41 (0, 0)) := by rw [← hW10]; exact World.alloc_heap_new w9 _
    have hbT : Below W0.heap.size W0 W10 := hBT.out.trans ((hb9.trans (hb10.mono hb9.size)).mono hBT.out.size)
    have HO := Lib.hid (show KeyU W10 (.agg #[.slice ia im ic, .slice ja jm jc]) (setK k key vl) from ⟨_, _, rfl, by rw [setK_fst]; exact (RowU.of_own hsa).below hb10, hse.below hb10⟩)
    have HQ2 := Lib.hid (fun wr (hb : Below W10.heap.size W10 wr) => And.intro (key_cells ((hb.block _ (lt_of_heap hX10)).trans hX10)) (HQ.out _ (hbT.trans (hb.mono hbT.size))))
    have HBT := Lib.hid hbT
    rw [hW10]
    clear hW10 hX10 hb10 hsa hsk hse hb9 SC hBT q0 q1
    have hbd : Below W10.heap.size W10 W10.drew := Below.drew (Below.refl _ _)
    obtain ⟨⟨o0, o1⟩, q0, q1⟩ := HQ2.out _ hbd
    have SR := Lib.hid (setR_kw (.agg #[.slice a1 k.1.length p1, .slice (some ⟨g, o, none⟩) (List.length k.2) p2]) k key (.slice a3 vl.length p3) vl W10.drew (HK.out _ (HBT.out.trans (hbd.mono HBT.out.size))) (HV.out _ (HBT.out.trans (hbd.mono HBT.out.size))) hK hks hvl HVS.out)
    have GU := Lib.hid (fun wr (hb : Below W10.heap.size W10 wr) => get_kw (.agg #[.slice ia im ic, .slice ja jm jc]) (setK k key vl) (upS key) wr (HO.out.below hb) HL2.out HX2.out (by rw [size_upS]; exact hks))
    have UP := Lib.hid (fun wr => upper_ref key wr (Nat.le_trans hks (by decide)))
    generalize hkk : setK k key vl = kk at *
    go_region_held3 (fun w' => w'.cell? ⟨w9.heap.size, 0, none⟩ = some (.slice ia im ic) ∧ w'.cell? ⟨w9.heap.size, 1, none⟩ = some (.slice ja jm jc) ∧ w'.cell? ⟨w.heap.size, 0, none⟩ = some (.slice a1 k.1.length p1) ∧ w'.cell? ⟨w.heap.size, 1, none⟩ = some (.slice (some ⟨g, o, none⟩) (List.length k.2) p2))
      (exact ⟨by assumption, by assumption, by assumption, by assumption⟩)
      (first
        | (go_at_call 68; (with_reducible refine SR.out.mono ?_); rintro e w11 ⟨u11, rfl, hk11, hb11⟩; have hB11 := hbd.trans (hb11.mono hbd.size); obtain ⟨⟨o0, o1⟩, q0, q1⟩ := HQ2.out _ hB11; have SM := Lib.hid (sameK_refl (.agg #[.slice ia im ic, .slice ja jm jc]) u11 kk w11 (HO.out.below hB11) hk11 HL1.out (Nat.le_trans HL2.out (by decide)) HX2.out); obtain ⟨_, _, _, _, _, _, rfl⟩ := key_agg hk11)
        | (go_at_call 17; (with_reducible refine SM.out.mono ?_); rintro e w12 ⟨rfl, hb12⟩; have hB12 := hB11.trans (hb12.mono hB11.size); obtain ⟨⟨o0, o1⟩, q0, q1⟩ := HQ2.out _ hB12))
    clear SM SR hb12 hb11 hk11 hbd hB11
    have HB12 := Lib.hid hB12
    by_cases hik : isK key = true
    · have hk2 : key.size = 2 := by unfold isK at hik; simpa using hik
      have hne : ((key.size : Int) != 2) = false := by rw [hk2]; rfl
      have HPL := Lib.hid (show decide (placeN kk.2 (lowS (upS key)) < kk.2.length) = true ∧ getL kk.2 (lowS (upS key)) = vl.map lowS by
        rw [low_upS, ← hkk]
        unfold setK
        rw [if_pos hik]
        have e := placeN_setX k.2 (lowS key) (vl.map lowS)
        exact ⟨decide_eq_true (List.getElem?_eq_some_iff.1 e).1, by unfold getL; rw [e]; rfl⟩)
      clear hkk hik hk2
      have hbd : Below W10.heap.size W10 w12.drew := HB12.out.trans ((Below.drew (Below.refl _ _)).mono HB12.out.size)
      have hbd' := Lib.hid hbd
      go_upto_region 13 with fail
      obtain ⟨⟨o0, o1⟩, -⟩ := HQ2.out _ hbd
      clear q0 q1 hB12
      go_region_held3 (fun w' => w'.cell? ⟨w9.heap.size, 0, none⟩ = some (.slice ia im ic) ∧ w'.cell? ⟨w9.heap.size, 1, none⟩ = some (.slice ja jm jc))
        (exact ⟨by assumption, by assumption⟩)
        (first
          | (go_at_call 69; (with_reducible refine (UP.out _).mono ?_); rintro e w13 ⟨rfl, hb13⟩; have hB13 := hbd.trans (hb13.mono hbd.size); obtain ⟨⟨o0, o1⟩, -⟩ := HQ2.out _ hB13)
          | (go_at_call 66; (with_reducible refine (GU.out _ hB13).mono ?_); rw [HPL.out.1, HPL.out.2]; rintro e w14 ⟨u14, rfl, ho14, hb14⟩; have hB14 := hB13.trans (hb14.mono hB13.size); obtain ⟨⟨o0, o1⟩, -⟩ := HQ2.out _ hB14; obtain ⟨ma, mn, mc, rfl⟩ := own_slice ho14; obtain rfl : mn = (vl.map lowS).length := own_lenD ho14))
      have HM := Lib.hid (RowU.of_own ho14)
      have hB14' := HBT.out.trans (hB14.mono HBT.out.size)
      have HV14 := Lib.hid (HV.out _ hB14')
      have HB14 := Lib.hid (HB0.out.trans (hB14'.mono HB0.out.size))
      clear o0 o1 hB14 hB14' hb14 hb13 hB13 hbd ho14 hbd' GU UP HPL HQ2 HO HBT HQ HK HV
      go_upto_region 14 with fail
      have hml : (vl.map lowS).length = vl.length := List.length_map _
      have hme : (((vl.map lowS).length : Int) == (vl.length : Int)) = true := by rw [hml]; simp
      go_wp2_with fail
      go_loopw [15, 16] (fun b i wr => ∃ n : Nat, n ≤ vl.length ∧ i = .int .i64 (n : Int) ∧ b = .bool true ∧ Below w14.heap.size w14 wr) (fun _ i _ => vl.length - (intOf i).toNat)
      case atStart => exact ⟨0, Nat.zero_le _, rfl, rfl, Below.refl _ _⟩
      case round =>
        obtain ⟨n, hn, rfl, rfl, hB⟩ := hrel
        by_cases hlt : n < vl.length
        · have hni : (n : Int) < ((vl.map lowS).length : Int) := by omega
          have hni2 : (n : Int) < (vl.length : Int) := by omega
          have hn0 : (0 : Int) ≤ (n : Int) := by omega
          obtain ⟨x, hx⟩ : ∃ x, vl[n]? = some x := ⟨_, List.getElem?_eq_getElem hlt⟩
          have hy : (vl.map lowS)[n]? = some (lowS x) := by rw [List.getElem?_map, hx]; rfl
          obtain ⟨g1, oo1, rfl, c1⟩ := HM.out.at hy
          obtain ⟨g2, oo2, rfl, c2⟩ := HV14.out.at hx
          have HC := Lib.hid (fun wr (hb : Below w14.heap.size w14 wr) => show wr.cell? ⟨g1, oo1 + n, none⟩ = some (.string (lowS x)) ∧ wr.cell? ⟨g2, oo2 + n, none⟩ = some (.string x) from ⟨(hb.cell (p := ⟨g1, oo1 + n, none⟩) (lt_of_cellF c1)).trans c1, (hb.cell (p := ⟨g2, oo2 + n, none⟩) (lt_of_cellF c2)).trans c2⟩)
          have LX := Lib.hid (fun wr => lower_ref x wr (Nat.le_trans (HVS.out x (List.mem_of_getElem? hx)) (by decide)))
          have hbd : Below w14.heap.size w14 wr.drew := hB.trans ((Below.drew (Below.refl _ _)).mono hB.size)
          obtain ⟨d1, d2⟩ := HC.out _ hbd
          have ht : ((lowS x).toList == (lowS x).toList) = true := by simp
          clear c1 c2 hx hy
          generalize lowS x = y at *
          go_upto_region 18 with fail
          go_region_held3 (fun w' => w'.cell? ⟨g1, oo1 + n, none⟩ = some (.string y) ∧ w'.cell? ⟨g2, oo2 + n, none⟩ = some (.string x))
            (exact ⟨by assumption, by assumption⟩)
            ((go_at_call 12; (with_reducible refine (LX.out _).mono ?_); rintro e w3 ⟨rfl, hb3⟩; have hB3 := hbd.trans (hb3.mono hbd.size); obtain ⟨d1, d2⟩ := HC.out _ hB3))
          go_wp2_with fail
          go_roundw
          case rel => exact ⟨n + 1, by omega, by go_num, rfl, hB3⟩
          case measure => simp [intOf]; omega
        · obtain rfl : n = vl.length := by omega
          have hni : ¬ (vl.length : Int) < ((vl.map lowS).length : Int) := by omega
          go_wp2_with fail
          go_ret
          exact ⟨rfl, HB14.out.trans (hB.mono HB14.out.size)⟩
    · have hik : isK key = false := by simpa using hik
      have hne : ((key.size : Int) != 2) = true := by
        unfold isK at hik
        simp at hik
        rw [bne_iff_ne]
        omega
      clear hik hkk
      go_wp2_with fail
      go_ret
      exact ⟨rfl, HB0.out.trans ((HBT.out.trans (HB12.out.mono HBT.out.size)).mono HB0.out.size)⟩
  · have hI : placeI k.2 (lowS key) = -1 := by unfold placeI; rw [if_neg hp]
    rw [hI] at G1
    rw [decide_eq_false hp] at G2
    have hgl : getL k.2 (lowS key) = [] := by unfold getL; rw [List.getElem?_eq_none (by omega)]; rfl
    rw [hgl] at G2
    clear hI hgl hp HE
    go_enter Try.func25, Try.ntmps25
    go_upto_region 2 with (go_at_call 65; (with_reducible refine G1.out.mono ?_); rintro e w1 ⟨rfl, hb1⟩; obtain ⟨q0, q1⟩ := HQ.out _ hb1; have G3 := Lib.hid (G2.out _ hb1))
    clear hW0
    go_upto_region 3 with (go_at_call 66; (with_reducible refine G3.out.mono ?_); rintro e w2 ⟨u2, rfl, ho2, hb2⟩; have hB2 := hb1.trans (hb2.mono hb1.size); obtain ⟨ga, gn, gc, rfl⟩ := own_slice ho2; obtain rfl : gn = 0 := own_lenD ho2)
    obtain ⟨WT, rfl⟩ : ∃ x, x = w2 := ⟨_, rfl⟩
    have hBT := hB2
    clear ho2 hb2 hb1 hB2 G1 G2 G3 q0 q1
    have SC := Lib.hid (set_kw (.agg #[.slice a1 k.1.length p1, .slice a2 (List.length k.2) p2]) k key (.slice a3 vl.length p3) vl WT (HK.out _ hBT) (HV.out _ hBT) hA hK HX.out hvl HVS.out)
    have hBT := Lib.hid hBT
    obtain ⟨q0, q1⟩ := HQ.out _ hBT.out
    go_upto_region 9 with fail
    go_upto_region 10 with (go_at_call 67; (with_reducible refine SC.out.mono ?_); rintro e w9 ⟨sa, sk, rfl, hsa, hsk, hb9⟩; have hse := hsk.ext; obtain ⟨ia, im, ic, rfl⟩ := own_slice hsa; obtain ⟨ja, jm, jc, rfl⟩ := (show ∃ a n c, sk = Value.slice a n c from by obtain ⟨_, _, h, _⟩ := hsk; exact own_slice h))
    obtain ⟨W10, hW10⟩ : ∃ W10, w9.alloc (.cells #[.slice ia im ic, .slice ja jm jc] 41) = W10 := ⟨_, rfl⟩
    have hb10 : Below w9.heap.size w9 W10 := by rw [← hW10]; exact (Below.refl _ w9).alloc (Nat.le_refl _) _
    have hX10 : W10.heap[w9.heap.size]? = some (.cells #[.slice ia im ic, .slice ja jm jc] 41 (0, 0)) := by rw [← hW10]; exact World.alloc_heap_new w9 _
    have hbT : Below W0.heap.size W0 W10 := hBT.out.trans ((hb9.trans (hb10.mono hb9.size)).mono hBT.out.size)
    have HO := Lib.hid (show KeyU W10 (.agg #[.slice ia im ic, .slice ja jm jc]) (setK k key vl) from ⟨_, _, rfl, by rw [setK_fst]; exact (RowU.of_own hsa).below hb10, hse.below hb10⟩)
    have HQ2 := Lib.hid (fun wr (hb : Below W10.heap.size W10 wr) => And.intro (key_cells ((hb.block _ (lt_of_heap hX10)).trans hX10)) (HQ.out _ (hbT.trans (hb.mono hbT.size))))
    have HBT := Lib.hid hbT
    rw [hW10]
    clear hW10 hX10 hb10 hsa hsk hse hb9 SC hBT q0 q1
    have hbd : Below W10.heap.size W10 W10.drew := Below.drew (Below.refl _ _)
    obtain ⟨⟨o0, o1⟩, q0, q1⟩ := HQ2.out _ hbd
    have SR := Lib.hid (setR_kw (.agg #[.slice a1 k.1.length p1, .slice a2 (List.length k.2) p2]) k key (.slice a3 vl.length p3) vl W10.drew (HK.out _ (HBT.out.trans (hbd.mono HBT.out.size))) (HV.out _ (HBT.out.trans (hbd.mono HBT.out.size))) hK hks hvl HVS.out)
    have GU := Lib.hid (fun wr (hb : Below W10.heap.size W10 wr) => get_kw (.agg #[.slice ia im ic, .slice ja jm jc]) (setK k key vl) (upS key) wr (HO.out.below hb) HL2.out HX2.out (by rw [size_upS]; exact hks))
    have UP := Lib.hid (fun wr => upper_ref key wr (Nat.le_trans hks (by decide)))
    generalize hkk : setK k key vl = kk at *
    go_region_held3 (fun w' => w'.cell? ⟨w9.heap.size, 0, none⟩ = some (.slice ia im ic) ∧ w'.cell? ⟨w9.heap.size, 1, none⟩ = some (.slice ja jm jc) ∧ w'.cell? ⟨w.heap.size, 0, none⟩ = some (.slice a1 k.1.length p1) ∧ w'.cell? ⟨w.heap.size, 1, none⟩ = some (.slice a2 (List.length k.2) p2))
      (exact ⟨by assumption, by assumption, by assumption, by assumption⟩)
      (first
        | (go_at_call 68; (with_reducible refine SR.out.mono ?_); rintro e w11 ⟨u11, rfl, hk11, hb11⟩; have hB11 := hbd.trans (hb11.mono hbd.size); obtain ⟨⟨o0, o1⟩, q0, q1⟩ := HQ2.out _ hB11; have SM := Lib.hid (sameK_refl (.agg #[.slice ia im ic, .slice ja jm jc]) u11 kk w11 (HO.out.below hB11) hk11 HL1.out (Nat.le_trans HL2.out (by decide)) HX2.out); obtain ⟨_, _, _, _, _, _, rfl⟩ := key_agg hk11)
        | (go_at_call 17; (with_reducible refine SM.out.mono ?_); rintro e w12 ⟨rfl, hb12⟩; have hB12 := hB11.trans (hb12.mono hB11.size); obtain ⟨⟨o0, o1⟩, q0, q1⟩ := HQ2.out _ hB12))
    clear SM SR hb12 hb11 hk11 hbd hB11
    have HB12 := Lib.hid hB12
    by_cases hik : isK key = true
    · have hk2 : key.size = 2 := by unfold isK at hik; simpa using hik
      have hne : ((key.size : Int) != 2) = false := by rw [hk2]; rfl
      have HPL := Lib.hid (show decide (placeN kk.2 (lowS (upS key)) < kk.2.length) = true ∧ getL kk.2 (lowS (upS key)) = vl.map lowS by
        rw [low_upS, ← hkk]
        unfold setK
        rw [if_pos hik]
        have e := placeN_setX k.2 (lowS key) (vl.map lowS)
        exact ⟨decide_eq_true (List.getElem?_eq_some_iff.1 e).1, by unfold getL; rw [e]; rfl⟩)
      clear hkk hik hk2
      have hbd : Below W10.heap.size W10 w12.drew := HB12.out.trans ((Below.drew (Below.refl _ _)).mono HB12.out.size)
      have hbd' := Lib.hid hbd
      go_upto_region 13 with fail
      obtain ⟨⟨o0, o1⟩, -⟩ := HQ2.out _ hbd
      clear q0 q1 hB12
      go_region_held3 (fun w' => w'.cell? ⟨w9.heap.size, 0, none⟩ = some (.slice ia im ic) ∧ w'.cell? ⟨w9.heap.size, 1, none⟩ = some (.slice ja jm jc))
        (exact ⟨by assumption, by assumption⟩)
        (first
          | (go_at_call 69; (with_reducible refine (UP.out _).mono ?_); rintro e w13 ⟨rfl, hb13⟩; have hB13 := hbd.trans (hb13.mono hbd.size); obtain ⟨⟨o0, o1⟩, -⟩ := HQ2.out _ hB13)
          | (go_at_call 66; (with_reducible refine (GU.out _ hB13).mono ?_); rw [HPL.out.1, HPL.out.2]; rintro e w14 ⟨u14, rfl, ho14, hb14⟩; have hB14 := hB13.trans (hb14.mono hB13.size); obtain ⟨⟨o0, o1⟩, -⟩ := HQ2.out _ hB14; obtain ⟨ma, mn, mc, rfl⟩ := own_slice ho14; obtain rfl : mn = (vl.map lowS).length := own_lenD ho14))
      have HM := Lib.hid (RowU.of_own ho14)
      have hB14' := HBT.out.trans (hB14.mono HBT.out.size)
      have HV14 := Lib.hid (HV.out _ hB14')
      have HB14 := Lib.hid (HB0.out.trans (hB14'.mono HB0.out.size))
      clear o0 o1 hB14 hB14' hb14 hb13 hB13 hbd ho14 hbd' GU UP HPL HQ2 HO HBT HQ HK HV
      go_upto_region 14 with fail
      have hml : (vl.map lowS).length = vl.length := List.length_map _
      have hme : (((vl.map lowS).length : Int) == (vl.length : Int)) = true := by rw [hml]; simp
      go_wp2_with fail
      go_loopw [15, 16] (fun b i wr => ∃ n : Nat, n ≤ vl.length ∧ i = .int .i64 (n : Int) ∧ b = .bool true ∧ Below w14.heap.size w14 wr) (fun _ i _ => vl.length - (intOf i).toNat)
      case atStart => exact ⟨0, Nat.zero_le _, rfl, rfl, Below.refl _ _⟩
      case round =>
        obtain ⟨n, hn, rfl, rfl, hB⟩ := hrel
        by_cases hlt : n < vl.length
        · have hni : (n : Int) < ((vl.map lowS).length : Int) := by omega
          have hni2 : (n : Int) < (vl.length : Int) := by omega
          have hn0 : (0 : Int) ≤ (n : Int) := by omega
          obtain ⟨x, hx⟩ : ∃ x, vl[n]? = some x := ⟨_, List.getElem?_eq_getElem hlt⟩
          have hy : (vl.map lowS)[n]? = some (lowS x) := by rw [List.getElem?_map, hx]; rfl
          obtain ⟨g1, oo1, rfl, c1⟩ := HM.out.at hy
          obtain ⟨g2, oo2, rfl, c2⟩ := HV14.out.at hx
          have HC := Lib.hid (fun wr (hb : Below w14.heap.size w14 wr) => show wr.cell? ⟨g1, oo1 + n, none⟩ = some (.string (lowS x)) ∧ wr.cell? ⟨g2, oo2 + n, none⟩ = some (.string x) from ⟨(hb.cell (p := ⟨g1, oo1 + n, none⟩) (lt_of_cellF c1)).trans c1, (hb.cell (p := ⟨g2, oo2 + n, none⟩) (lt_of_cellF c2)).trans c2⟩)
          have LX := Lib.hid (fun wr => lower_ref x wr (Nat.le_trans (HVS.out x (List.mem_of_getElem? hx)) (by decide)))
          have hbd : Below w14.heap.size w14 wr.drew := hB.trans ((Below.drew (Below.refl _ _)).mono hB.size)
          obtain ⟨d1, d2⟩ := HC.out _ hbd
          have ht : ((lowS x).toList == (lowS x).toList) = true := by simp
          clear c1 c2 hx hy
          generalize lowS x = y at *
          go_upto_region 18 with fail
          go_region_held3 (fun w' => w'.cell? ⟨g1, oo1 + n, none⟩ = some (.string y) ∧ w'.cell? ⟨g2, oo2 + n, none⟩ = some (.string x))
            (exact ⟨by assumption, by assumption⟩)
            ((go_at_call 12; (with_reducible refine (LX.out _).mono ?_); rintro e w3 ⟨rfl, hb3⟩; have hB3 := hbd.trans (hb3.mono hbd.size); obtain ⟨d1, d2⟩ := HC.out _ hB3))
          go_wp2_with fail
          go_roundw
          case rel => exact ⟨n + 1, by omega, by go_num, rfl, hB3⟩
          case measure => simp [intOf]; omega
        · obtain rfl : n = vl.length := by omega
          have hni : ¬ (vl.length : Int) < ((vl.map lowS).length : Int) := by omega
          go_wp2_with fail
          go_ret
          exact ⟨rfl, HB14.out.trans (hB.mono HB14.out.size)⟩
    · have hik : isK key = false := by simpa using hik
      have hne : ((key.size : Int) != 2) = true := by
        unfold isK at hik
        simp at hik
        rw [bne_iff_ne]
        omega
      clear hik hkk
      go_wp2_with fail
      go_ret
      exact ⟨rfl, HB0.out.trans ((HBT.out.trans (HB12.out.mono HBT.out.size)).mono HB0.out.size)⟩
end Go.Proofs.Ytgdcdijdpflmdaa
