/-
  The document's ByKey.
-/
import Derived.Test.YtgdcdijdpflmdaaUSetR
namespace Go.Proofs.Ytgdcdijdpflmdaa
open Go Go.RowKit

theorem wpList_build_none9X (w : World) {ops : Array Oper} {rest : List Oper} {o : Oper} {a : Act} {Q : Exit → Act → World → Prop} (hg : o.guard = none) (hop : o.op = Op.buildSlice 27 0 #[])
    (hK : wpList Try.prog ops Q rest (a.put o.dst (.slice (some ⟨w.heap.size, 0, none⟩) 0 0)) (w.alloc (.cells #[] 53))) : wpList Try.prog ops Q (o :: rest) a w := by
  refine wpList_plain hg fun K hK' => ?_
  unfold Oper.wp
  simp [execOp, hop, Result.andThen, go_sem]
  exact hK' _ _ hK
theorem own_none9X (w : World) (m : Nat) : ((w.drewN m).alloc (.cells #[] 53)).ownsRow w.heap.size 53 2 (.slice (some ⟨w.heap.size, 0, none⟩) 0 0) 0 [] := own_noneX (World.alloc_heap_new (w.drewN m) _) (Nat.le_refl _)
theorem none9_belX {w w6 : World} {m : Nat} (h : ((w.drewN m).alloc (.cells #[] 53)).grownBy w6 (Value.slice (some ⟨w.heap.size, 0, none⟩) 0 0).ownBlock) : Below w.heap.size w w6 :=
  ((below_drewN (Below.refl _ w) m).alloc (Nat.le_refl _) _).grown h (by simp) (fun g hg => by cases hg; exact Nat.le_refl _)
theorem zcells_split (Z : List ZE) (k : Nat) : zcells Z = zcells (Z.take k) ++ zcells (Z.drop k) := by rw [← zcells_app2, List.take_append_drop]
theorem own_cellsX {w : World} {base g cap : Nat} {Z : List ZE} (h : w.ownsRow base 53 2 (.slice (some ⟨g, 0, none⟩) Z.length cap) Z.length (zcells Z)) : ∀ j u, (zcells Z)[j]? = some u → w.cell? ⟨g, j, none⟩ = some u := by
  intro j u hu
  have := h.cells rfl _ _ hu
  rwa [Addr.add_lit, Nat.zero_add] at this
theorem own_dropX {w : World} {base g cap : Nat} {Z : List ZE} (h : w.ownsRow base 53 2 (.slice (some ⟨g, 0, none⟩) Z.length cap) Z.length (zcells Z)) (k : Nat) (hk : k ≤ Z.length) : ∀ j u, (zcells (Z.drop k))[j]? = some u → w.cell? ⟨g, k * 2 + j, none⟩ = some u := by
  intro j u hu
  refine own_cellsX h _ _ ?_
  rw [zcells_split Z k, List.getElem?_append_right (by rw [zcells_len, List.length_take]; omega), zcells_len, List.length_take, Nat.min_eq_left hk, Nat.add_sub_cancel_left]
  exact hu
theorem own_takeX {w : World} {base g cap : Nat} {Z : List ZE} (h : w.ownsRow base 53 2 (.slice (some ⟨g, 0, none⟩) Z.length cap) Z.length (zcells Z)) (k : Nat) : ∀ j u, (zcells (Z.take k))[j]? = some u → w.cell? ⟨g, j, none⟩ = some u := by
  intro j u hu
  refine own_cellsX h _ _ ?_
  rw [zcells_split Z k, List.getElem?_append_left (List.getElem?_eq_some_iff.1 hu).1]
  exact hu
theorem own_newsX {w w' : World} {base n c : Nat} {a : Option Addr} {Z : List ZE} (h : w.ownsRow base 53 2 (.slice a n c) Z.length (zcells Z)) (hb : Below w.heap.size w w') : (a = none → Z.length = 0) ∧ ∀ ad, a = some ad → ∀ j u, (zcells Z)[j]? = some u → w'.cell? (ad.add j) = some u := by
  obtain rfl : n = Z.length := own_lenD h
  rcases owned_cases h with ⟨h1, h2⟩ | ⟨g, cap, h1⟩
  · injection h1 with q1 _ _
    subst q1
    exact ⟨fun _ => h2, fun ad h => by cases h⟩
  · injection h1 with q1 _ _
    subst q1
    refine ⟨fun h => (by cases h), fun ad had j u hu => ?_⟩
    cases had
    have := h.cells rfl _ _ hu
    exact (hb.cell (lt_of_cellF' this)).trans this
theorem own_insX {w : World} {base b' n : Nat} {v : Value} {x : ByteArray × List ByteArray} {ta : Option Addr} {tn tc : Nat} {T R : List ZE} (h : w.ownsRow base 53 2 v n ((zcells T ++ [.string x.1, .slice ta tn tc]) ++ zcells R)) (hb : b' ≤ base) : w.ownsRow b' 53 2 v (T ++ (x, (ta, tn, tc)) :: R).length (zcells (T ++ (x, (ta, tn, tc)) :: R)) := by
  have e2 : zcells (T ++ (x, (ta, tn, tc)) :: R) = (zcells T ++ [.string x.1, .slice ta tn tc]) ++ zcells R := by rw [zcells_app2, List.append_assoc]; rfl
  have e : n = (T ++ (x, (ta, tn, tc)) :: R).length := by
    have h1 := h.1
    rw [← e2, zcells_len] at h1
    omega
  subst e
  rw [e2]
  exact ownsRow_base h hb
theorem rows_insX {w : World} {D : List ZE} {n : Nat} {z : ZE} (h : ∀ y ∈ D, RowU w (slc y.2) y.1.2) (hz : RowU w (slc z.2) z.1.2) : ∀ y ∈ D.take n ++ z :: D.drop n, RowU w (slc y.2) y.1.2 := by
  intro y hy
  rcases List.mem_append.1 hy with hy | hy
  · exact h y (List.mem_of_mem_take hy)
  · rcases List.mem_cons.1 hy with rfl | hy
    · exact hz
    · exact h y (List.mem_of_mem_drop hy)
theorem insBy_map1 (z : ZE) (D : List ZE) : (insBy (fun z : ZE => z.1.1) z D).map (·.1) = insBy (·.1) z.1 (D.map (·.1)) := by
  induction D with
  | nil => rfl
  | cons y r ih =>
    rw [List.map_cons]
    unfold insBy
    split
    · rw [List.map_cons, ih]
    · split <;> rfl
theorem own_key {w : World} {base g cap : Nat} {Z : List ZE} (h : w.ownsRow base 53 2 (.slice (some ⟨g, 0, none⟩) Z.length cap) Z.length (zcells Z)) {n : Nat} {y : ZE} (hy : Z[n]? = some y) : w.cell? ⟨g, n * 2, none⟩ = some (.string y.1.1) := by
  refine own_cellsX h _ _ ?_
  rw [zcells_at, show n * 2 / 2 = n by omega, hy, show n * 2 % 2 = 0 by omega]
  rfl
set_option maxRecDepth 100000 in
set_option maxHeartbeats 8000000 in
theorem bykey_kw (v : Value) (L : KX) (w0 w : World) (hv : ExtU w0 v L) (hbw : Below w0.heap.size w0 w) (hl : L.length ≤ 1000) :
    Calls Try.prog 64 #[v] w fun e w' => ∃ u, e = .returned u ∧ (∃ Z : List ZE, Z.map (·.1) = riseBy (·.1) L ∧ OwnZ w0 w' w.heap.size u Z) ∧ Below w.heap.size w w' := by
  obtain ⟨i0, hii, iz0, iz1, iz2⟩ := info_parts extInfoM
  obtain ⟨ao, c, rfl, hc⟩ := hv
  have HC := Lib.hid (fun k x hx => ExtU.at (w := w0) (ao := ao) (c := c) (L := L) ⟨ao, c, rfl, hc⟩ (k := k) (x := x) hx)
  clear hc
  go_enter Try.func64, Try.ntmps64
  go_wp2_with fail
  go_loopw [3, 4, 5, 6] (fun u i _ _ wr => ∃ (k : Nat) (Z : List ZE), k ≤ L.length ∧ i = .int .i64 (k : Int) ∧ Z.map (·.1) = riseBy (·.1) (L.take k) ∧ OwnZ w0 wr w.heap.size u Z ∧ Below w.heap.size w wr) (fun _ i _ _ _ => L.length - (intOf i).toNat)
  case atStart => exact ⟨0, [], Nat.zero_le _, rfl, rfl, ⟨World.ownsRow_nil _ _ _ _, fun z hz => (nomatch hz)⟩, Below.refl _ _⟩
  case round =>
    obtain ⟨k, D, hk, rfl, hDm, ⟨hO, hrr⟩, hB⟩ := hrel
    by_cases hlt : k < L.length
    · have hki : (k : Int) < (L.length : Int) := by omega
      have hk0 : (0 : Int) ≤ (k : Int) := by omega
      obtain ⟨x, hx⟩ : ∃ x, L[k]? = some x := ⟨_, List.getElem?_eq_getElem hlt⟩
      obtain ⟨g0, o0, ⟨ta, tn, tc⟩, rfl, c0, c0', hrt, -⟩ := HC.out k x hx
      simp only [slc] at c0' hrt
      have HX := Lib.hid (fun wr (hb : Below w.heap.size w wr) => And.intro (((hbw.trans (hb.mono hbw.size)).cell (p := ⟨g0, o0 + k * 2, none⟩) (lt_of_cellF c0)).trans c0) (((hbw.trans (hb.mono hbw.size)).cell (p := ⟨g0, o0 + k * 2 + 1, none⟩) (lt_of_cellF c0')).trans c0'))
      have HN := Lib.hid (show (insBy (fun z : ZE => z.1.1) (x, (ta, tn, tc)) D).map (·.1) = riseBy (·.1) (L.take (k + 1)) by rw [insBy_map1, hDm, rise_next _ hx])
      have hDl : D.length ≤ L.length := by have := rise_take_len (fun x : ByteArray × List ByteArray => x.1) L k; rw [← hDm, List.length_map] at this; exact this
      have HRR := Lib.hid hrr
      have HRT := Lib.hid (show RowU w0 (slc ((x, (ta, tn, tc)) : ZE).2) x.2 from hrt)
      clear hx c0 c0' hDm hrr hrt
      have HO := Lib.hid hO
      obtain ⟨ua, un, uc, rfl⟩ := own_slice hO
      obtain rfl : un = D.length := own_lenD hO
      clear hO
      go_wp2_with fail
      go_loopw [5] (fun j w1 => ∃ n : Nat, n ≤ D.length ∧ j = .int .i64 (n : Int) ∧ w1.ownsRow w.heap.size 53 2 (.slice ua D.length uc) D.length (zcells D) ∧ Below w.heap.size w w1 ∧ Hid (∀ i y, i < n → D[i]? = some y → ltS (y.1.1) (x.1) = true)) (fun j _ => D.length - (intOf j).toNat)
      case atStart => exact ⟨0, Nat.zero_le _, rfl, HO.out, hB, Lib.hid (fun i y h => by omega)⟩
      case round =>
        obtain ⟨n, hn, rfl, hO, hB1, HP⟩ := hrel
        have hn0 : (0 : Int) ≤ (n : Int) := by omega
        obtain ⟨cx, cx'⟩ := HX.out _ hB1
        have hcl := own_capD hO
        have hcn : (n : Int) ≤ (uc : Int) := by omega
        have HOA := Lib.hid (fun m => (show (wr.drewN m).ownsRow w.heap.size 53 2 (.slice ua D.length uc) D.length (zcells D) from hO).alloc (.cells #[] 53))
        by_cases hnl : n < D.length
        · have hni : (n : Int) < (D.length : Int) := by omega
          have hun : ¬ uc = n := by omega
          have hne : ((n : Int) == (D.length : Int)) = false := by rw [beq_eq_false_iff_ne]; omega
          obtain ⟨g, cap, hg⟩ := own_someU hO (by omega)
          injection hg with q1 _ q3
          subst q1
          subst q3
          obtain ⟨y, hy⟩ : ∃ y, D[n]? = some y := ⟨_, List.getElem?_eq_getElem hnl⟩
          have cy := own_key hO hy
          cases hc : ltS y.1.1 x.1 with
          | true =>
            have hbl := bl_ofR hc
            have HP2 := Lib.hid (show ∀ i z, i < n + 1 → D[i]? = some z → ltS (z.1.1) (x.1) = true from fun i z hi hz => by
              rcases Nat.lt_or_ge i n with h | h
              · exact HP.out i z h hz
              · obtain rfl : i = n := by omega
                rw [hy] at hz; cases hz; exact hc)
            go_wp2_with fail
            go_quiet (fail)
            go_wp2_with fail
            go_roundw
            case rel => exact ⟨n + 1, by omega, by go_num, hO, below_drewN hB1 _, HP2⟩
            case measure => simp [intOf]; omega
          | false =>
            have hbl := bl_ofR hc
            by_cases hyx : y.1.1 = x.1
            · have HE := Lib.hid (insBy_old (fun z : ZE => z.1.1) (x := (x, (ta, tn, tc))) HP.out hy hc hyx)
              have ht : (y.1.1.toList == x.1.toList) = true := by rw [hyx]; simp
              have ht2 : (y.1.1.toList != x.1.toList) = false := by rw [hyx]; simp
              clear hyx
              go_wp2_with fail
              go_quiet (fail)
              go_wp2_with fail
              go_quiet (fail)
              go_wp2_with fail
              go_roundw
              case rel => exact ⟨k + 1, D, by omega, by go_num, by have := HN.out; rw [HE.out] at this; exact this, ⟨hO, HRR.out⟩, below_drewN hB1 _⟩
              case measure => simp [intOf]; omega
            · have h2 : ∀ z, D[n]? = some z → ltS (z.1.1) (x.1) = false ∧ z.1.1 ≠ x.1 := by
                intro z hz
                rw [hy] at hz
                injection hz with hz
                subst hz
                exact ⟨hc, hyx⟩
              have HE := Lib.hid (insBy_new (fun z : ZE => z.1.1) (x := (x, (ta, tn, tc))) hn HP.out h2).symm
              clear h2
              have ht := toList_ne hyx
              have ht2 : (y.1.1.toList != x.1.toList) = true := by rw [bne, ht]; rfl
              clear hyx
              go_wp2_with fail
              go_quiet (fail)
              go_wp2_with fail
              go_quiet (fail)
              rcases Nat.eq_zero_or_pos n with hz | hz
              · subst hz
                go_upto_region 10 with (first
                  | (refine wpList_build_none9X _ rfl rfl ?_)
                  | (at_builtin; refine wpList_append_any _ rfl _ _ 27 rfl wr.heap.size 53 i0 (.agg #[.string ByteArray.empty, .slice none 0 0]) 2 40 Try.underlying27 hii iz0 iz1 iz2 rfl (by decide) _ 0 _ rfl (own_none9X _ _) _ _ _ (zcells (D.drop 0)) rfl (by rw [zcells_len, List.length_drop] <;> simp) (fun h => by cases h) (fun ad ha j u hu => by cases ha; rw [Addr.add_lit]; rw [show (0 : Nat) + j = 0 * 2 + j by omega]; exact own_dropX (HOA.out _) 0 (by omega) j u hu) zcells_one (by unfold maxLen; omega) (by omega) (by simp) ?_; intro v6 w6 hown6 hgrow6; have hO6 := own_normX hown6; have hB6 := none9_belX hgrow6; clear hown6 hgrow6; obtain ⟨va, vn, vc, rfl⟩ := own_slice hO6; obtain rfl : vn = (D.drop 0).length := own_lenD hO6))
                have hBw6 := hB1.trans (hB6.mono hB1.size)
                have HT := Lib.hid ((show w6.drew.ownsRow w.heap.size 53 2 (.slice (some ⟨g, 0, none⟩) D.length uc) D.length (zcells D) from ownsRow_belowF hO (Below.drew hB6)).alloc (.cells #[.string x.1, .slice ta tn tc] 53))
                have HR6 := Lib.hid (fun w' (hb : Below w6.heap.size w6 w') => own_newsX hO6 hb)
                obtain ⟨cx1, cx2⟩ := HX.out _ (Below.drew hBw6)
                have hba : Below w6.heap.size w6 (w6.drew.alloc (.cells #[.string x.1, .slice ta tn tc] 53)) := (Below.drew (Below.refl _ _)).alloc (Nat.le_refl _) _
                obtain ⟨ca1, ca2⟩ := HX.out _ (hBw6.trans (hba.mono hBw6.size))
                have hrl : (D.drop 0).length ≤ 1000 := by rw [List.length_drop]; omega
                clear hO6
                go_region_held3 (fun w' => w'.cell? ⟨g0, o0 + k * 2, none⟩ = some (.string x.1) ∧ w'.cell? ⟨g0, o0 + k * 2 + 1, none⟩ = some (.slice ta tn tc))
                  (exact ⟨by assumption, by assumption⟩)
                  (first
                    | (refine step_append_grows (by rfl) _ _ 27 (by rfl) 53 i0 (.agg #[.string ByteArray.empty, .slice none 0 0]) 2 40 Try.underlying27 hii iz0 iz1 iz2 (by rfl) (by decide) _ 0 0 (zcells (D.take 0)) (by rfl) (fun h => by cases h) (by rw [zcells_len, List.length_take, Nat.min_eq_left (by first | omega | simp)]) (fun b hb j u hu => by cases hb; simp only [Addr.add_lit, Nat.zero_add]; exact own_takeX HT.out 0 j u hu) _ 1 1 [.string x.1, .slice ta tn tc] (by rfl) (by rfl) (World.news_of_block (World.alloc_heap_new _ _)) (by intro u hu; simp at hu; rcases hu with rfl | rfl <;> rfl) (Nat.lt_succ_self _) (by unfold maxLen; omega) (by omega) ?_; intro v7 w7 hown7 hgrow7; have hB7 := hba.grown hgrow7 hba.size (fun g hg => by cases hg); obtain ⟨cy1, cy2⟩ := HX.out _ (hBw6.trans (hB7.mono hBw6.size)); have HN7 := Lib.hid (HR6.out _ hB7))
                    | (refine step_append_any _ (by rfl) _ _ 27 (by rfl) _ 53 i0 (.agg #[.string ByteArray.empty, .slice none 0 0]) 2 40 Try.underlying27 hii iz0 iz1 iz2 (by rfl) (by decide) _ (0 + 1) _ (by rfl) hown7 va _ vc (zcells (D.drop 0)) (by rfl) (by rw [zcells_len, List.length_drop] <;> simp) (fun h => by have := HN7.out.1 h; have e := List.length_drop (i := 0) (l := D); omega) HN7.out.2 zcells_one (by unfold maxLen; omega) (by omega) hgrow7.size ?_; intro v8 w8 hown8 hgrow8; have hB8 := bel_step9 hB7 (by simp) hown7 hgrow8; obtain ⟨cz1, cz2⟩ := HX.out _ (hBw6.trans (hB8.mono hBw6.size))))
                go_wp2_with fail
                go_roundw
                case rel => exact ⟨k + 1, _, by omega, by go_num, HN.out, HE.out ▸ ⟨own_insX hown8 (Nat.le_trans hBw6.size (by simp)), rows_insX HRR.out HRT.out⟩, hBw6.trans (hB8.mono hBw6.size)⟩
                case measure => simp [intOf]; omega
              · have hz : ¬ n = 0 := by omega
                go_upto_region 10 with (first
                  | (refine wpList_build_none9X _ rfl rfl ?_)
                  | (at_builtin; refine wpList_append_any _ rfl _ _ 27 rfl wr.heap.size 53 i0 (.agg #[.string ByteArray.empty, .slice none 0 0]) 2 40 Try.underlying27 hii iz0 iz1 iz2 rfl (by decide) _ 0 _ rfl (own_none9X _ _) _ _ _ (zcells (D.drop n)) rfl (by rw [zcells_len, List.length_drop] <;> simp) (fun h => by cases h) (fun ad ha j u hu => by cases ha; rw [Addr.add_lit]; exact own_dropX (HOA.out _) n (by omega) j u hu) zcells_one (by unfold maxLen; omega) (by omega) (by simp) ?_; intro v6 w6 hown6 hgrow6; have hO6 := own_normX hown6; have hB6 := none9_belX hgrow6; clear hown6 hgrow6; obtain ⟨va, vn, vc, rfl⟩ := own_slice hO6; obtain rfl : vn = (D.drop n).length := own_lenD hO6))
                have hBw6 := hB1.trans (hB6.mono hB1.size)
                have HT := Lib.hid ((show w6.drew.ownsRow w.heap.size 53 2 (.slice (some ⟨g, 0, none⟩) D.length uc) D.length (zcells D) from ownsRow_belowF hO (Below.drew hB6)).alloc (.cells #[.string x.1, .slice ta tn tc] 53))
                have HR6 := Lib.hid (fun w' (hb : Below w6.heap.size w6 w') => own_newsX hO6 hb)
                obtain ⟨cx1, cx2⟩ := HX.out _ (Below.drew hBw6)
                have hba : Below w6.heap.size w6 (w6.drew.alloc (.cells #[.string x.1, .slice ta tn tc] 53)) := (Below.drew (Below.refl _ _)).alloc (Nat.le_refl _) _
                obtain ⟨ca1, ca2⟩ := HX.out _ (hBw6.trans (hba.mono hBw6.size))
                have hrl : (D.drop n).length ≤ 1000 := by rw [List.length_drop]; omega
                clear hO6
                go_region_held3 (fun w' => w'.cell? ⟨g0, o0 + k * 2, none⟩ = some (.string x.1) ∧ w'.cell? ⟨g0, o0 + k * 2 + 1, none⟩ = some (.slice ta tn tc))
                  (exact ⟨by assumption, by assumption⟩)
                  (first
                    | (refine step_append_grows (by rfl) _ _ 27 (by rfl) 53 i0 (.agg #[.string ByteArray.empty, .slice none 0 0]) 2 40 Try.underlying27 hii iz0 iz1 iz2 (by rfl) (by decide) _ n n (zcells (D.take n)) (by rfl) (fun h => by cases h) (by rw [zcells_len, List.length_take, Nat.min_eq_left (by first | omega | simp)]) (fun b hb j u hu => by cases hb; simp only [Addr.add_lit, Nat.zero_add]; exact own_takeX HT.out n j u hu) _ 1 1 [.string x.1, .slice ta tn tc] (by rfl) (by rfl) (World.news_of_block (World.alloc_heap_new _ _)) (by intro u hu; simp at hu; rcases hu with rfl | rfl <;> rfl) (Nat.lt_succ_self _) (by unfold maxLen; omega) (by omega) ?_; intro v7 w7 hown7 hgrow7; have hB7 := hba.grown hgrow7 hba.size (fun g hg => by cases hg); obtain ⟨cy1, cy2⟩ := HX.out _ (hBw6.trans (hB7.mono hBw6.size)); have HN7 := Lib.hid (HR6.out _ hB7))
                    | (refine step_append_any _ (by rfl) _ _ 27 (by rfl) _ 53 i0 (.agg #[.string ByteArray.empty, .slice none 0 0]) 2 40 Try.underlying27 hii iz0 iz1 iz2 (by rfl) (by decide) _ (n + 1) _ (by rfl) hown7 va _ vc (zcells (D.drop n)) (by rfl) (by rw [zcells_len, List.length_drop] <;> simp) (fun h => by have := HN7.out.1 h; have e := List.length_drop (i := n) (l := D); omega) HN7.out.2 zcells_one (by unfold maxLen; omega) (by omega) hgrow7.size ?_; intro v8 w8 hown8 hgrow8; have hB8 := bel_step9 hB7 (by simp) hown7 hgrow8; obtain ⟨cz1, cz2⟩ := HX.out _ (hBw6.trans (hB8.mono hBw6.size))))
                go_wp2_with fail
                go_roundw
                case rel => exact ⟨k + 1, _, by omega, by go_num, HN.out, HE.out ▸ ⟨own_insX hown8 (Nat.le_trans hBw6.size (by simp)), rows_insX HRR.out HRT.out⟩, hBw6.trans (hB8.mono hBw6.size)⟩
                case measure => simp [intOf]; omega
        · obtain rfl : n = D.length := by omega
          have hni : ¬ (D.length : Int) < (D.length : Int) := by omega
          have hdi : decide ((D.length : Int) < (D.length : Int)) = false := decide_eq_false hni
          have h2 : ∀ z, D[D.length]? = some z → ltS (z.1.1) (x.1) = false ∧ z.1.1 ≠ x.1 := by
            intro z hz
            rw [List.getElem?_eq_none (Nat.le_refl _)] at hz
            cases hz
          have HE := Lib.hid (insBy_new (fun z : ZE => z.1.1) (x := (x, (ta, tn, tc))) hn HP.out h2).symm
          clear h2
          go_wp2_with fail
          go_quiet (fail)
          go_wp2_with fail
          go_quiet (fail)
          by_cases huc : uc = D.length
          · rcases Nat.eq_zero_or_pos D.length with hz | hz
            · obtain rfl : D = [] := List.eq_nil_of_length_eq_zero hz
              go_upto_region 10 with (first
                | (refine wpList_build_none9X _ rfl rfl ?_)
                | (at_builtin; refine wpList_append_any _ rfl _ _ 27 rfl wr.heap.size 53 i0 (.agg #[.string ByteArray.empty, .slice none 0 0]) 2 40 Try.underlying27 hii iz0 iz1 iz2 rfl (by decide) _ 0 _ rfl (own_none9X _ _) _ _ _ (zcells (([] : List ZE).drop 0)) rfl (by rw [zcells_len, List.length_drop] <;> simp) (fun _ => by first | rfl | omega) (fun ad ha j u hu => by simp [zcells] at hu) zcells_one (by unfold maxLen; omega) (by omega) (by simp) ?_; intro v6 w6 hown6 hgrow6; have hO6 := own_normX hown6; have hB6 := none9_belX hgrow6; clear hown6 hgrow6; obtain ⟨va, vn, vc, rfl⟩ := own_slice hO6; obtain rfl : vn = (([] : List ZE).drop 0).length := own_lenD hO6))
              have hBw6 := hB1.trans (hB6.mono hB1.size)
              have HT := Lib.hid ((show w6.drew.ownsRow w.heap.size 53 2 (.slice ua ([] : List ZE).length uc) ([] : List ZE).length (zcells ([] : List ZE)) from ownsRow_belowF hO (Below.drew hB6)).alloc (.cells #[.string x.1, .slice ta tn tc] 53))
              have HR6 := Lib.hid (fun w' (hb : Below w6.heap.size w6 w') => own_newsX hO6 hb)
              obtain ⟨cx1, cx2⟩ := HX.out _ (Below.drew hBw6)
              have hba : Below w6.heap.size w6 (w6.drew.alloc (.cells #[.string x.1, .slice ta tn tc] 53)) := (Below.drew (Below.refl _ _)).alloc (Nat.le_refl _) _
              obtain ⟨ca1, ca2⟩ := HX.out _ (hBw6.trans (hba.mono hBw6.size))
              have hrl : (([] : List ZE).drop 0).length ≤ 1000 := by rw [List.length_drop]; omega
              clear hO6
              go_region_held3 (fun w' => w'.cell? ⟨g0, o0 + k * 2, none⟩ = some (.string x.1) ∧ w'.cell? ⟨g0, o0 + k * 2 + 1, none⟩ = some (.slice ta tn tc))
                (exact ⟨by assumption, by assumption⟩)
                (first
                  | (refine step_append_grows (by rfl) _ _ 27 (by rfl) 53 i0 (.agg #[.string ByteArray.empty, .slice none 0 0]) 2 40 Try.underlying27 hii iz0 iz1 iz2 (by rfl) (by decide) _ 0 0 (zcells (([] : List ZE).take 0)) (by rfl) (fun _ => ⟨rfl, rfl⟩) (by rw [zcells_len, List.length_take, Nat.min_eq_left (by first | omega | simp)]) (fun b hb j u hu => by simp [zcells] at hu) _ 1 1 [.string x.1, .slice ta tn tc] (by rfl) (by rfl) (World.news_of_block (World.alloc_heap_new _ _)) (by intro u hu; simp at hu; rcases hu with rfl | rfl <;> rfl) (Nat.lt_succ_self _) (by unfold maxLen; omega) (by omega) ?_; intro v7 w7 hown7 hgrow7; have hB7 := hba.grown hgrow7 hba.size (fun g hg => by cases hg); obtain ⟨cy1, cy2⟩ := HX.out _ (hBw6.trans (hB7.mono hBw6.size)); have HN7 := Lib.hid (HR6.out _ hB7))
                  | (refine step_append_any _ (by rfl) _ _ 27 (by rfl) _ 53 i0 (.agg #[.string ByteArray.empty, .slice none 0 0]) 2 40 Try.underlying27 hii iz0 iz1 iz2 (by rfl) (by decide) _ (0 + 1) _ (by rfl) hown7 va _ vc (zcells (([] : List ZE).drop 0)) (by rfl) (by rw [zcells_len, List.length_drop] <;> simp) (fun h => by have := HN7.out.1 h; have e := List.length_drop (i := 0) (l := ([] : List ZE)); omega) HN7.out.2 zcells_one (by unfold maxLen; omega) (by omega) hgrow7.size ?_; intro v8 w8 hown8 hgrow8; have hB8 := bel_step9 hB7 (by simp) hown7 hgrow8; obtain ⟨cz1, cz2⟩ := HX.out _ (hBw6.trans (hB8.mono hBw6.size))))
              go_wp2_with fail
              go_roundw
              case rel => exact ⟨k + 1, _, by omega, by go_num, HN.out, HE.out ▸ ⟨own_insX hown8 (Nat.le_trans hBw6.size (by simp)), rows_insX HRR.out HRT.out⟩, hBw6.trans (hB8.mono hBw6.size)⟩
              case measure => simp [intOf]; omega
            · have hz : ¬ D.length = 0 := by omega
              obtain ⟨g, cap, hg⟩ := own_someU hO (by omega)
              injection hg with q1 _ q3
              subst q1
              subst q3
              go_upto_region 10 with (first
                | (refine wpList_build_none9X _ rfl rfl ?_)
                | (at_builtin; refine wpList_append_any _ rfl _ _ 27 rfl wr.heap.size 53 i0 (.agg #[.string ByteArray.empty, .slice none 0 0]) 2 40 Try.underlying27 hii iz0 iz1 iz2 rfl (by decide) _ 0 _ rfl (own_none9X _ _) _ _ _ (zcells (D.drop D.length)) rfl (by rw [zcells_len, List.length_drop] <;> simp) (fun _ => by first | rfl | omega) (fun ad ha j u hu => by rw [List.drop_length] at hu; simp [zcells] at hu) zcells_one (by unfold maxLen; omega) (by omega) (by simp) ?_; intro v6 w6 hown6 hgrow6; have hO6 := own_normX hown6; have hB6 := none9_belX hgrow6; clear hown6 hgrow6; obtain ⟨va, vn, vc, rfl⟩ := own_slice hO6; obtain rfl : vn = (D.drop D.length).length := own_lenD hO6))
              have hBw6 := hB1.trans (hB6.mono hB1.size)
              have HT := Lib.hid ((show w6.drew.ownsRow w.heap.size 53 2 (.slice (some ⟨g, 0, none⟩) D.length uc) D.length (zcells D) from ownsRow_belowF hO (Below.drew hB6)).alloc (.cells #[.string x.1, .slice ta tn tc] 53))
              have HR6 := Lib.hid (fun w' (hb : Below w6.heap.size w6 w') => own_newsX hO6 hb)
              obtain ⟨cx1, cx2⟩ := HX.out _ (Below.drew hBw6)
              have hba : Below w6.heap.size w6 (w6.drew.alloc (.cells #[.string x.1, .slice ta tn tc] 53)) := (Below.drew (Below.refl _ _)).alloc (Nat.le_refl _) _
              obtain ⟨ca1, ca2⟩ := HX.out _ (hBw6.trans (hba.mono hBw6.size))
              have hrl : (D.drop D.length).length ≤ 1000 := by rw [List.length_drop]; omega
              clear hO6
              go_region_held3 (fun w' => w'.cell? ⟨g0, o0 + k * 2, none⟩ = some (.string x.1) ∧ w'.cell? ⟨g0, o0 + k * 2 + 1, none⟩ = some (.slice ta tn tc))
                (exact ⟨by assumption, by assumption⟩)
                (first
                  | (refine step_append_grows (by rfl) _ _ 27 (by rfl) 53 i0 (.agg #[.string ByteArray.empty, .slice none 0 0]) 2 40 Try.underlying27 hii iz0 iz1 iz2 (by rfl) (by decide) _ D.length D.length (zcells (D.take D.length)) (by rfl) (fun h => by cases h) (by rw [zcells_len, List.length_take, Nat.min_eq_left (by first | omega | simp)]) (fun b hb j u hu => by cases hb; simp only [Addr.add_lit, Nat.zero_add]; exact own_takeX HT.out D.length j u hu) _ 1 1 [.string x.1, .slice ta tn tc] (by rfl) (by rfl) (World.news_of_block (World.alloc_heap_new _ _)) (by intro u hu; simp at hu; rcases hu with rfl | rfl <;> rfl) (Nat.lt_succ_self _) (by unfold maxLen; omega) (by omega) ?_; intro v7 w7 hown7 hgrow7; have hB7 := hba.grown hgrow7 hba.size (fun g hg => by cases hg); obtain ⟨cy1, cy2⟩ := HX.out _ (hBw6.trans (hB7.mono hBw6.size)); have HN7 := Lib.hid (HR6.out _ hB7))
                  | (refine step_append_any _ (by rfl) _ _ 27 (by rfl) _ 53 i0 (.agg #[.string ByteArray.empty, .slice none 0 0]) 2 40 Try.underlying27 hii iz0 iz1 iz2 (by rfl) (by decide) _ (D.length + 1) _ (by rfl) hown7 va _ vc (zcells (D.drop D.length)) (by rfl) (by rw [zcells_len, List.length_drop] <;> simp) (fun h => by have := HN7.out.1 h; have e := List.length_drop (i := D.length) (l := D); omega) HN7.out.2 zcells_one (by unfold maxLen; omega) (by omega) hgrow7.size ?_; intro v8 w8 hown8 hgrow8; have hB8 := bel_step9 hB7 (by simp) hown7 hgrow8; obtain ⟨cz1, cz2⟩ := HX.out _ (hBw6.trans (hB8.mono hBw6.size))))
              go_wp2_with fail
              go_roundw
              case rel => exact ⟨k + 1, _, by omega, by go_num, HN.out, HE.out ▸ ⟨own_insX hown8 (Nat.le_trans hBw6.size (by simp)), rows_insX HRR.out HRT.out⟩, hBw6.trans (hB8.mono hBw6.size)⟩
              case measure => simp [intOf]; omega
          · rcases Nat.eq_zero_or_pos D.length with hz | hz
            · obtain rfl : D = [] := List.eq_nil_of_length_eq_zero hz
              go_upto_region 10 with (first
                | (refine wpList_build_none9X _ rfl rfl ?_)
                | (at_builtin; refine wpList_append_any _ rfl _ _ 27 rfl wr.heap.size 53 i0 (.agg #[.string ByteArray.empty, .slice none 0 0]) 2 40 Try.underlying27 hii iz0 iz1 iz2 rfl (by decide) _ 0 _ rfl (own_none9X _ _) _ _ _ (zcells (([] : List ZE).drop 0)) rfl (by rw [zcells_len, List.length_drop] <;> simp) (fun _ => by first | rfl | omega) (fun ad ha j u hu => by simp [zcells] at hu) zcells_one (by unfold maxLen; omega) (by omega) (by simp) ?_; intro v6 w6 hown6 hgrow6; have hO6 := own_normX hown6; have hB6 := none9_belX hgrow6; clear hown6 hgrow6; obtain ⟨va, vn, vc, rfl⟩ := own_slice hO6; obtain rfl : vn = (([] : List ZE).drop 0).length := own_lenD hO6))
              have hBw6 := hB1.trans (hB6.mono hB1.size)
              have HT := Lib.hid ((show w6.drew.ownsRow w.heap.size 53 2 (.slice ua ([] : List ZE).length uc) ([] : List ZE).length (zcells ([] : List ZE)) from ownsRow_belowF hO (Below.drew hB6)).alloc (.cells #[.string x.1, .slice ta tn tc] 53))
              have HR6 := Lib.hid (fun w' (hb : Below w6.heap.size w6 w') => own_newsX hO6 hb)
              obtain ⟨cx1, cx2⟩ := HX.out _ (Below.drew hBw6)
              have hba : Below w6.heap.size w6 (w6.drew.alloc (.cells #[.string x.1, .slice ta tn tc] 53)) := (Below.drew (Below.refl _ _)).alloc (Nat.le_refl _) _
              obtain ⟨ca1, ca2⟩ := HX.out _ (hBw6.trans (hba.mono hBw6.size))
              have hrl : (([] : List ZE).drop 0).length ≤ 1000 := by rw [List.length_drop]; omega
              clear hO6
              go_region_held3 (fun w' => w'.cell? ⟨g0, o0 + k * 2, none⟩ = some (.string x.1) ∧ w'.cell? ⟨g0, o0 + k * 2 + 1, none⟩ = some (.slice ta tn tc))
                (exact ⟨by assumption, by assumption⟩)
                (first
                  | (refine step_append_grows (by rfl) _ _ 27 (by rfl) 53 i0 (.agg #[.string ByteArray.empty, .slice none 0 0]) 2 40 Try.underlying27 hii iz0 iz1 iz2 (by rfl) (by decide) _ 0 0 (zcells (([] : List ZE).take 0)) (by rfl) (fun _ => ⟨rfl, rfl⟩) (by rw [zcells_len, List.length_take, Nat.min_eq_left (by first | omega | simp)]) (fun b hb j u hu => by simp [zcells] at hu) _ 1 1 [.string x.1, .slice ta tn tc] (by rfl) (by rfl) (World.news_of_block (World.alloc_heap_new _ _)) (by intro u hu; simp at hu; rcases hu with rfl | rfl <;> rfl) (Nat.lt_succ_self _) (by unfold maxLen; omega) (by omega) ?_; intro v7 w7 hown7 hgrow7; have hB7 := hba.grown hgrow7 hba.size (fun g hg => by cases hg); obtain ⟨cy1, cy2⟩ := HX.out _ (hBw6.trans (hB7.mono hBw6.size)); have HN7 := Lib.hid (HR6.out _ hB7))
                  | (refine step_append_any _ (by rfl) _ _ 27 (by rfl) _ 53 i0 (.agg #[.string ByteArray.empty, .slice none 0 0]) 2 40 Try.underlying27 hii iz0 iz1 iz2 (by rfl) (by decide) _ (0 + 1) _ (by rfl) hown7 va _ vc (zcells (([] : List ZE).drop 0)) (by rfl) (by rw [zcells_len, List.length_drop] <;> simp) (fun h => by have := HN7.out.1 h; have e := List.length_drop (i := 0) (l := ([] : List ZE)); omega) HN7.out.2 zcells_one (by unfold maxLen; omega) (by omega) hgrow7.size ?_; intro v8 w8 hown8 hgrow8; have hB8 := bel_step9 hB7 (by simp) hown7 hgrow8; obtain ⟨cz1, cz2⟩ := HX.out _ (hBw6.trans (hB8.mono hBw6.size))))
              go_wp2_with fail
              go_roundw
              case rel => exact ⟨k + 1, _, by omega, by go_num, HN.out, HE.out ▸ ⟨own_insX hown8 (Nat.le_trans hBw6.size (by simp)), rows_insX HRR.out HRT.out⟩, hBw6.trans (hB8.mono hBw6.size)⟩
              case measure => simp [intOf]; omega
            · have hz : ¬ D.length = 0 := by omega
              obtain ⟨g, cap, hg⟩ := own_someU hO (by omega)
              injection hg with q1 _ q3
              subst q1
              subst q3
              go_upto_region 10 with (first
                | (refine wpList_build_none9X _ rfl rfl ?_)
                | (at_builtin; refine wpList_append_any _ rfl _ _ 27 rfl wr.heap.size 53 i0 (.agg #[.string ByteArray.empty, .slice none 0 0]) 2 40 Try.underlying27 hii iz0 iz1 iz2 rfl (by decide) _ 0 _ rfl (own_none9X _ _) _ _ _ (zcells (D.drop D.length)) rfl (by rw [zcells_len, List.length_drop] <;> simp) (fun _ => by first | rfl | omega) (fun ad ha j u hu => by rw [List.drop_length] at hu; simp [zcells] at hu) zcells_one (by unfold maxLen; omega) (by omega) (by simp) ?_; intro v6 w6 hown6 hgrow6; have hO6 := own_normX hown6; have hB6 := none9_belX hgrow6; clear hown6 hgrow6; obtain ⟨va, vn, vc, rfl⟩ := own_slice hO6; obtain rfl : vn = (D.drop D.length).length := own_lenD hO6))
              have hBw6 := hB1.trans (hB6.mono hB1.size)
              have HT := Lib.hid ((show w6.drew.ownsRow w.heap.size 53 2 (.slice (some ⟨g, 0, none⟩) D.length uc) D.length (zcells D) from ownsRow_belowF hO (Below.drew hB6)).alloc (.cells #[.string x.1, .slice ta tn tc] 53))
              have HR6 := Lib.hid (fun w' (hb : Below w6.heap.size w6 w') => own_newsX hO6 hb)
              obtain ⟨cx1, cx2⟩ := HX.out _ (Below.drew hBw6)
              have hba : Below w6.heap.size w6 (w6.drew.alloc (.cells #[.string x.1, .slice ta tn tc] 53)) := (Below.drew (Below.refl _ _)).alloc (Nat.le_refl _) _
              obtain ⟨ca1, ca2⟩ := HX.out _ (hBw6.trans (hba.mono hBw6.size))
              have hrl : (D.drop D.length).length ≤ 1000 := by rw [List.length_drop]; omega
              clear hO6
              go_region_held3 (fun w' => w'.cell? ⟨g0, o0 + k * 2, none⟩ = some (.string x.1) ∧ w'.cell? ⟨g0, o0 + k * 2 + 1, none⟩ = some (.slice ta tn tc))
                (exact ⟨by assumption, by assumption⟩)
                (first
                  | (refine step_append_grows (by rfl) _ _ 27 (by rfl) 53 i0 (.agg #[.string ByteArray.empty, .slice none 0 0]) 2 40 Try.underlying27 hii iz0 iz1 iz2 (by rfl) (by decide) _ D.length D.length (zcells (D.take D.length)) (by rfl) (fun h => by cases h) (by rw [zcells_len, List.length_take, Nat.min_eq_left (by first | omega | simp)]) (fun b hb j u hu => by cases hb; simp only [Addr.add_lit, Nat.zero_add]; exact own_takeX HT.out D.length j u hu) _ 1 1 [.string x.1, .slice ta tn tc] (by rfl) (by rfl) (World.news_of_block (World.alloc_heap_new _ _)) (by intro u hu; simp at hu; rcases hu with rfl | rfl <;> rfl) (Nat.lt_succ_self _) (by unfold maxLen; omega) (by omega) ?_; intro v7 w7 hown7 hgrow7; have hB7 := hba.grown hgrow7 hba.size (fun g hg => by cases hg); obtain ⟨cy1, cy2⟩ := HX.out _ (hBw6.trans (hB7.mono hBw6.size)); have HN7 := Lib.hid (HR6.out _ hB7))
                  | (refine step_append_any _ (by rfl) _ _ 27 (by rfl) _ 53 i0 (.agg #[.string ByteArray.empty, .slice none 0 0]) 2 40 Try.underlying27 hii iz0 iz1 iz2 (by rfl) (by decide) _ (D.length + 1) _ (by rfl) hown7 va _ vc (zcells (D.drop D.length)) (by rfl) (by rw [zcells_len, List.length_drop] <;> simp) (fun h => by have := HN7.out.1 h; have e := List.length_drop (i := D.length) (l := D); omega) HN7.out.2 zcells_one (by unfold maxLen; omega) (by omega) hgrow7.size ?_; intro v8 w8 hown8 hgrow8; have hB8 := bel_step9 hB7 (by simp) hown7 hgrow8; obtain ⟨cz1, cz2⟩ := HX.out _ (hBw6.trans (hB8.mono hBw6.size))))
              go_wp2_with fail
              go_roundw
              case rel => exact ⟨k + 1, _, by omega, by go_num, HN.out, HE.out ▸ ⟨own_insX hown8 (Nat.le_trans hBw6.size (by simp)), rows_insX HRR.out HRT.out⟩, hBw6.trans (hB8.mono hBw6.size)⟩
              case measure => simp [intOf]; omega
    · obtain rfl : k = L.length := by omega
      have hki : ¬ (L.length : Int) < (L.length : Int) := by omega
      rw [List.take_of_length_le (Nat.le_refl _)] at hDm
      go_wp2_with fail
      go_ret
      exact ⟨_, rfl, ⟨D, hDm, hO, hrr⟩, hB⟩
end Go.Proofs.Ytgdcdijdpflmdaa
