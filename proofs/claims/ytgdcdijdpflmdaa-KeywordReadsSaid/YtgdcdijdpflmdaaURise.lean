/-
  The document's Rising.
-/
import Derived.Test.YtgdcdijdpflmdaaURiseM
import Derived.Test.YtgdcdijdpflmdaaUWriteR
import Derived.BigQuiet
import Derived.Deep.RegionLawGrows
namespace Go.Proofs.Ytgdcdijdpflmdaa
open Go Go.RowKit

theorem bl_ofR {a b : ByteArray} {c : Bool} (h : ltS a b = c) : Op.bytesLess a.toList b.toList = c := by
  rw [Go.Proofs.bytesLess_eq, Go.Lib.toList_data, Go.Lib.toList_data]
  exact h
theorem none9_bel {w w6 : World} {m : Nat} (h : ((w.drewN m).alloc (.cells #[] 9)).grownBy w6 (Value.slice (some ⟨w.heap.size, 0, none⟩) 0 0).ownBlock) : Below w.heap.size w w6 :=
  ((below_drewN (Below.refl _ w) m).alloc (Nat.le_refl _) _).grown h (by simp) (fun g hg => by cases hg; exact Nat.le_refl _)
theorem own_lenD {w : World} {base n n' c sz : Nat} {e : TypeId} {a : Option Addr} {xs : List Value} (h : w.ownsRow base e sz (.slice a n' c) n xs) : n' = n := by
  rcases owned_cases h with ⟨h1, h2⟩ | ⟨g, cap, h1⟩
  · cases h1; exact h2.symm
  · cases h1; rfl
theorem bel_step9 {w6 w7 w8 : World} {base n sz : Nat} {e : TypeId} {v : Value} {xs : List Value} (hB7 : Below w6.heap.size w6 w7) (hs : w6.heap.size ≤ base) (ho : w7.ownsRow base e sz v n xs) (hg : w7.grownBy w8 v.ownBlock) : Below w6.heap.size w6 w8 :=
  hB7.grown hg hB7.size (fun g h => Nat.le_trans hs (ho.lt g h).1)
theorem own_insS {w : World} {base b' n : Nat} {v : Value} {x : ByteArray} {T R : List ByteArray} (h : w.ownsRow base 9 1 v n ((strs T ++ [.string x]) ++ strs R)) (hb : b' ≤ base) : w.ownsRow b' 9 1 v (T ++ x :: R).length (strs (T ++ x :: R)) := by
  have e : n = (T ++ x :: R).length := by have := h.1; simp [strs] at this; simp; omega
  subst e
  have e2 : strs (T ++ x :: R) = (strs T ++ [.string x]) ++ strs R := by simp [strs]
  rw [e2]
  exact ownsRow_base h hb
theorem own_capD {w : World} {base n c sz : Nat} {e : TypeId} {a : Option Addr} {xs : List Value} (h : w.ownsRow base e sz (.slice a n c) n xs) : n ≤ c := by
  obtain ⟨_, _, hq, hl⟩ := own_capU h
  injection hq with _ _ h3
  omega
theorem own_none9 (w : World) (m : Nat) : ((w.drewN m).alloc (.cells #[] 9)).ownsRow w.heap.size 9 1 (.slice (some ⟨w.heap.size, 0, none⟩) 0 0) 0 [] := own_lit (l := []) (World.alloc_heap_new (w.drewN m) _) rfl (Nat.le_refl _) (by decide)
theorem own_normS {w : World} {base n : Nat} {v : Value} {R : List ByteArray} (h : w.ownsRow base 9 1 v n ([] ++ strs R)) : w.ownsRow base 9 1 v R.length (strs R) := by
  have e : n = R.length := by have := h.1; simp [strs] at this; omega
  subst e
  exact h
theorem own_dropS {w : World} {base g cap : Nat} {D : List ByteArray} (h : w.ownsRow base 9 1 (.slice (some ⟨g, 0, none⟩) D.length cap) D.length (strs D)) (k : Nat) : ∀ j u, (strs (D.drop k))[j]? = some u → w.cell? ⟨g, k + j, none⟩ = some u := by
  intro j u hu
  unfold strs at hu
  rw [List.getElem?_map, List.getElem?_drop] at hu
  cases hx : D[k + j]? with
  | none => rw [hx] at hu; simp at hu
  | some x => rw [hx] at hu; rw [own_cell h (k + j) x hx]; exact hu
theorem own_takeS {w : World} {base g cap : Nat} {D : List ByteArray} (h : w.ownsRow base 9 1 (.slice (some ⟨g, 0, none⟩) D.length cap) D.length (strs D)) (k : Nat) : ∀ j u, (strs (D.take k))[j]? = some u → w.cell? ⟨g, j, none⟩ = some u := by
  intro j u hu
  unfold strs at hu
  rw [List.getElem?_map, List.getElem?_take] at hu
  split at hu
  · cases hx : D[j]? with
    | none => rw [hx] at hu; simp at hu
    | some x => rw [hx] at hu; rw [own_cell h j x hx]; exact hu
  · simp at hu
set_option maxRecDepth 100000 in
set_option maxHeartbeats 2000000 in
theorem rising_kw (v : Value) (l : List ByteArray) (w : World) (hv : RowU w v l) (hl : l.length ≤ 1000) :
    Calls Try.prog 63 #[v] w fun e w' => ∃ u, e = .returned u ∧ w'.ownsRow w.heap.size 9 1 u (riseBy id l).length (strs (riseBy id l)) ∧ Below w.heap.size w w' := by
  obtain ⟨i0, hii, iz0, iz1, iz2⟩ := info_parts stringInfo
  obtain ⟨ao, c, rfl, hc⟩ := hv
  have HC := Lib.hid hc
  clear hc
  go_enter Try.func63, Try.ntmps63
  go_wp2_with fail
  go_loopw [3, 4, 5, 6] (fun u i _ _ wr => ∃ k : Nat, k ≤ l.length ∧ i = .int .i64 (k : Int) ∧ wr.ownsRow w.heap.size 9 1 u (riseBy id (l.take k)).length (strs (riseBy id (l.take k))) ∧ Below w.heap.size w wr) (fun _ i _ _ _ => l.length - (intOf i).toNat)
  case atStart => exact ⟨0, Nat.zero_le _, rfl, World.ownsRow_nil _ _ _ _, Below.refl _ _⟩
  case round =>
    obtain ⟨k, hk, rfl, hO, hB⟩ := hrel
    by_cases hlt : k < l.length
    · have hki : (k : Int) < (l.length : Int) := by omega
      have hk0 : (0 : Int) ≤ (k : Int) := by omega
      obtain ⟨x, hx⟩ : ∃ x, l[k]? = some x := ⟨_, List.getElem?_eq_getElem hlt⟩
      obtain ⟨g0, o0, rfl, c0⟩ := HC.out k x hx
      have HX := Lib.hid (fun wr (hb : Below w.heap.size w wr) => (hb.cell (p := ⟨g0, o0 + k, none⟩) (lt_of_cellF c0)).trans c0)
      have HN := Lib.hid (rise_next id hx)
      have hDl := rise_take_len id l k
      clear hx c0
      generalize riseBy id (l.take k) = D at *
      have HO := Lib.hid hO
      obtain ⟨ua, un, uc, rfl⟩ := own_slice hO
      obtain rfl : un = D.length := by
        rcases owned_cases hO with ⟨h1, h2⟩ | ⟨g, cap, h1⟩
        · cases h1; exact h2.symm
        · cases h1; rfl
      clear hO
      go_wp2_with fail
      go_loopw [5] (fun j w1 => ∃ n : Nat, n ≤ D.length ∧ j = .int .i64 (n : Int) ∧ w1.ownsRow w.heap.size 9 1 (.slice ua D.length uc) D.length (strs D) ∧ Below w.heap.size w w1 ∧ Hid (∀ i y, i < n → D[i]? = some y → ltS (id y) (id x) = true)) (fun j _ => D.length - (intOf j).toNat)
      case atStart => exact ⟨0, Nat.zero_le _, rfl, HO.out, hB, Lib.hid (fun i y h => by omega)⟩
      case round =>
        obtain ⟨n, hn, rfl, hO, hB1, HP⟩ := hrel
        have hn0 : (0 : Int) ≤ (n : Int) := by omega
        have cx := HX.out _ hB1
        have hcl := own_capD hO
        have hcn : (n : Int) ≤ (uc : Int) := by omega
        have HOA := Lib.hid (fun m => (show (wr.drewN m).ownsRow w.heap.size 9 1 (.slice ua D.length uc) D.length (strs D) from hO).alloc (.cells #[] 9))
        by_cases hnl : n < D.length
        · have hni : (n : Int) < (D.length : Int) := by omega
          have hun : ¬ uc = n := by omega
          have hne : ((n : Int) == (D.length : Int)) = false := by rw [beq_eq_false_iff_ne]; omega
          obtain ⟨g, cap, hg⟩ := own_someU hO (by omega)
          injection hg with q1 _ q3
          subst q1
          subst q3
          obtain ⟨y, hy⟩ : ∃ y, D[n]? = some y := ⟨_, List.getElem?_eq_getElem hnl⟩
          have cy := own_cell hO n y hy
          cases hc : ltS y x with
          | true =>
            have hbl := bl_ofR hc
            have HP2 := Lib.hid (show ∀ i z, i < n + 1 → D[i]? = some z → ltS (id z) (id x) = true from fun i z hi hz => by
              rcases Nat.lt_or_ge i n with h | h
              · exact HP.out i z h hz
              · obtain rfl : i = n := by omega
                rw [hy] at hz; cases hz; exact hc)
            go_wp2_with fail
            go_quiet (fail)
            go_wp2_with fail
            go_roundw
            case rel => exact ⟨n + 1, by omega, by go_num, hO, below_drewN hB1 _, HP2⟩
            case measure => simp [intOf]; omega
          | false =>
            have hbl := bl_ofR hc
            by_cases hyx : y = x
            · have HE := Lib.hid (insBy_old id HP.out hy hc hyx)
              have ht : (y.toList == x.toList) = true := by rw [hyx]; simp
              have ht2 : (y.toList != x.toList) = false := by rw [hyx]; simp
              clear hyx
              go_wp2_with fail
              go_quiet (fail)
              go_wp2_with fail
              go_quiet (fail)
              go_wp2_with fail
              go_roundw
              case rel => exact ⟨k + 1, by omega, by go_num, by rw [HN.out, HE.out]; exact hO, below_drewN hB1 _⟩
              case measure => simp [intOf]; omega
            · have h2 : ∀ z, D[n]? = some z → ltS (id z) (id x) = false ∧ id z ≠ id x := by
                intro z hz
                rw [hy] at hz
                injection hz with hz
                subst hz
                exact ⟨hc, hyx⟩
              have HE := Lib.hid (insBy_new id hn HP.out h2)
              clear h2
              have ht := toList_ne hyx
              have ht2 : (y.toList != x.toList) = true := by rw [bne, ht]; rfl
              clear hyx
              go_wp2_with fail
              go_quiet (fail)
              go_wp2_with fail
              go_quiet (fail)
              rcases Nat.eq_zero_or_pos n with hz | hz
              · subst hz
                go_upto_region 10 with (first
                  | (refine wpList_build_none9 _ rfl rfl ?_)
                  | (at_builtin; refine wpList_append_any _ rfl _ _ 26 rfl wr.heap.size 9 i0 (.string ByteArray.empty) 1 16 Try.underlying26 hii iz0 iz1 iz2 rfl (by decide) _ 0 _ rfl (own_none9 _ _) _ _ _ (strs (D.drop 0)) rfl (by simp [strs]) (fun h => by cases h) (fun ad ha j u hu => by cases ha; rw [Addr.add_lit]; exact own_dropS (HOA.out _) 0 j u hu) strsU_one (by unfold maxLen; omega) (by omega) (by simp) ?_; intro v6 w6 hown6 hgrow6; have hO6 := own_normS hown6; have hB6 := none9_bel hgrow6; clear hown6 hgrow6; obtain ⟨va, vn, vc, rfl⟩ := own_slice hO6; obtain rfl : vn = (D.drop 0).length := own_lenD hO6))
                have hBw6 := hB1.trans (hB6.mono hB1.size)
                have HT := Lib.hid ((show w6.drew.ownsRow w.heap.size 9 1 (.slice (some ⟨g, 0, none⟩) D.length uc) D.length (strs D) from ownsRow_belowF hO (Below.drew hB6)).alloc (.cells #[.string x] 9))
                have HR6 := Lib.hid (fun w' (hb : Below w6.heap.size w6 w') => ((RowU.of_own hO6).below hb).news)
                have cx : w6.drew.cell? ⟨g0, o0 + k, none⟩ = some (.string x) := HX.out _ (Below.drew hBw6)
                have hba : Below w6.heap.size w6 (w6.drew.alloc (.cells #[.string x] 9)) := (Below.drew (Below.refl _ _)).alloc (Nat.le_refl _) _
                have ca := HX.out _ (hBw6.trans (hba.mono hBw6.size))
                have hrl : (D.drop 0).length ≤ 1000 := by rw [List.length_drop]; omega
                clear hO6
                go_region_held3 (fun w' => w'.cell? ⟨g0, o0 + k, none⟩ = some (.string x))
                  (assumption)
                  (first
                    | (refine step_append_grows (by rfl) _ _ 26 (by rfl) 9 i0 (.string ByteArray.empty) 1 16 Try.underlying26 hii iz0 iz1 iz2 (by rfl) (by decide) _ 0 0 (strs (D.take 0)) (by rfl) (fun h => by cases h) (by simp [strs] <;> omega) (fun b hb j u hu => by cases hb; simp only [Addr.add_lit, Nat.zero_add]; exact own_takeS HT.out 0 j u hu) _ 1 1 [.string x] (by rfl) (by rfl) (World.news_of_block (World.alloc_heap_new _ _)) (by intro u hu; simp at hu; subst hu; rfl) (Nat.lt_succ_self _) (by unfold maxLen; omega) (by omega) ?_; intro v7 w7 hown7 hgrow7; have hB7 := hba.grown hgrow7 hba.size (fun g hg => by cases hg); have cx7 := HX.out _ (hBw6.trans (hB7.mono hBw6.size)); have HN7 := Lib.hid (HR6.out _ hB7))
                    | (refine step_append_any _ (by rfl) _ _ 26 (by rfl) _ 9 i0 (.string ByteArray.empty) 1 16 Try.underlying26 hii iz0 iz1 iz2 (by rfl) (by decide) _ (0 + 1) _ (by rfl) hown7 va _ vc (strs (D.drop 0)) (by rfl) (by simp [strs]) (fun h => by have := HN7.out.1 h; have e := List.length_drop (i := 0) (l := D); omega) HN7.out.2 strsU_one (by unfold maxLen; omega) (by omega) hgrow7.size ?_; intro v8 w8 hown8 hgrow8; have hB8 := bel_step9 hB7 (by simp) hown7 hgrow8; have cx8 := HX.out _ (hBw6.trans (hB8.mono hBw6.size))))
                go_wp2_with fail
                go_roundw
                case rel => exact ⟨k + 1, by omega, by go_num, by rw [HN.out, HE.out]; exact own_insS hown8 (Nat.le_trans hBw6.size (by simp)), hBw6.trans (hB8.mono hBw6.size)⟩
                case measure => simp [intOf]; omega
              · have hz : ¬ n = 0 := by omega
                go_upto_region 10 with (first
                  | (refine wpList_build_none9 _ rfl rfl ?_)
                  | (at_builtin; refine wpList_append_any _ rfl _ _ 26 rfl wr.heap.size 9 i0 (.string ByteArray.empty) 1 16 Try.underlying26 hii iz0 iz1 iz2 rfl (by decide) _ 0 _ rfl (own_none9 _ _) _ _ _ (strs (D.drop n)) rfl (by simp [strs]) (fun h => by cases h) (fun ad ha j u hu => by cases ha; rw [Addr.add_lit]; exact own_dropS (HOA.out _) n j u hu) strsU_one (by unfold maxLen; omega) (by omega) (by simp) ?_; intro v6 w6 hown6 hgrow6; have hO6 := own_normS hown6; have hB6 := none9_bel hgrow6; clear hown6 hgrow6; obtain ⟨va, vn, vc, rfl⟩ := own_slice hO6; obtain rfl : vn = (D.drop n).length := own_lenD hO6))
                have hBw6 := hB1.trans (hB6.mono hB1.size)
                have HT := Lib.hid ((show w6.drew.ownsRow w.heap.size 9 1 (.slice (some ⟨g, 0, none⟩) D.length uc) D.length (strs D) from ownsRow_belowF hO (Below.drew hB6)).alloc (.cells #[.string x] 9))
                have HR6 := Lib.hid (fun w' (hb : Below w6.heap.size w6 w') => ((RowU.of_own hO6).below hb).news)
                have cx : w6.drew.cell? ⟨g0, o0 + k, none⟩ = some (.string x) := HX.out _ (Below.drew hBw6)
                have hba : Below w6.heap.size w6 (w6.drew.alloc (.cells #[.string x] 9)) := (Below.drew (Below.refl _ _)).alloc (Nat.le_refl _) _
                have ca := HX.out _ (hBw6.trans (hba.mono hBw6.size))
                have hrl : (D.drop n).length ≤ 1000 := by rw [List.length_drop]; omega
                clear hO6
                go_region_held3 (fun w' => w'.cell? ⟨g0, o0 + k, none⟩ = some (.string x))
                  (assumption)
                  (first
                    | (refine step_append_grows (by rfl) _ _ 26 (by rfl) 9 i0 (.string ByteArray.empty) 1 16 Try.underlying26 hii iz0 iz1 iz2 (by rfl) (by decide) _ n n (strs (D.take n)) (by rfl) (fun h => by cases h) (by simp [strs] <;> omega) (fun b hb j u hu => by cases hb; simp only [Addr.add_lit, Nat.zero_add]; exact own_takeS HT.out n j u hu) _ 1 1 [.string x] (by rfl) (by rfl) (World.news_of_block (World.alloc_heap_new _ _)) (by intro u hu; simp at hu; subst hu; rfl) (Nat.lt_succ_self _) (by unfold maxLen; omega) (by omega) ?_; intro v7 w7 hown7 hgrow7; have hB7 := hba.grown hgrow7 hba.size (fun g hg => by cases hg); have cx7 := HX.out _ (hBw6.trans (hB7.mono hBw6.size)); have HN7 := Lib.hid (HR6.out _ hB7))
                    | (refine step_append_any _ (by rfl) _ _ 26 (by rfl) _ 9 i0 (.string ByteArray.empty) 1 16 Try.underlying26 hii iz0 iz1 iz2 (by rfl) (by decide) _ (n + 1) _ (by rfl) hown7 va _ vc (strs (D.drop n)) (by rfl) (by simp [strs]) (fun h => by have := HN7.out.1 h; have e := List.length_drop (i := n) (l := D); omega) HN7.out.2 strsU_one (by unfold maxLen; omega) (by omega) hgrow7.size ?_; intro v8 w8 hown8 hgrow8; have hB8 := bel_step9 hB7 (by simp) hown7 hgrow8; have cx8 := HX.out _ (hBw6.trans (hB8.mono hBw6.size))))
                go_wp2_with fail
                go_roundw
                case rel => exact ⟨k + 1, by omega, by go_num, by rw [HN.out, HE.out]; exact own_insS hown8 (Nat.le_trans hBw6.size (by simp)), hBw6.trans (hB8.mono hBw6.size)⟩
                case measure => simp [intOf]; omega
        · obtain rfl : n = D.length := by omega
          have hni : ¬ (D.length : Int) < (D.length : Int) := by omega
          have hdi : decide ((D.length : Int) < (D.length : Int)) = false := decide_eq_false hni
          have h2 : ∀ z, D[D.length]? = some z → ltS (id z) (id x) = false ∧ id z ≠ id x := by
            intro z hz
            rw [List.getElem?_eq_none (Nat.le_refl _)] at hz
            cases hz
          have HE := Lib.hid (insBy_new id hn HP.out h2)
          clear h2
          go_wp2_with fail
          go_quiet (fail)
          go_wp2_with fail
          go_quiet (fail)
          by_cases huc : uc = D.length
          · rcases Nat.eq_zero_or_pos D.length with hz | hz
            · obtain rfl : D = [] := List.eq_nil_of_length_eq_zero hz
              go_upto_region 10 with (first
                | (refine wpList_build_none9 _ rfl rfl ?_)
                | (at_builtin; refine wpList_append_any _ rfl _ _ 26 rfl wr.heap.size 9 i0 (.string ByteArray.empty) 1 16 Try.underlying26 hii iz0 iz1 iz2 rfl (by decide) _ 0 _ rfl (own_none9 _ _) _ _ _ (strs (([] : List ByteArray).drop 0)) rfl (by simp [strs]) (fun _ => by first | rfl | omega) (fun ad ha j u hu => by simp [strs] at hu) strsU_one (by unfold maxLen; omega) (by omega) (by simp) ?_; intro v6 w6 hown6 hgrow6; have hO6 := own_normS hown6; have hB6 := none9_bel hgrow6; clear hown6 hgrow6; obtain ⟨va, vn, vc, rfl⟩ := own_slice hO6; obtain rfl : vn = (([] : List ByteArray).drop 0).length := own_lenD hO6))
              have hBw6 := hB1.trans (hB6.mono hB1.size)
              have HT := Lib.hid ((show w6.drew.ownsRow w.heap.size 9 1 (.slice ua ([] : List ByteArray).length uc) ([] : List ByteArray).length (strs ([] : List ByteArray)) from ownsRow_belowF hO (Below.drew hB6)).alloc (.cells #[.string x] 9))
              have HR6 := Lib.hid (fun w' (hb : Below w6.heap.size w6 w') => ((RowU.of_own hO6).below hb).news)
              have cx : w6.drew.cell? ⟨g0, o0 + k, none⟩ = some (.string x) := HX.out _ (Below.drew hBw6)
              have hba : Below w6.heap.size w6 (w6.drew.alloc (.cells #[.string x] 9)) := (Below.drew (Below.refl _ _)).alloc (Nat.le_refl _) _
              have ca := HX.out _ (hBw6.trans (hba.mono hBw6.size))
              have hrl : (([] : List ByteArray).drop 0).length ≤ 1000 := by rw [List.length_drop]; omega
              clear hO6
              go_region_held3 (fun w' => w'.cell? ⟨g0, o0 + k, none⟩ = some (.string x))
                (assumption)
                (first
                  | (refine step_append_grows (by rfl) _ _ 26 (by rfl) 9 i0 (.string ByteArray.empty) 1 16 Try.underlying26 hii iz0 iz1 iz2 (by rfl) (by decide) _ 0 0 (strs (([] : List ByteArray).take 0)) (by rfl) (fun _ => ⟨rfl, rfl⟩) (by simp [strs] <;> omega) (fun b hb j u hu => by simp [strs] at hu) _ 1 1 [.string x] (by rfl) (by rfl) (World.news_of_block (World.alloc_heap_new _ _)) (by intro u hu; simp at hu; subst hu; rfl) (Nat.lt_succ_self _) (by unfold maxLen; omega) (by omega) ?_; intro v7 w7 hown7 hgrow7; have hB7 := hba.grown hgrow7 hba.size (fun g hg => by cases hg); have cx7 := HX.out _ (hBw6.trans (hB7.mono hBw6.size)); have HN7 := Lib.hid (HR6.out _ hB7))
                  | (refine step_append_any _ (by rfl) _ _ 26 (by rfl) _ 9 i0 (.string ByteArray.empty) 1 16 Try.underlying26 hii iz0 iz1 iz2 (by rfl) (by decide) _ (0 + 1) _ (by rfl) hown7 va _ vc (strs (([] : List ByteArray).drop 0)) (by rfl) (by simp [strs]) (fun h => by have := HN7.out.1 h; have e := List.length_drop (i := 0) (l := ([] : List ByteArray)); omega) HN7.out.2 strsU_one (by unfold maxLen; omega) (by omega) hgrow7.size ?_; intro v8 w8 hown8 hgrow8; have hB8 := bel_step9 hB7 (by simp) hown7 hgrow8; have cx8 := HX.out _ (hBw6.trans (hB8.mono hBw6.size))))
              go_wp2_with fail
              go_roundw
              case rel => exact ⟨k + 1, by omega, by go_num, by rw [HN.out, HE.out]; exact own_insS hown8 (Nat.le_trans hBw6.size (by simp)), hBw6.trans (hB8.mono hBw6.size)⟩
              case measure => simp [intOf]; omega
            · have hz : ¬ D.length = 0 := by omega
              obtain ⟨g, cap, hg⟩ := own_someU hO (by omega)
              injection hg with q1 _ q3
              subst q1
              subst q3
              go_upto_region 10 with (first
                | (refine wpList_build_none9 _ rfl rfl ?_)
                | (at_builtin; refine wpList_append_any _ rfl _ _ 26 rfl wr.heap.size 9 i0 (.string ByteArray.empty) 1 16 Try.underlying26 hii iz0 iz1 iz2 rfl (by decide) _ 0 _ rfl (own_none9 _ _) _ _ _ (strs (D.drop D.length)) rfl (by simp [strs]) (fun _ => by first | rfl | omega) (fun ad ha j u hu => by simp [strs] at hu) strsU_one (by unfold maxLen; omega) (by omega) (by simp) ?_; intro v6 w6 hown6 hgrow6; have hO6 := own_normS hown6; have hB6 := none9_bel hgrow6; clear hown6 hgrow6; obtain ⟨va, vn, vc, rfl⟩ := own_slice hO6; obtain rfl : vn = (D.drop D.length).length := own_lenD hO6))
              have hBw6 := hB1.trans (hB6.mono hB1.size)
              have HT := Lib.hid ((show w6.drew.ownsRow w.heap.size 9 1 (.slice (some ⟨g, 0, none⟩) D.length uc) D.length (strs D) from ownsRow_belowF hO (Below.drew hB6)).alloc (.cells #[.string x] 9))
              have HR6 := Lib.hid (fun w' (hb : Below w6.heap.size w6 w') => ((RowU.of_own hO6).below hb).news)
              have cx : w6.drew.cell? ⟨g0, o0 + k, none⟩ = some (.string x) := HX.out _ (Below.drew hBw6)
              have hba : Below w6.heap.size w6 (w6.drew.alloc (.cells #[.string x] 9)) := (Below.drew (Below.refl _ _)).alloc (Nat.le_refl _) _
              have ca := HX.out _ (hBw6.trans (hba.mono hBw6.size))
              have hrl : (D.drop D.length).length ≤ 1000 := by rw [List.length_drop]; omega
              clear hO6
              go_region_held3 (fun w' => w'.cell? ⟨g0, o0 + k, none⟩ = some (.string x))
                (assumption)
                (first
                  | (refine step_append_grows (by rfl) _ _ 26 (by rfl) 9 i0 (.string ByteArray.empty) 1 16 Try.underlying26 hii iz0 iz1 iz2 (by rfl) (by decide) _ D.length D.length (strs (D.take D.length)) (by rfl) (fun h => by cases h) (by simp [strs] <;> omega) (fun b hb j u hu => by cases hb; simp only [Addr.add_lit, Nat.zero_add]; exact own_takeS HT.out D.length j u hu) _ 1 1 [.string x] (by rfl) (by rfl) (World.news_of_block (World.alloc_heap_new _ _)) (by intro u hu; simp at hu; subst hu; rfl) (Nat.lt_succ_self _) (by unfold maxLen; omega) (by omega) ?_; intro v7 w7 hown7 hgrow7; have hB7 := hba.grown hgrow7 hba.size (fun g hg => by cases hg); have cx7 := HX.out _ (hBw6.trans (hB7.mono hBw6.size)); have HN7 := Lib.hid (HR6.out _ hB7))
                  | (refine step_append_any _ (by rfl) _ _ 26 (by rfl) _ 9 i0 (.string ByteArray.empty) 1 16 Try.underlying26 hii iz0 iz1 iz2 (by rfl) (by decide) _ (D.length + 1) _ (by rfl) hown7 va _ vc (strs (D.drop D.length)) (by rfl) (by simp [strs]) (fun h => by have := HN7.out.1 h; have e := List.length_drop (i := D.length) (l := D); omega) HN7.out.2 strsU_one (by unfold maxLen; omega) (by omega) hgrow7.size ?_; intro v8 w8 hown8 hgrow8; have hB8 := bel_step9 hB7 (by simp) hown7 hgrow8; have cx8 := HX.out _ (hBw6.trans (hB8.mono hBw6.size))))
              go_wp2_with fail
              go_roundw
              case rel => exact ⟨k + 1, by omega, by go_num, by rw [HN.out, HE.out]; exact own_insS hown8 (Nat.le_trans hBw6.size (by simp)), hBw6.trans (hB8.mono hBw6.size)⟩
              case measure => simp [intOf]; omega
          · rcases Nat.eq_zero_or_pos D.length with hz | hz
            · obtain rfl : D = [] := List.eq_nil_of_length_eq_zero hz
              go_upto_region 10 with (first
                | (refine wpList_build_none9 _ rfl rfl ?_)
                | (at_builtin; refine wpList_append_any _ rfl _ _ 26 rfl wr.heap.size 9 i0 (.string ByteArray.empty) 1 16 Try.underlying26 hii iz0 iz1 iz2 rfl (by decide) _ 0 _ rfl (own_none9 _ _) _ _ _ (strs (([] : List ByteArray).drop 0)) rfl (by simp [strs]) (fun _ => by first | rfl | omega) (fun ad ha j u hu => by simp [strs] at hu) strsU_one (by unfold maxLen; omega) (by omega) (by simp) ?_; intro v6 w6 hown6 hgrow6; have hO6 := own_normS hown6; have hB6 := none9_bel hgrow6; clear hown6 hgrow6; obtain ⟨va, vn, vc, rfl⟩ := own_slice hO6; obtain rfl : vn = (([] : List ByteArray).drop 0).length := own_lenD hO6))
              have hBw6 := hB1.trans (hB6.mono hB1.size)
              have HT := Lib.hid ((show w6.drew.ownsRow w.heap.size 9 1 (.slice ua ([] : List ByteArray).length uc) ([] : List ByteArray).length (strs ([] : List ByteArray)) from ownsRow_belowF hO (Below.drew hB6)).alloc (.cells #[.string x] 9))
              have HR6 := Lib.hid (fun w' (hb : Below w6.heap.size w6 w') => ((RowU.of_own hO6).below hb).news)
              have cx : w6.drew.cell? ⟨g0, o0 + k, none⟩ = some (.string x) := HX.out _ (Below.drew hBw6)
              have hba : Below w6.heap.size w6 (w6.drew.alloc (.cells #[.string x] 9)) := (Below.drew (Below.refl _ _)).alloc (Nat.le_refl _) _
              have ca := HX.out _ (hBw6.trans (hba.mono hBw6.size))
              have hrl : (([] : List ByteArray).drop 0).length ≤ 1000 := by rw [List.length_drop]; omega
              clear hO6
              go_region_held3 (fun w' => w'.cell? ⟨g0, o0 + k, none⟩ = some (.string x))
                (assumption)
                (first
                  | (refine step_append_grows (by rfl) _ _ 26 (by rfl) 9 i0 (.string ByteArray.empty) 1 16 Try.underlying26 hii iz0 iz1 iz2 (by rfl) (by decide) _ 0 0 (strs (([] : List ByteArray).take 0)) (by rfl) (fun _ => ⟨rfl, rfl⟩) (by simp [strs] <;> omega) (fun b hb j u hu => by simp [strs] at hu) _ 1 1 [.string x] (by rfl) (by rfl) (World.news_of_block (World.alloc_heap_new _ _)) (by intro u hu; simp at hu; subst hu; rfl) (Nat.lt_succ_self _) (by unfold maxLen; omega) (by omega) ?_; intro v7 w7 hown7 hgrow7; have hB7 := hba.grown hgrow7 hba.size (fun g hg => by cases hg); have cx7 := HX.out _ (hBw6.trans (hB7.mono hBw6.size)); have HN7 := Lib.hid (HR6.out _ hB7))
                  | (refine step_append_any _ (by rfl) _ _ 26 (by rfl) _ 9 i0 (.string ByteArray.empty) 1 16 Try.underlying26 hii iz0 iz1 iz2 (by rfl) (by decide) _ (0 + 1) _ (by rfl) hown7 va _ vc (strs (([] : List ByteArray).drop 0)) (by rfl) (by simp [strs]) (fun h => by have := HN7.out.1 h; have e := List.length_drop (i := 0) (l := ([] : List ByteArray)); omega) HN7.out.2 strsU_one (by unfold maxLen; omega) (by omega) hgrow7.size ?_; intro v8 w8 hown8 hgrow8; have hB8 := bel_step9 hB7 (by simp) hown7 hgrow8; have cx8 := HX.out _ (hBw6.trans (hB8.mono hBw6.size))))
              go_wp2_with fail
              go_roundw
              case rel => exact ⟨k + 1, by omega, by go_num, by rw [HN.out, HE.out]; exact own_insS hown8 (Nat.le_trans hBw6.size (by simp)), hBw6.trans (hB8.mono hBw6.size)⟩
              case measure => simp [intOf]; omega
            · have hz : ¬ D.length = 0 := by omega
              obtain ⟨g, cap, hg⟩ := own_someU hO (by omega)
              injection hg with q1 _ q3
              subst q1
              subst q3
              go_upto_region 10 with (first
                | (refine wpList_build_none9 _ rfl rfl ?_)
                | (at_builtin; refine wpList_append_any _ rfl _ _ 26 rfl wr.heap.size 9 i0 (.string ByteArray.empty) 1 16 Try.underlying26 hii iz0 iz1 iz2 rfl (by decide) _ 0 _ rfl (own_none9 _ _) _ _ _ (strs (D.drop D.length)) rfl (by simp [strs]) (fun _ => by first | rfl | omega) (fun ad ha j u hu => by simp [strs] at hu) strsU_one (by unfold maxLen; omega) (by omega) (by simp) ?_; intro v6 w6 hown6 hgrow6; have hO6 := own_normS hown6; have hB6 := none9_bel hgrow6; clear hown6 hgrow6; obtain ⟨va, vn, vc, rfl⟩ := own_slice hO6; obtain rfl : vn = (D.drop D.length).length := own_lenD hO6))
              have hBw6 := hB1.trans (hB6.mono hB1.size)
              have HT := Lib.hid ((show w6.drew.ownsRow w.heap.size 9 1 (.slice (some ⟨g, 0, none⟩) D.length uc) D.length (strs D) from ownsRow_belowF hO (Below.drew hB6)).alloc (.cells #[.string x] 9))
              have HR6 := Lib.hid (fun w' (hb : Below w6.heap.size w6 w') => ((RowU.of_own hO6).below hb).news)
              have cx : w6.drew.cell? ⟨g0, o0 + k, none⟩ = some (.string x) := HX.out _ (Below.drew hBw6)
              have hba : Below w6.heap.size w6 (w6.drew.alloc (.cells #[.string x] 9)) := (Below.drew (Below.refl _ _)).alloc (Nat.le_refl _) _
              have ca := HX.out _ (hBw6.trans (hba.mono hBw6.size))
              have hrl : (D.drop D.length).length ≤ 1000 := by rw [List.length_drop]; omega
              clear hO6
              go_region_held3 (fun w' => w'.cell? ⟨g0, o0 + k, none⟩ = some (.string x))
                (assumption)
                (first
                  | (refine step_append_grows (by rfl) _ _ 26 (by rfl) 9 i0 (.string ByteArray.empty) 1 16 Try.underlying26 hii iz0 iz1 iz2 (by rfl) (by decide) _ D.length D.length (strs (D.take D.length)) (by rfl) (fun h => by cases h) (by simp [strs] <;> omega) (fun b hb j u hu => by cases hb; simp only [Addr.add_lit, Nat.zero_add]; exact own_takeS HT.out D.length j u hu) _ 1 1 [.string x] (by rfl) (by rfl) (World.news_of_block (World.alloc_heap_new _ _)) (by intro u hu; simp at hu; subst hu; rfl) (Nat.lt_succ_self _) (by unfold maxLen; omega) (by omega) ?_; intro v7 w7 hown7 hgrow7; have hB7 := hba.grown hgrow7 hba.size (fun g hg => by cases hg); have cx7 := HX.out _ (hBw6.trans (hB7.mono hBw6.size)); have HN7 := Lib.hid (HR6.out _ hB7))
                  | (refine step_append_any _ (by rfl) _ _ 26 (by rfl) _ 9 i0 (.string ByteArray.empty) 1 16 Try.underlying26 hii iz0 iz1 iz2 (by rfl) (by decide) _ (D.length + 1) _ (by rfl) hown7 va _ vc (strs (D.drop D.length)) (by rfl) (by simp [strs]) (fun h => by have := HN7.out.1 h; have e := List.length_drop (i := D.length) (l := D); omega) HN7.out.2 strsU_one (by unfold maxLen; omega) (by omega) hgrow7.size ?_; intro v8 w8 hown8 hgrow8; have hB8 := bel_step9 hB7 (by simp) hown7 hgrow8; have cx8 := HX.out _ (hBw6.trans (hB8.mono hBw6.size))))
              go_wp2_with fail
              go_roundw
              case rel => exact ⟨k + 1, by omega, by go_num, by rw [HN.out, HE.out]; exact own_insS hown8 (Nat.le_trans hBw6.size (by simp)), hBw6.trans (hB8.mono hBw6.size)⟩
              case measure => simp [intOf]; omega
    · obtain rfl : k = l.length := by omega
      have hki : ¬ (l.length : Int) < (l.length : Int) := by omega
      rw [List.take_of_length_le (Nat.le_refl _)] at hO
      go_wp2_with fail
      go_ret
      exact ⟨_, rfl, hO, hB⟩
end Go.Proofs.Ytgdcdijdpflmdaa
