/-
  The document's own answers for keywords: Same; rows cut.
-/
import Derived.Test.YtgdcdijdpflmdaaURead
import Derived.Test.YtgdcdijdpflmdaaFSame
import Derived.Deep.RegionHeld3
namespace Go.Proofs.Ytgdcdijdpflmdaa
open Go Go.RowKit

set_option maxRecDepth 100000 in
set_option maxHeartbeats 2000000 in
theorem sameU_rows (v1 v2 : Value) (l1 l2 : List ByteArray) (w : World) (h1 : RowU w v1 l1) (h2 : RowU w v2 l2) (hb : l1.length ≤ 1048576) :
    Calls Try.prog 20 #[v1, v2] w fun e w' => e = .returned (.bool (decide (l1 = l2))) ∧ Below w.heap.size w w' := by
  obtain ⟨a1, c1, rfl, H1⟩ := h1
  obtain ⟨a2, c2, rfl, H2⟩ := h2
  have H1 := Lib.hid H1
  have H2 := Lib.hid H2
  by_cases hn : l1.length = l2.length
  · have HN := Lib.hid hn
    have hni : ((l1.length : Int) != (l2.length : Int)) = false := by rw [hn]; simp
    go_enter Try.func20, Try.ntmps20
    go_wp2
    go_loopw [5] (fun i wr => ∃ k : Nat, k ≤ l1.length ∧ i = .int .i64 k ∧ Hid (l1.take k = l2.take k) ∧ Below w.heap.size w wr) (fun i _ => l1.length - (intOf i).toNat)
    case atStart => exact ⟨0, Nat.zero_le _, rfl, Lib.hid (by simp), Below.refl _ _⟩
    case round =>
      obtain ⟨k, hk, rfl, HT, hB⟩ := hrel
      by_cases hlt : k < l1.length
      · obtain ⟨p, hp⟩ : ∃ p, l1[k]? = some p := ⟨_, List.getElem?_eq_getElem hlt⟩
        obtain ⟨q, hq⟩ : ∃ q, l2[k]? = some q := ⟨_, List.getElem?_eq_getElem (by omega)⟩
        obtain ⟨g1, o1, rfl, e1'⟩ := H1.out k p hp
        obtain ⟨g2, o2, rfl, e2'⟩ := H2.out k q hq
        have e1 := (hB.cell (p := ⟨g1, o1 + k, none⟩) (lt_of_cellF e1')).trans e1'
        have e2 := (hB.cell (p := ⟨g2, o2 + k, none⟩) (lt_of_cellF e2')).trans e2'
        have hki : (k : Int) < (l1.length : Int) := by omega
        have hki2 : (k : Int) < (l2.length : Int) := by omega
        have hk0 : (0 : Int) ≤ (k : Int) := by omega
        by_cases hpq : p = q
        · subst hpq
          have HS := Lib.hid (take_eq_next HT.out hp hq)
          clear hp hq e1' e2'
          go_wp2
          go_quiet (fail)
          go_wp2
          go_roundw
          case rel => exact ⟨k + 1, by omega, by go_num, HS, below_drewN hB _⟩
          case measure => simp [intOf]; omega
        · have HD := Lib.hid (show decide (l1 = l2) = false from decide_eq_false (fun e => hpq (by rw [e, hq] at hp; exact (Option.some.inj hp).symm)))
          have hpt := toList_ne hpq
          clear hp hq e1' e2'
          go_wp2
          go_quiet (fail)
          go_wp2
          go_ret
          exact ⟨ret_bool HD.out.symm, below_drewN hB _⟩
      · obtain rfl : k = l1.length := by omega
        have HD := Lib.hid (show decide (l1 = l2) = true from decide_eq_true (by
          have h := HT.out
          rwa [List.take_of_length_le (Nat.le_refl _), List.take_of_length_le (by omega)] at h))
        go_wp2
        go_ret
        exact ⟨ret_bool HD.out.symm, hB⟩
  · have hni : ((l1.length : Int) != (l2.length : Int)) = true := by rw [bne_iff_ne]; omega
    have HD := Lib.hid (show decide (l1 = l2) = false from decide_eq_false (fun e => hn (by rw [e])))
    clear hn
    go_enter Try.func20, Try.ntmps20
    go_wp2
    go_ret
    exact ⟨ret_bool HD.out.symm, Below.refl _ _⟩

set_option maxRecDepth 100000 in
set_option maxHeartbeats 2000000 in
theorem sameExts_own (v1 v2 : Value) (L1 L2 : KX) (w : World) (h1 : ExtU w v1 L1) (h2 : ExtU w v2 L2) (hb : L1.length ≤ 1000) (hs : ∀ x ∈ L1, x.2.length ≤ 1000) :
    Calls Try.prog 54 #[v1, v2] w fun e w' => e = .returned (.bool (decide (L1 = L2))) ∧ Below w.heap.size w w' := by
  obtain ⟨a1, c1, rfl, H1⟩ := h1
  obtain ⟨a2, c2, rfl, H2⟩ := h2
  have H1 := Lib.hid H1
  have H2 := Lib.hid H2
  have HS := Lib.hid hs
  clear hs
  by_cases hn : L1.length = L2.length
  · have HN := Lib.hid hn
    have hni : ((L1.length : Int) != (L2.length : Int)) = false := by rw [hn]; simp
    clear hn
    go_enter Try.func54, Try.ntmps54
    go_wp2
    go_loopw [5] (fun i wr => ∃ k : Nat, k ≤ L1.length ∧ i = .int .i64 k ∧ Hid (L1.take k = L2.take k) ∧ Below w.heap.size w wr) (fun i _ => L1.length - (intOf i).toNat)
    case atStart => exact ⟨0, Nat.zero_le _, rfl, Lib.hid (by simp), Below.refl _ _⟩
    case round =>
      obtain ⟨k, hk, rfl, HT, hB⟩ := hrel
      by_cases hlt : k < L1.length
      · obtain ⟨x, hx⟩ : ∃ p, L1[k]? = some p := ⟨_, List.getElem?_eq_getElem hlt⟩
        obtain ⟨y, hy⟩ : ∃ q, L2[k]? = some q := ⟨_, List.getElem?_eq_getElem (by have := HN.out; omega)⟩
        obtain ⟨g1, o1, u1, rfl, e1, e2, r1⟩ := H1.out k x hx
        obtain ⟨g2, o2, u2, rfl, f1, f2, r2⟩ := H2.out k y hy
        have HC := Lib.hid (fun w5 (hb : Below w.heap.size w w5) => show (w5.cell? ⟨g1, o1 + k * 2, none⟩ = some (.string x.1) ∧ w5.cell? ⟨g1, o1 + k * 2 + 1, none⟩ = some u1) ∧ (w5.cell? ⟨g2, o2 + k * 2, none⟩ = some (.string y.1) ∧ w5.cell? ⟨g2, o2 + k * 2 + 1, none⟩ = some u2) from
          ⟨⟨(hb.cell (p := ⟨g1, o1 + k * 2, none⟩) (lt_of_cellF e1)).trans e1, (hb.cell (p := ⟨g1, o1 + k * 2 + 1, none⟩) (lt_of_cellF e2)).trans e2⟩, (hb.cell (p := ⟨g2, o2 + k * 2, none⟩) (lt_of_cellF f1)).trans f1, (hb.cell (p := ⟨g2, o2 + k * 2 + 1, none⟩) (lt_of_cellF f2)).trans f2⟩)
        have hki : (k : Int) < (L1.length : Int) := by omega
        have hki2 : (k : Int) < (L2.length : Int) := by have := HN.out; omega
        have hk0 : (0 : Int) ≤ (k : Int) := by omega
        have SR := Lib.hid (fun w5 (hb : Below w.heap.size w w5) => sameU_rows u1 u2 x.2 y.2 w5 (r1.below hb) (r2.below hb) (by have := HS.out x (List.mem_of_getElem? hx); omega))
        obtain ⟨ua, uc, rfl, -⟩ := r1
        obtain ⟨ya, yc, rfl, -⟩ := r2
        have hBd : Below w.heap.size w wr.drew := hB.drew
        obtain ⟨⟨q1, q2⟩, q3, q4⟩ := HC.out _ hBd
        have HX := Lib.hid hx
        have HY := Lib.hid hy
        have HNX := Lib.hid (fun (h : x = y) => take_eq_next HT.out hx (h ▸ hy))
        have HND := Lib.hid (fun (h : x ≠ y) => show decide (L1 = L2) = false from decide_eq_false (fun e => h (by have h2 := HX.out; rw [e] at h2; exact Option.some.inj (h2.symm.trans HY.out))))
        have HXY := Lib.hid (show x = y ↔ x.2 = y.2 ∧ x.1 = y.1 by rw [Prod.ext_iff]; exact And.comm)
        clear hx hy e1 e2 f1 f2
        go_upto_region 6 with fail
        have hbd2 : decide (x.2 = y.2) = true ∨ decide (x.2 = y.2) = false := by cases decide (x.2 = y.2) <;> simp
        have HDX := Lib.hid (show decide (x.2 = y.2) = false → x ≠ y from fun h e => by rw [e] at h; simp at h)
        have HDT := Lib.hid (show decide (x.2 = y.2) = true → x.2 = y.2 from fun h => of_decide_eq_true h)
        have SW := Lib.hid (SR.out _ hBd)
        generalize decide (x.2 = y.2) = bs at *
        go_region_held3 (fun w' => w'.cell? ⟨g1, o1 + k * 2 + 1, none⟩ = some (.slice ua x.2.length uc) ∧ w'.cell? ⟨g2, o2 + k * 2 + 1, none⟩ = some (.slice ya y.2.length yc))
          (exact ⟨by assumption, by assumption⟩)
          (first
            | (go_at_call 20; (with_reducible refine SW.out.mono ?_); rintro e w6 ⟨rfl, hb6⟩; have hB6 := hBd.trans (hb6.mono hBd.size); obtain ⟨⟨q1, q2⟩, q3, q4⟩ := HC.out _ hB6))
        clear hBd SW SR
        cases bs with
        | false =>
          have HD := Lib.hid (HND.out (fun e => HDX.out rfl e))
          go_wp2_with fail
          go_quiet (fail)
          go_wp2
          go_ret
          exact ⟨ret_bool HD.out.symm, below_drewN hB6 _⟩
        | true =>
          by_cases hkk : x.1 = y.1
          · have HE := Lib.hid (HNX.out (HXY.out.2 ⟨HDT.out rfl, hkk⟩))
            rw [← hkk] at q3
            have hte : (x.1.toList != x.1.toList) = false := by simp
            go_wp2_with fail
            go_quiet (fail)
            go_wp2
            go_roundw
            case rel => exact ⟨k + 1, by omega, by go_num, HE, below_drewN hB6 _⟩
            case measure => simp [intOf]; omega
          · have HD := Lib.hid (HND.out (fun e => hkk (by rw [e])))
            have hpt := toList_ne hkk
            go_wp2_with fail
            go_quiet (fail)
            go_wp2
            go_ret
            exact ⟨ret_bool HD.out.symm, below_drewN hB6 _⟩
      · obtain rfl : k = L1.length := by omega
        have HD := Lib.hid (show decide (L1 = L2) = true from decide_eq_true (by
          have h := HT.out
          rwa [List.take_of_length_le (Nat.le_refl _), List.take_of_length_le (by have := HN.out; omega)] at h))
        go_wp2
        go_ret
        exact ⟨ret_bool HD.out.symm, hB⟩
  · have hni : ((L1.length : Int) != (L2.length : Int)) = true := by rw [bne_iff_ne]; omega
    have HD := Lib.hid (show decide (L1 = L2) = false from decide_eq_false (fun e => hn (by rw [e])))
    clear hn
    go_enter Try.func54, Try.ntmps54
    go_wp2
    go_ret
    exact ⟨ret_bool HD.out.symm, Below.refl _ _⟩
set_option maxRecDepth 100000 in
set_option maxHeartbeats 2000000 in
theorem sameK_own (v1 v2 : Value) (k1 k2 : List ByteArray × KX) (w : World) (h1 : KeyU w v1 k1) (h2 : KeyU w v2 k2) (hA : k1.1.length ≤ 1000) (hb : k1.2.length ≤ 1000) (hs : ∀ x ∈ k1.2, x.2.length ≤ 1000) :
    Calls Try.prog 17 #[v1, v2] w fun e w' => e = .returned (.bool (decide (k1 = k2))) ∧ Below w.heap.size w w' := by
  obtain ⟨a1, b1, rfl, r1, s1⟩ := h1
  obtain ⟨a2, b2, rfl, r2, s2⟩ := h2
  obtain ⟨W0, hW0⟩ : ∃ W0, (w.alloc (.cells #[a1, b1] 41)).alloc (.cells #[a2, b2] 41) = W0 := ⟨_, rfl⟩
  have hb0 : Below w.heap.size w W0 := by rw [← hW0]; exact ((Below.refl _ w).alloc (Nat.le_refl _) _).alloc (by simp) _
  have hz0 : W0.heap.size = w.heap.size + 2 := by rw [← hW0]; simp
  have hA0 : W0.heap[w.heap.size]? = some (.cells #[a1, b1] 41 (0, 0)) := by rw [← hW0]; exact (Below.heap_alloc _ _ _ (by simp)).trans (World.alloc_heap_new w _)
  have hR0 : W0.heap[w.heap.size + 1]? = some (.cells #[a2, b2] 41 (0, 0)) := by rw [← hW0]; exact heap_alloc2_new w _ _
  have S1 := Lib.hid (sameU_rows a1 a2 k1.1 k2.1 W0 (r1.below hb0) (r2.below hb0) (by omega))
  have S2 := Lib.hid (fun w5 (hb' : Below W0.heap.size W0 w5) => sameExts_own b1 b2 k1.2 k2.2 w5 ((s1.below hb0).below hb') ((s2.below hb0).below hb') hb hs)
  have d0 := cell_row2 0 hA0 rfl
  have e0 := cell_row2 0 hR0 rfl
  have HA0 := Lib.hid hA0
  have HR0 := Lib.hid hR0
  have HB0 := Lib.hid hb0
  have HKK := Lib.hid (show decide (k1 = k2) = (decide (k1.1 = k2.1) && decide (k1.2 = k2.2)) by rw [← Bool.decide_and]; exact decide_eq_decide.2 Prod.ext_iff)
  obtain ⟨p1, n1, rfl, -⟩ := r1
  obtain ⟨p2, n2, rfl, -⟩ := r2
  obtain ⟨p3, n3, rfl, -⟩ := s1
  obtain ⟨p4, n4, rfl, -⟩ := s2
  clear hb0 hA0 hR0 hz0 hs
  generalize decide (k1.1 = k2.1) = x1 at *
  generalize decide (k1.2 = k2.2) = x2 at *
  generalize decide (k1 = k2) = x3 at *
  go_enter Try.func17, Try.ntmps17
  go_upto_region 2 with (go_at_call 20; (with_reducible refine S1.out.mono ?_); rintro e w1 ⟨rfl, hb1⟩; have d1 := cell_row2 1 ((hb1.block _ (lt_of_heap HA0.out)).trans HA0.out) rfl; have e1 := cell_row2 1 ((hb1.block _ (lt_of_heap HR0.out)).trans HR0.out) rfl; have S2' := Lib.hid (S2.out _ hb1))
  clear hW0
  go_upto_region 3 with (go_at_call 54; (with_reducible refine S2'.out.mono ?_); rintro e w2 ⟨rfl, hb2⟩)
  have hB := HB0.out.trans ((hb1.trans (hb2.mono hb1.size)).mono HB0.out.size)
  have HB := Lib.hid hB
  clear hb1 hb2 hB d0 e0 d1 e1
  cases x1 with
  | true =>
    go_wp2_with fail
    go_ret
    exact ⟨by rw [HKK.out]; rfl, HB.out⟩
  | false =>
    go_wp2_with fail
    go_ret
    exact ⟨by rw [HKK.out]; rfl, HB.out⟩
theorem sameK_refl (v1 v2 : Value) (k : List ByteArray × KX) (w : World) (h1 : KeyU w v1 k) (h2 : KeyU w v2 k) (hA : k.1.length ≤ 1000) (hb : k.2.length ≤ 1000) (hs : ∀ x ∈ k.2, x.2.length ≤ 1000) :
    Calls Try.prog 17 #[v1, v2] w fun e w' => e = .returned (.bool true) ∧ Below w.heap.size w w' :=
  (sameK_own v1 v2 k k w h1 h2 hA hb hs).mono fun _ _ ⟨he, hb⟩ => ⟨by rw [he]; simp, hb⟩
end Go.Proofs.Ytgdcdijdpflmdaa
