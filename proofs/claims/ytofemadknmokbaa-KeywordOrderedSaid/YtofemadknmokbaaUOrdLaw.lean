/-
  KeywordOrdered: the walk over the law.
-/
import Derived.Test.YtofemadknmokbaaUBackLaw
namespace Go.Proofs.Ytofemadknmokbaa
open Go Go.RowKit

theorem RowU.addr {W : World} {ao : Option Addr} {l : List ByteArray} {n c : Nat} (h : RowU W (.slice ao n c) l) {k : Nat} {x : ByteArray} (hx : l[k]? = some x) : ∃ g o, ao = some ⟨g, o, none⟩ ∧ ∀ j y, l[j]? = some y → W.cell? ⟨g, o + j, none⟩ = some (.string y) := by
  obtain ⟨a', c', he, hc⟩ := h
  injection he with q1 _ _
  subst q1
  obtain ⟨g, o, ha, _⟩ := hc k x hx
  refine ⟨g, o, ha, fun j y hy => ?_⟩
  obtain ⟨g', o', ha', hc'⟩ := hc j y hy
  rw [ha] at ha'
  cases ha'
  exact hc'
theorem RowU.len {W : World} {ao : Option Addr} {l : List ByteArray} {n c : Nat} (h : RowU W (.slice ao n c) l) : n = l.length := by
  obtain ⟨_, _, he, _⟩ := h
  injection he
theorem ExtU.len {W : World} {ao : Option Addr} {l : KX} {n c : Nat} (h : ExtU W (.slice ao n c) l) : n = l.length := by
  obtain ⟨_, _, he, _⟩ := h
  injection he
theorem ExtU.addr {W : World} {ao : Option Addr} {l : KX} {n c : Nat} (h : ExtU W (.slice ao n c) l) {k : Nat} {x : ByteArray × List ByteArray} (hx : l[k]? = some x) : ∃ g o, ao = some ⟨g, o, none⟩ ∧ ∀ (j : Nat) y, l[j]? = some y → W.cell? ⟨g, o + j * 2, none⟩ = some (.string y.1) ∧ ∃ a c, W.cell? ⟨g, o + j * 2 + 1, none⟩ = some (.slice a y.2.length c) ∧ RowU W (.slice a y.2.length c) y.2 := by
  obtain ⟨a', c', he, hc⟩ := h
  injection he with q1 _ _
  subst q1
  obtain ⟨g, o, _, ha, _⟩ := hc k x hx
  refine ⟨g, o, ha, fun j y hy => ?_⟩
  obtain ⟨g', o', u, ha', c1, c2, a, c, rfl, h4⟩ := hc j y hy
  rw [ha] at ha'
  cases ha'
  exact ⟨c1, a, c, c2, a, c, rfl, h4⟩
theorem rising_next {α : Type} {f : α → ByteArray} {l : List α} (h : Rising f l) {k : Nat} {x y : α} (hx : l[k]? = some x) (hy : l[k + 1]? = some y) : ltS (f x) (f y) = true := by
  obtain ⟨hk, rfl⟩ := List.getElem?_eq_some_iff.1 hx
  obtain ⟨hk1, rfl⟩ := List.getElem?_eq_some_iff.1 hy
  exact (List.pairwise_iff_getElem.1 h) k (k + 1) hk hk1 (Nat.lt_succ_self k)
theorem bl_of {a b : ByteArray} (h : ltS a b = true) : Op.bytesLess a.toList b.toList = true := by
  rw [Go.Proofs.bytesLess_eq, Go.Lib.toList_data, Go.Lib.toList_data]
  exact h
theorem any_next {α : Type} {l : List α} {k : Nat} {x : α} (f : α → Bool) (h : l[k]? = some x) : (l.take (k + 1)).any f = ((l.take k).any f || f x) := by
  rw [take_next h, List.any_append]
  simp
theorem told_ne (l : List ByteArray) : toldL l ≠ [tru] := by
  unfold toldL
  split
  · simp
  · assumption
/-- What the law asks of what is ordered. -/
structure OrdF (x o : List ByteArray × KX) : Prop where
  a : ∀ (k : Nat) p q, o.1[k]? = some p → o.1[k + 1]? = some q → ltS p q = true
  b : ∀ p ∈ o.1, p ∈ x.1
  c : ∀ (k : Nat) p q, o.2[k]? = some p → o.2[k + 1]? = some q → ltS p.1 q.1 = true
  d : ∀ p ∈ o.2, p.2 ≠ [tru]
  e : ∀ p ∈ x.2, ∃ q ∈ o.2, q.1 = p.1
  la : o.1.length ≤ x.1.length
  lk : o.2.length ≤ x.2.length
theorem ordF (x : List ByteArray × KX) : OrdF x (orderK x) where
  a _ _ _ hp hq := rising_next (riseBy_rising id x.1) hp hq
  b _ h := rise_sub id h
  c _ p q hp hq := rising_next (f := fun (y : ByteArray × List ByteArray) => y.1) (rising_told (riseBy_rising _ x.2)) hp hq
  d p h := by
    obtain ⟨y, _, rfl⟩ := List.mem_map.1 h
    exact told_ne _
  e p h := by
    obtain ⟨q, hq, e⟩ := rise_has (fun (y : ByteArray × List ByteArray) => y.1) h
    exact ⟨toldX q, List.mem_map_of_mem hq, e⟩
  la := rise_len id x.1
  lk := by
    have := rise_len (fun (y : ByteArray × List ByteArray) => y.1) x.2
    simp only [orderK, List.length_map]
    exact this
set_option maxRecDepth 100000 in
set_option maxHeartbeats 8000000 in
theorem ordered_law (va vk : Value) (A : List ByteArray) (K : KX) (w : World) (hA : RowA w va A) (hK : ExtA w vk K) :
    Calls Try.prog 6 #[.agg #[va, vk]] w fun e w' => e = .returned (.bool true) ∧ Below w.heap.size w w' := by
  obtain ⟨W0, hW0⟩ : ∃ W0, w.alloc (.cells #[va, vk] 41) = W0 := ⟨_, rfl⟩
  have hb0 : Below w.heap.size w W0 := by rw [← hW0]; exact (Below.refl _ w).alloc (Nat.le_refl _) _
  have hh0 : W0.heap[w.heap.size]? = some (.cells #[va, vk] 41 (0, 0)) := by rw [← hW0]; exact World.alloc_heap_new w _
  have AW := Lib.hid (awake9_own W0)
  have FW := Lib.hid (fun w5 (hb : Below W0.heap.size W0 w5) => few_kw va vk A K w5 (hA.below (hb0.trans (hb.mono hb0.size))) (hK.below (hb0.trans (hb.mono hb0.size))))
  have HB0 := Lib.hid hb0
  have HH0 := Lib.hid hh0
  have HT := Lib.hid (tiny_few (A, K))
  obtain ⟨a0, n0, rfl, -, -⟩ := hA
  obtain ⟨k0, m0, rfl, -, -⟩ := hK
  generalize fewK (A, K) = x at *
  obtain ⟨o, hoo⟩ : ∃ o, orderK x = o := ⟨_, rfl⟩
  have HEO := Lib.hid hoo
  have HTO := Lib.hid (show Tiny o 5 by rw [← hoo]; exact tiny_order HT.out)
  have HF := Lib.hid (show OrdF x o by rw [← hoo]; exact ordF x)
  have HOO := Lib.hid (show orderK o = o by rw [← hoo]; exact order_order x)
  clear hoo
  have T10 := Lib.hid (fun (k : List ByteArray × KX) (h : Tiny k 5) => (⟨Nat.le_trans h.la (by decide), Nat.le_trans h.lk (by decide), h.sa, fun y hy => ⟨(h.sx y hy).1, Nat.le_trans (h.sx y hy).2 (by decide)⟩⟩ : Tiny k 10))
  clear hb0 hh0
  go_enter Try.func6, Try.ntmps6
  go_upto_region 2 with (go_at_call 18; (with_reducible refine AW.out.mono ?_); rintro e w1 ⟨rfl, hb1⟩; obtain ⟨q0, q1⟩ := key_cells ((hb1.block _ (lt_of_heap HH0.out)).trans HH0.out); have F1 := Lib.hid (FW.out w1 hb1))
  clear hW0
  go_upto_region 3 with (go_at_call 20; (with_reducible refine F1.out.mono ?_); rintro e w2 ⟨u2, rfl, hk2, hb2⟩; obtain ⟨xa, xn, xc, ya, yn, yc, rfl⟩ := key_agg hk2)
  obtain ⟨W3, hW3⟩ : ∃ W3, w2.alloc (.cells #[.slice xa xn xc, .slice ya yn yc] 41) = W3 := ⟨_, rfl⟩
  have hb3 : Below w2.heap.size w2 W3 := by rw [← hW3]; exact (Below.refl _ w2).alloc (Nat.le_refl _) _
  have hX3 : W3.heap[w2.heap.size]? = some (.cells #[.slice xa xn xc, .slice ya yn yc] 41 (0, 0)) := by rw [← hW3]; exact World.alloc_heap_new w2 _
  have HB3 := Lib.hid (HB0.out.trans ((hb1.trans ((hb2.trans (hb3.mono hb2.size)).mono hb1.size)).mono HB0.out.size))
  have HX3 := Lib.hid hX3
  have Hk3 := Lib.hid (hk2.below hb3)
  obtain ⟨q2, q3⟩ := key_cells hX3
  have O3 := order_any _ x W3 Hk3.out (T10.out x HT.out)
  rw [HEO.out] at O3
  have O3 := Lib.hid O3
  rw [hW3]
  clear hW3 hb3 hb2 hb1 hX3 hk2 F1 FW AW q0 q1
  go_upto_region 4 with (go_at_call 27; (with_reducible refine O3.out.mono ?_); rintro e w4 ⟨oa, ok, rfl, -, hk4, hb4⟩; obtain ⟨pa, pn, pc, ka, kn, kc, he4⟩ := key_agg hk4; injection he4 with he4; injection he4 with he4; injection he4 with he5 he4; injection he4 with he6; subst he5 he6)
  obtain ⟨W5, hW5⟩ : ∃ W5, w4.alloc (.cells #[.slice pa pn pc, .slice ka kn kc] 41) = W5 := ⟨_, rfl⟩
  have hb5 : Below w4.heap.size w4 W5 := by rw [← hW5]; exact (Below.refl _ w4).alloc (Nat.le_refl _) _
  have hO5 : W5.heap[w4.heap.size]? = some (.cells #[.slice pa pn pc, .slice ka kn kc] 41 (0, 0)) := by rw [← hW5]; exact World.alloc_heap_new w4 _
  have h35 : Below W3.heap.size W3 W5 := hb4.trans (hb5.mono hb4.size)
  have HB5 := Lib.hid (HB3.out.trans (h35.mono HB3.out.size))
  have HX5 := Lib.hid ((h35.block _ (lt_of_heap HX3.out)).trans HX3.out)
  have HO5 := Lib.hid hO5
  have Hx5 := Lib.hid (Hk3.out.below h35)
  have Ho5 := Lib.hid (hk4.below hb5)
  have hbd : Below W5.heap.size W5 W5.drew := Below.drew (Below.refl _ _)
  have OD := order_any _ o W5.drew (Ho5.out.below hbd) (T10.out o HTO.out)
  rw [HOO.out] at OD
  have OD := Lib.hid OD
  have HCO := Lib.hid (fun w' (hb : Below W5.heap.size W5 w') => key_cells ((hb.block _ (lt_of_heap HO5.out)).trans HO5.out))
  obtain ⟨s0, s1⟩ := HCO.out _ hbd
  rw [hW5]
  clear hW5 hb5 hO5 h35 hb4 hk4 q2 q3 O3 HX3 Hk3 HB3
  go_region_held3 (fun w' => w'.cell? ⟨w4.heap.size, 0, none⟩ = some (.slice pa pn pc) ∧ w'.cell? ⟨w4.heap.size, 1, none⟩ = some (.slice ka kn kc))
    (exact ⟨by assumption, by assumption⟩)
    (first
      | (go_at_call 27; (with_reducible refine OD.out.mono ?_); rintro e w6 ⟨ua, uk, rfl, -, hk6, hb6⟩; have hB6 := hbd.trans (hb6.mono hbd.size); obtain ⟨s0, s1⟩ := HCO.out _ hB6; have SM := Lib.hid (sameK_refl _ (.agg #[.slice pa pn pc, .slice ka kn kc]) o w6 hk6 (Ho5.out.below hB6) (Nat.le_trans HTO.out.la (by decide)) (Nat.le_trans HTO.out.lk (by decide)) (fun y hy => Nat.le_trans (HTO.out.sx y hy).2 (by decide))); obtain ⟨_, _, _, _, _, _, he6⟩ := key_agg hk6; injection he6 with he6; injection he6 with he6; injection he6 with he7 he6; injection he6 with he8; subst he7 he8)
      | (go_at_call 21; (with_reducible refine SM.out.mono ?_); rintro e w7 ⟨rfl, hb7⟩; have hB7 := hB6.trans (hb7.mono hB6.size); obtain ⟨s0, s1⟩ := HCO.out _ hB7))
  clear OD hbd
  have HXA := Lib.hid (show RowU w7 (.slice xa xn xc) x.1 by
    obtain ⟨p, q, he, hp, _⟩ := Hx5.out
    injection he with he; injection he with he; injection he with ha _
    rw [ha]; exact hp.below hB7)
  have HXK := Lib.hid (show ExtU w7 (.slice ya yn yc) x.2 by
    obtain ⟨p, q, he, _, hq⟩ := Hx5.out
    injection he with he; injection he with he; injection he with _ he; injection he with hb _
    rw [hb]; exact hq.below hB7)
  have HOA := Lib.hid (show RowU w7 (.slice pa pn pc) o.1 by
    obtain ⟨p, q, he, hp, _⟩ := Ho5.out
    injection he with he; injection he with he; injection he with ha _
    rw [ha]; exact hp.below hB7)
  have HOK := Lib.hid (show ExtU w7 (.slice ka kn kc) o.2 by
    obtain ⟨p, q, he, _, hq⟩ := Ho5.out
    injection he with he; injection he with he; injection he with _ he; injection he with hb _
    rw [hb]; exact hq.below hB7)
  obtain rfl := HXA.out.len
  obtain rfl := HXK.out.len
  obtain rfl := HOA.out.len
  obtain rfl := HOK.out.len
  have HC := Lib.hid (fun w' (hb : Below w7.heap.size w7 w') => show (w'.cell? ⟨w2.heap.size, 0, none⟩ = some (.slice xa x.1.length xc) ∧ w'.cell? ⟨w2.heap.size, 1, none⟩ = some (.slice ya x.2.length yc)) ∧ (w'.cell? ⟨w4.heap.size, 0, none⟩ = some (.slice pa o.1.length pc) ∧ w'.cell? ⟨w4.heap.size, 1, none⟩ = some (.slice ka o.2.length kc)) from
    ⟨key_cells (((hB7.trans (hb.mono hB7.size)).block _ (lt_of_heap HX5.out)).trans HX5.out), HCO.out _ (hB7.trans (hb.mono hB7.size))⟩)
  have HB7 := Lib.hid (HB5.out.trans (hB7.mono HB5.out.size))
  have hxl : x.1.length ≤ 5 := HT.out.la
  have hxk : x.2.length ≤ 5 := HT.out.lk
  have hol : o.1.length ≤ 5 := HTO.out.la
  have hok : o.2.length ≤ 5 := HTO.out.lk
  clear hB7 hB6 hb7 hb6 SM s0 s1 hk6 HX5 HO5 Hx5 Ho5 HCO HB5
  go_wp2_with fail
  -- attributes rise, and were there
  go_loopw [7] (fun i wr => ∃ k : Nat, k ≤ o.1.length ∧ i = .int .i64 (k : Int) ∧ Below w7.heap.size w7 wr) (fun i _ => o.1.length - (intOf i).toNat)
  case atStart => exact ⟨0, Nat.zero_le _, rfl, Below.refl _ _⟩
  case round =>
    obtain ⟨k, hk, rfl, hB⟩ := hrel
    obtain ⟨⟨c0, c1⟩, c2, c3⟩ := HC.out _ hB
    by_cases hlt : k < o.1.length
    · have hki : (k : Int) < (o.1.length : Int) := by omega
      have hk0 : (0 : Int) ≤ (k : Int) := by omega
      obtain ⟨p, hp⟩ : ∃ p, o.1[k]? = some p := ⟨_, List.getElem?_eq_getElem hlt⟩
      obtain ⟨g, of, rfl, hoc⟩ := HOA.out.addr hp
      have e1 := (hB.cell (p := ⟨g, of + k, none⟩) (lt_of_cellF (hoc k p hp))).trans (hoc k p hp)
      go_upto_region 8 with fail
      go_cut [45] from 30 to 45 (fun c wx => c = .bool false ∧ Below w7.heap.size w7 wx)
      case first =>
        rcases Nat.eq_zero_or_pos k with hz | hz
        · subst hz
          go_quiet (fail)
          go_wp2_with fail
          go_meet
          exact ⟨rfl, below_drewN hB _⟩
        · obtain ⟨j, rfl⟩ : ∃ j, k = j + 1 := ⟨k - 1, by omega⟩
          obtain ⟨p0, hp0⟩ : ∃ p, o.1[j]? = some p := ⟨_, List.getElem?_eq_getElem (by omega)⟩
          have e0 := (hB.cell (p := ⟨g, of + j, none⟩) (lt_of_cellF (hoc j p0 hp0))).trans (hoc j p0 hp0)
          have hlt2 := bl_of (HF.out.a j p0 p hp0 hp)
          have hj0 : (0 : Int) < (((j + 1 : Nat)) : Int) := by omega
          have hj1 : (j : Int) < (o.1.length : Int) := by omega
          have hj2 : (0 : Int) ≤ (j : Int) := by omega
          go_quiet (fail)
          go_wp2_with fail
          go_meet
          exact ⟨rfl, below_drewN hB _⟩
      case rest =>
        obtain ⟨rfl, hB8⟩ := hcut
        clear c0 c1 c2 c3 e1
        have hin := Lib.hid (show x.1.any (fun y => decide (y = p)) = true from List.any_eq_true.2 ⟨p, HF.out.b p (List.mem_of_getElem? hp), by simp⟩)
        have HPO := Lib.hid (hoc k p hp)
        clear hoc hp
        go_wp2_with fail
        go_loopw [8, 9] (fun t i wr => ∃ n : Nat, n ≤ x.1.length ∧ i = .int .i64 (n : Int) ∧ t = .bool ((x.1.take n).any fun y => decide (y = p)) ∧ Below w7.heap.size w7 wr) (fun _ i _ => x.1.length - (intOf i).toNat)
        case atStart => exact ⟨0, Nat.zero_le _, rfl, rfl, hB8⟩
        case round =>
          obtain ⟨n, hn, rfl, rfl, hBn⟩ := hrel
          obtain ⟨⟨c0, c1⟩, c2, c3⟩ := HC.out _ hBn
          by_cases hlt2 : n < x.1.length
          · have hni : (n : Int) < (x.1.length : Int) := by omega
            have hn0 : (0 : Int) ≤ (n : Int) := by omega
            obtain ⟨y, hy⟩ : ∃ y, x.1[n]? = some y := ⟨_, List.getElem?_eq_getElem hlt2⟩
            obtain ⟨g2, of2, rfl, hxc⟩ := HXA.out.addr hy
            have e1 := (hBn.cell (p := ⟨g2, of2 + n, none⟩) (lt_of_cellF (hxc n y hy))).trans (hxc n y hy)
            have e2 := (hBn.cell (p := ⟨g, of + k, none⟩) (lt_of_cellF HPO.out)).trans HPO.out
            have HNX := Lib.hid (any_next (fun y => decide (y = p)) hy)
            clear hxc hy
            generalize (x.1.take n).any (fun y => decide (y = p)) = b at *
            cases b with
            | true =>
              go_wp2_with fail
              go_quiet (fail)
              go_wp2_with fail
              go_roundw
              case rel => exact ⟨n + 1, by omega, by go_num, by rw [HNX.out]; rfl, below_drewN hBn _⟩
              case measure => simp [intOf]; omega
            | false =>
              by_cases hyp : y = p
              · subst hyp
                have ht : (y.toList == y.toList) = true := by simp
                go_wp2_with fail
                go_quiet (fail)
                go_wp2_with fail
                go_roundw
                case rel => exact ⟨n + 1, by omega, by go_num, by rw [HNX.out]; simp, below_drewN hBn _⟩
                case measure => simp [intOf]; omega
              · have ht := toList_ne hyp
                go_wp2_with fail
                go_quiet (fail)
                go_wp2_with fail
                go_roundw
                case rel => exact ⟨n + 1, by omega, by go_num, by rw [HNX.out]; simp [hyp], below_drewN hBn _⟩
                case measure => simp [intOf]; omega
          · obtain rfl : n = x.1.length := by omega
            have hni : ¬ (x.1.length : Int) < (x.1.length : Int) := by omega
            rw [List.take_of_length_le (Nat.le_refl _), hin.out]
            go_wp2_with fail
            go_roundw
            case rel => exact ⟨k + 1, by omega, by go_num, hBn⟩
            case measure => simp [intOf]; omega
    · obtain rfl : k = o.1.length := by omega
      have hki : ¬ (o.1.length : Int) < (o.1.length : Int) := by omega
      go_wp2_with fail
      clear c0 c1 c2 c3
      -- keys rise, none tells the one word alone
      go_loopw [10] (fun i wr => ∃ k : Nat, k ≤ o.2.length ∧ i = .int .i64 (k : Int) ∧ Below w7.heap.size w7 wr) (fun i _ => o.2.length - (intOf i).toNat)
      case atStart => exact ⟨0, Nat.zero_le _, rfl, hB⟩
      case round =>
        obtain ⟨k, hk, rfl, hB⟩ := hrel
        obtain ⟨⟨c0, c1⟩, c2, c3⟩ := HC.out _ hB
        by_cases hlt : k < o.2.length
        · have hki : (k : Int) < (o.2.length : Int) := by omega
          have hk0 : (0 : Int) ≤ (k : Int) := by omega
          obtain ⟨p, hp⟩ : ∃ p, o.2[k]? = some p := ⟨_, List.getElem?_eq_getElem hlt⟩
          obtain ⟨g, of, rfl, hoc⟩ := HOK.out.addr hp
          obtain ⟨e1, a1, n1, e2, hr1⟩ := hoc k p hp
          have hr1 := hr1.below hB
          have e1 := (hB.cell (p := ⟨g, of + k * 2, none⟩) (lt_of_cellF e1)).trans e1
          have e2 := (hB.cell (p := ⟨g, of + k * 2 + 1, none⟩) (lt_of_cellF e2)).trans e2
          have hpd := HF.out.d p (List.mem_of_getElem? hp)
          go_upto_region 20 with fail
          go_cut [114] from 76 to 114 (fun c wx => c = .bool false ∧ Below w7.heap.size w7 wx)
          case first =>
            rcases Nat.eq_zero_or_pos k with hz | hz
            · subst hz
              by_cases hl : p.2.length = 1
              · obtain ⟨y, hy⟩ : ∃ y, p.2 = [y] := List.length_eq_one_iff.1 hl
                obtain ⟨g2, of2, rfl, hsc⟩ := hr1.addr (k := 0) (x := y) (by rw [hy]; rfl)
                have e3 := hsc 0 y (by rw [hy]; rfl)
                rw [Nat.add_zero] at e3
                have ht := toList_ne (show y ≠ tru from fun h => hpd (by rw [hy, h]))
                rw [tru_list] at ht
                have ht2 : (y.toList == ({ data := #[116, 114, 117, 101] } : ByteArray).toList) = false := by rw [show ({ data := #[116, 114, 117, 101] } : ByteArray).toList = [116, 114, 117, 101] from tru_list]; exact ht
                have hln : ((p.2.length : Int) == 1) = true := by rw [hl]; rfl
                have hl0 : (0 : Int) < (p.2.length : Int) := by omega
                clear hsc
                go_quiet (fail)
                go_wp2_with fail
                go_meet
                exact ⟨rfl, below_drewN hB _⟩
              · have hln : ((p.2.length : Int) == 1) = false := by rw [beq_eq_false_iff_ne]; omega
                go_quiet (fail)
                go_wp2_with fail
                go_meet
                exact ⟨rfl, below_drewN hB _⟩
            · obtain ⟨j, rfl⟩ : ∃ j, k = j + 1 := ⟨k - 1, by omega⟩
              obtain ⟨p0, hp0⟩ : ∃ p, o.2[j]? = some p := ⟨_, List.getElem?_eq_getElem (by omega)⟩
              obtain ⟨e0, -⟩ := hoc j p0 hp0
              have e0 := (hB.cell (p := ⟨g, of + j * 2, none⟩) (lt_of_cellF e0)).trans e0
              have hlt2 := bl_of (HF.out.c j p0 p hp0 hp)
              have hj0 : (0 : Int) < (((j + 1 : Nat)) : Int) := by omega
              have hj1 : (j : Int) < (o.2.length : Int) := by omega
              have hj2 : (0 : Int) ≤ (j : Int) := by omega
              by_cases hl : p.2.length = 1
              · obtain ⟨y, hy⟩ : ∃ y, p.2 = [y] := List.length_eq_one_iff.1 hl
                obtain ⟨g2, of2, rfl, hsc⟩ := hr1.addr (k := 0) (x := y) (by rw [hy]; rfl)
                have e3 := hsc 0 y (by rw [hy]; rfl)
                rw [Nat.add_zero] at e3
                have ht := toList_ne (show y ≠ tru from fun h => hpd (by rw [hy, h]))
                rw [tru_list] at ht
                have ht2 : (y.toList == ({ data := #[116, 114, 117, 101] } : ByteArray).toList) = false := by rw [show ({ data := #[116, 114, 117, 101] } : ByteArray).toList = [116, 114, 117, 101] from tru_list]; exact ht
                have hln : ((p.2.length : Int) == 1) = true := by rw [hl]; rfl
                have hl0 : (0 : Int) < (p.2.length : Int) := by omega
                clear hsc
                go_quiet (fail)
                go_wp2_with fail
                go_meet
                exact ⟨rfl, below_drewN hB _⟩
              · have hln : ((p.2.length : Int) == 1) = false := by rw [beq_eq_false_iff_ne]; omega
                go_quiet (fail)
                go_wp2_with fail
                go_meet
                exact ⟨rfl, below_drewN hB _⟩
          case rest =>
            obtain ⟨rfl, hB8⟩ := hcut
            go_wp2_with fail
            go_roundw
            case rel => exact ⟨k + 1, by omega, by go_num, hB8⟩
            case measure => simp [intOf]; omega
        · obtain rfl : k = o.2.length := by omega
          have hki : ¬ (o.2.length : Int) < (o.2.length : Int) := by omega
          go_wp2_with fail
          clear c0 c1 c2 c3
          -- each key that was is there
          go_loopw [11] (fun i wr => ∃ k : Nat, k ≤ x.2.length ∧ i = .int .i64 (k : Int) ∧ Below w7.heap.size w7 wr) (fun i _ => x.2.length - (intOf i).toNat)
          case atStart => exact ⟨0, Nat.zero_le _, rfl, hB⟩
          case round =>
            obtain ⟨k, hk, rfl, hB⟩ := hrel
            obtain ⟨⟨c0, c1⟩, c2, c3⟩ := HC.out _ hB
            by_cases hlt : k < x.2.length
            · have hki : (k : Int) < (x.2.length : Int) := by omega
              have hk0 : (0 : Int) ≤ (k : Int) := by omega
              obtain ⟨p, hp⟩ : ∃ p, x.2[k]? = some p := ⟨_, List.getElem?_eq_getElem hlt⟩
              obtain ⟨g, of, rfl, hxc⟩ := HXK.out.addr hp
              obtain ⟨e1, -⟩ := hxc k p hp
              have HPX := Lib.hid e1
              have hin := Lib.hid (show o.2.any (fun q => decide (q.1 = p.1)) = true by
                obtain ⟨q, hq, e⟩ := HF.out.e p (List.mem_of_getElem? hp)
                exact List.any_eq_true.2 ⟨q, hq, by simp [e]⟩)
              clear hxc hp e1
              go_wp2_with fail
              clear c0 c1 c2 c3
              go_loopw [12, 13] (fun t i wr => ∃ n : Nat, n ≤ o.2.length ∧ i = .int .i64 (n : Int) ∧ t = .bool ((o.2.take n).any fun q => decide (q.1 = p.1)) ∧ Below w7.heap.size w7 wr) (fun _ i _ => o.2.length - (intOf i).toNat)
              case atStart => exact ⟨0, Nat.zero_le _, rfl, rfl, hB⟩
              case round =>
                obtain ⟨n, hn, rfl, rfl, hBn⟩ := hrel
                obtain ⟨⟨c0, c1⟩, c2, c3⟩ := HC.out _ hBn
                by_cases hlt2 : n < o.2.length
                · have hni : (n : Int) < (o.2.length : Int) := by omega
                  have hn0 : (0 : Int) ≤ (n : Int) := by omega
                  obtain ⟨y, hy⟩ : ∃ y, o.2[n]? = some y := ⟨_, List.getElem?_eq_getElem hlt2⟩
                  obtain ⟨g2, of2, rfl, hoc⟩ := HOK.out.addr hy
                  obtain ⟨e1, -⟩ := hoc n y hy
                  have e1 := (hBn.cell (p := ⟨g2, of2 + n * 2, none⟩) (lt_of_cellF e1)).trans e1
                  have e2 := (hBn.cell (p := ⟨g, of + k * 2, none⟩) (lt_of_cellF HPX.out)).trans HPX.out
                  have HNX := Lib.hid (any_next (fun q : ByteArray × List ByteArray => decide (q.1 = p.1)) hy)
                  clear hoc hy
                  generalize (o.2.take n).any (fun q => decide (q.1 = p.1)) = b at *
                  obtain ⟨y, ys⟩ := y
                  obtain ⟨p, ps⟩ := p
                  dsimp only at e1 e2 HNX hin
                  cases b with
                  | true =>
                    go_wp2_with fail
                    go_quiet (fail)
                    go_wp2_with fail
                    go_roundw
                    case rel => exact ⟨n + 1, by omega, by go_num, by rw [HNX.out]; rfl, below_drewN hBn _⟩
                    case measure => simp [intOf]; omega
                  | false =>
                    by_cases hyp : y = p
                    · subst hyp
                      have ht : (y.toList == y.toList) = true := by simp
                      go_wp2_with fail
                      go_quiet (fail)
                      go_wp2_with fail
                      go_roundw
                      case rel => exact ⟨n + 1, by omega, by go_num, by rw [HNX.out]; simp, below_drewN hBn _⟩
                      case measure => simp [intOf]; omega
                    · have ht := toList_ne hyp
                      go_wp2_with fail
                      go_quiet (fail)
                      go_wp2_with fail
                      go_roundw
                      case rel => exact ⟨n + 1, by omega, by go_num, by rw [HNX.out]; simp [hyp], below_drewN hBn _⟩
                      case measure => simp [intOf]; omega
                · obtain rfl : n = o.2.length := by omega
                  have hni : ¬ (o.2.length : Int) < (o.2.length : Int) := by omega
                  rw [List.take_of_length_le (Nat.le_refl _), hin.out]
                  go_wp2_with fail
                  go_roundw
                  case rel => exact ⟨k + 1, by omega, by go_num, hBn⟩
                  case measure => simp [intOf]; omega
            · obtain rfl : k = x.2.length := by omega
              have hki : ¬ (x.2.length : Int) < (x.2.length : Int) := by omega
              have hla : (o.1.length : Int) ≤ (x.1.length : Int) := by have := HF.out.la; omega
              have hlk : (o.2.length : Int) ≤ (x.2.length : Int) := by have := HF.out.lk; omega
              go_wp2_with fail
              go_ret
              exact ⟨rfl, HB7.out.trans (hB.mono HB7.out.size)⟩
end Go.Proofs.Ytofemadknmokbaa
