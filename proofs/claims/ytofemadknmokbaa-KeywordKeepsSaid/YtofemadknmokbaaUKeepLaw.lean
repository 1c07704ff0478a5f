/-
  KeywordKeeps: the walk over the law.
-/
import Derived.Test.YtofemadknmokbaaUBackLaw
import Derived.Test.YtofemadknmokbaaUJoinsLaw
import Derived.Test.YtofemadknmokbaaUSet
namespace Go.Proofs.Ytofemadknmokbaa
open Go Go.RowKit

/-- What the law's stores leave. -/
structure KeepI (wS wr : World) (Bo Bp gb n m q : Nat) (oa ok pa pk : Value) : Prop where
  bo : wr.heap[Bo]? = some (.cells #[oa, ok] 41 (0, 0))
  bp : wr.heap[Bp]? = some (.cells #[pa, pk] 41 (0, 0))
  ro : ∃ xs, wr.ownsRow wS.heap.size 9 1 oa n xs
  rk : ∃ xs, wr.ownsRow wS.heap.size 51 2 ok m xs
  rp : ∃ xs, wr.ownsRow gb 51 2 pk q xs
  ne : ∀ g, ok.ownBlock = some g → g < gb
  hg : wS.heap.size ≤ gb
  bel : Below wS.heap.size wS wr
theorem own_len {W : World} {base n n' c sz : Nat} {e : TypeId} {a : Option Addr} {xs : List Value} (h : W.ownsRow base e sz (.slice a n' c) n xs) : n = n' := by
  rcases owned_cases h with ⟨h1, h2⟩ | ⟨g, cap, h1⟩
  · cases h1; exact h2
  · cases h1; rfl
theorem setX_lenS (k : ByteArray) (v : List ByteArray) (K : KX) : (setX k v K).length ≤ K.length + 1 := by
  induction K with
  | nil => simp [setX]
  | cons x r ih => unfold setX; split <;> simp; omega
theorem setK_lenS (x : List ByteArray × KX) (k : ByteArray) (v : List ByteArray) : (setK x k v).2.length ≤ x.2.length + 1 := by
  unfold setK
  split
  · exact setX_lenS _ _ _
  · omega
theorem own_at {W : World} {base g n cap sz : Nat} {e : TypeId} {xs : List Value} (h : W.ownsRow base e sz (.slice (some ⟨g, 0, none⟩) n cap) n xs) (k : Nat) (hk : k < n * sz) : ∃ u, W.cell? ⟨g, k, none⟩ = some u ∧ W.frozen? ⟨g, k, none⟩ = false := by
  have s1 := h.cellAt k hk
  rw [List.getElem?_eq_getElem (by rw [h.1]; exact hk)] at s1
  exact ⟨_, s1, h.frozenAt k⟩
theorem KeepI.putA {wS wr : World} {Bo Bp gb n m q g cap : Nat} {ok pa pk : Value} (h : KeepI wS wr Bo Bp gb n m q (.slice (some ⟨g, 0, none⟩) n cap) ok pa pk) (k : Nat) (s : ByteArray) : KeepI wS (wr.setCell ⟨g, k, none⟩ (.string s)) Bo Bp gb n m q (.slice (some ⟨g, 0, none⟩) n cap) ok pa pk := by
  obtain ⟨xs, hx⟩ := h.ro
  obtain ⟨ys, hy⟩ := h.rk
  obtain ⟨zs, hz⟩ := h.rp
  have st := hx.stored k (.string s)
  refine ⟨(Below.heap_setCell _ _ _ _ (fun e => own_not_ty hx h.bo (by decide) (by rw [e]; rfl))).trans h.bo, (Below.heap_setCell _ _ _ _ (fun e => own_not_ty hx h.bp (by decide) (by rw [e]; rfl))).trans h.bp, ⟨_, st.1⟩, ⟨_, hy.kept st.2 ?_⟩, ⟨_, hz.kept st.2 ?_⟩, h.ne, h.hg, h.bel.setCell (hx.lt g rfl).1 _⟩
  · have := own_types_ne hy hx (by decide)
    simpa [Value.ownBlock] using this
  · have := own_types_ne hz hx (by decide)
    simpa [Value.ownBlock] using this
theorem KeepI.putK {wS wr : World} {Bo Bp gb n m q g cap : Nat} {oa pa pk : Value} (h : KeepI wS wr Bo Bp gb n m q oa (.slice (some ⟨g, 0, none⟩) m cap) pa pk) (k : Nat) (s : ByteArray) : KeepI wS (wr.setCell ⟨g, k, none⟩ (.string s)) Bo Bp gb n m q oa (.slice (some ⟨g, 0, none⟩) m cap) pa pk := by
  obtain ⟨xs, hx⟩ := h.ro
  obtain ⟨ys, hy⟩ := h.rk
  obtain ⟨zs, hz⟩ := h.rp
  have st := hy.stored k (.string s)
  refine ⟨(Below.heap_setCell _ _ _ _ (fun e => own_not_ty hy h.bo (by decide) (by rw [e]; rfl))).trans h.bo, (Below.heap_setCell _ _ _ _ (fun e => own_not_ty hy h.bp (by decide) (by rw [e]; rfl))).trans h.bp, ⟨_, hx.kept st.2 ?_⟩, ⟨_, st.1⟩, ⟨_, own_setLow hz (h.ne g rfl) _⟩, h.ne, h.hg, h.bel.setCell (hy.lt g rfl).1 _⟩
  have := own_types_ne hx hy (by decide)
  simpa [Value.ownBlock] using this
theorem KeepI.putP {wS wr : World} {Bo Bp gb n m q g cap : Nat} {oa ok pa : Value} (h : KeepI wS wr Bo Bp gb n m q oa ok pa (.slice (some ⟨g, 0, none⟩) q cap)) (k : Nat) (s : ByteArray) : KeepI wS (wr.setCell ⟨g, k, none⟩ (.string s)) Bo Bp gb n m q oa ok pa (.slice (some ⟨g, 0, none⟩) q cap) := by
  obtain ⟨xs, hx⟩ := h.ro
  obtain ⟨ys, hy⟩ := h.rk
  obtain ⟨zs, hz⟩ := h.rp
  have st := hz.stored k (.string s)
  have hgb : gb ≤ g := (hz.lt g rfl).1
  refine ⟨(Below.heap_setCell _ _ _ _ (fun e => own_not_ty hz h.bo (by decide) (by rw [e]; rfl))).trans h.bo, (Below.heap_setCell _ _ _ _ (fun e => own_not_ty hz h.bp (by decide) (by rw [e]; rfl))).trans h.bp, ⟨_, hx.kept st.2 ?_⟩, ⟨_, own_setOther hy (fun e => ?_) _⟩, ⟨_, st.1⟩, h.ne, h.hg, h.bel.setCell (Nat.le_trans h.hg hgb) _⟩
  · have := own_types_ne hx hz (by decide)
    simpa [Value.ownBlock] using this
  · have := h.ne g e
    omega
set_option maxRecDepth 100000 in
set_option maxHeartbeats 1500000 in
theorem keeps_law (va vk : Value) (A : List ByteArray) (K : KX) (vv : Value) (L : List ByteArray) (w : World) (hA : RowA w va A) (hK : ExtA w vk K) (hV : RowA w vv L) :
    Calls Try.prog 8 #[.agg #[va, vk], vv] w fun e w' => e = .returned (.bool true) ∧ Below w.heap.size w w' := by
  obtain ⟨W0, hW0⟩ : ∃ W0, w.alloc (.cells #[va, vk] 41) = W0 := ⟨_, rfl⟩
  have hb0 : Below w.heap.size w W0 := by rw [← hW0]; exact (Below.refl _ w).alloc (Nat.le_refl _) _
  have hh0 : W0.heap[w.heap.size]? = some (.cells #[va, vk] 41 (0, 0)) := by rw [← hW0]; exact World.alloc_heap_new w _
  have AW := Lib.hid (awake9_own W0)
  have FW := Lib.hid (fun w5 (hb : Below W0.heap.size W0 w5) => few_kw va vk A K w5 (hA.below (hb0.trans (hb.mono hb0.size))) (hK.below (hb0.trans (hb.mono hb0.size))))
  have FV := Lib.hid (fun w5 (hb : Below W0.heap.size W0 w5) => few_arg vv L 3 3 rfl w w5 hV (hb0.trans (hb.mono hb0.size)) (by decide))
  have hfl := fewT_len 3 L
  have HFS := Lib.hid (few_small 3 L 1000 (by decide))
  have HB0 := Lib.hid hb0
  have HH0 := Lib.hid hh0
  have HT := Lib.hid (tiny_few (A, K))
  obtain ⟨a0, n0, rfl, -, -⟩ := hA
  obtain ⟨k0, m0, rfl, -, -⟩ := hK
  obtain ⟨v0, c0, rfl, -, -⟩ := hV
  generalize fewK (A, K) = x at *
  generalize fewT 3 L = fv at *
  have T10 := Lib.hid (show Tiny x 10 from ⟨Nat.le_trans HT.out.la (by decide), Nat.le_trans HT.out.lk (by decide), HT.out.sa, fun y hy => ⟨(HT.out.sx y hy).1, Nat.le_trans (HT.out.sx y hy).2 (by decide)⟩⟩)
  clear hb0 hh0
  go_enter Try.func8, Try.ntmps8
  go_upto_region 2 with (go_at_call 18; (with_reducible refine AW.out.mono ?_); rintro e w1 ⟨rfl, hb1⟩; obtain ⟨q0, q1⟩ := key_cells ((hb1.block _ (lt_of_heap HH0.out)).trans HH0.out); have F1 := Lib.hid (FW.out w1 hb1))
  clear hW0
  go_upto_region 3 with (go_at_call 20; (with_reducible refine F1.out.mono ?_); rintro e w2 ⟨u2, rfl, hk2, hb2⟩; obtain ⟨xa, xn, xc, ya, yn, yc, rfl⟩ := key_agg hk2)
  obtain ⟨W3, hW3⟩ : ∃ W3, w2.alloc (.cells #[.slice xa xn xc, .slice ya yn yc] 41) = W3 := ⟨_, rfl⟩
  have hb3 : Below w2.heap.size w2 W3 := by rw [← hW3]; exact (Below.refl _ w2).alloc (Nat.le_refl _) _
  have hX3 : W3.heap[w2.heap.size]? = some (.cells #[.slice xa xn xc, .slice ya yn yc] 41 (0, 0)) := by rw [← hW3]; exact World.alloc_heap_new w2 _
  have hB3 : Below W0.heap.size W0 W3 := hb1.trans ((hb2.trans (hb3.mono hb2.size)).mono hb1.size)
  have HB3 := Lib.hid hB3
  have HX3 := Lib.hid hX3
  have HK3 := Lib.hid (hk2.below hb3)
  obtain ⟨q0, q1⟩ := key_cells ((hB3.block _ (lt_of_heap HH0.out)).trans HH0.out)
  have F2 := Lib.hid (FW.out W3 hB3)
  rw [hW3]
  clear hW3 hb3 hb2 hb1 hX3 hk2 F1 FW AW hB3
  go_upto_region 4 with (go_at_call 20; (with_reducible refine F2.out.mono ?_); rintro e w4 ⟨u4, rfl, hk4, hb4⟩; obtain ⟨pa, pn, pc, ra, rn, rc, rfl⟩ := key_agg hk4)
  obtain ⟨W5, hW5⟩ : ∃ W5, w4.alloc (.cells #[.slice pa pn pc, .slice ra rn rc] 41) = W5 := ⟨_, rfl⟩
  have hb5 : Below w4.heap.size w4 W5 := by rw [← hW5]; exact (Below.refl _ w4).alloc (Nat.le_refl _) _
  have hX5 : W5.heap[w4.heap.size]? = some (.cells #[.slice pa pn pc, .slice ra rn rc] 41 (0, 0)) := by rw [← hW5]; exact World.alloc_heap_new w4 _
  have hb35 : Below W3.heap.size W3 W5 := hb4.trans (hb5.mono hb4.size)
  have hB5 : Below W0.heap.size W0 W5 := HB3.out.trans (hb35.mono HB3.out.size)
  have HB5 := Lib.hid hB5
  have HX5 := Lib.hid ((hb35.block _ (lt_of_heap HX3.out)).trans HX3.out)
  have HY5 := Lib.hid hX5
  have HK5 := Lib.hid (HK3.out.below hb35)
  have HL5 := Lib.hid (hk4.below hb5)
  have F3 := Lib.hid (FV.out W5 hB5)
  rw [hW5]
  clear hW5 hb5 hb4 hX5 hk4 F2 FV hB5 hb35 HX3 HK3 HB3 q0 q1
  go_upto_region 5 with (go_at_call 19; (with_reducible refine F3.out.mono ?_); rintro e w6 ⟨u6, rfl, ho6, hb6⟩; obtain ⟨fa, fn, fc, rfl⟩ := own_slice ho6)
  have HB6 := Lib.hid (HB5.out.trans (hb6.mono HB5.out.size))
  have HX6 := Lib.hid ((hb6.block _ (lt_of_heap HX5.out)).trans HX5.out)
  have HY6 := Lib.hid ((hb6.block _ (lt_of_heap HY5.out)).trans HY5.out)
  have HK6 := Lib.hid (HK5.out.below hb6)
  have HL6 := Lib.hid (HL5.out.below hb6)
  have HV6 := Lib.hid (RowU.of_own ho6)
  obtain ⟨q0, q1⟩ := key_cells HX6.out
  have OC := Lib.hid (order_any _ x w6 HK6.out T10.out)
  clear hb6 ho6 HX5 HY5 HK5 HL5 HB5 F3
  go_upto_region 6 with (go_at_call 27; (with_reducible refine OC.out.mono ?_); rintro e w7 ⟨oa, ok, rfl, ⟨hoa7, us, hus, hok7, -⟩, -, hb7⟩; obtain ⟨ga, gn, gc, rfl⟩ := own_slice hoa7; obtain ⟨ha, hn, hc, rfl⟩ := own_slice hok7)
  obtain ⟨W8, hW8⟩ : ∃ W8, w7.alloc (.cells #[.slice ga gn gc, .slice ha hn hc] 41) = W8 := ⟨_, rfl⟩
  have hb8 : Below w7.heap.size w7 W8 := by rw [← hW8]; exact (Below.refl _ w7).alloc (Nat.le_refl _) _
  have hX8 : W8.heap[w7.heap.size]? = some (.cells #[.slice ga gn gc, .slice ha hn hc] 41 (0, 0)) := by rw [← hW8]; exact World.alloc_heap_new w7 _
  have hb68 : Below w6.heap.size w6 W8 := hb7.trans (hb8.mono hb7.size)
  have HB8 := Lib.hid hb68
  have HO8 := Lib.hid hX8
  have HOA := Lib.hid (ownsRow_belowF hoa7 hb8)
  have HOK := Lib.hid (ownsRow_belowF hok7 hb8)
  obtain ⟨q0, q1⟩ := key_cells ((hb68.block _ (lt_of_heap HX6.out)).trans HX6.out)
  have SC := Lib.hid (set_kw (.agg #[.slice xa xn xc, .slice ya yn yc]) x ⟨#[99, 111]⟩ (.slice fa fn fc) fv W8 (HK6.out.below hb68) (HV6.out.below hb68) (Nat.le_trans HT.out.la (by decide)) (Nat.le_trans HT.out.lk (by decide)) (fun y hy => Nat.le_trans (HT.out.sx y hy).2 (by decide)) (by omega) HFS.out)
  rw [hW8]
  clear hW8 hb8 hb7 hX8 hoa7 hok7 hus OC hb68
  go_upto_region 7 with (go_at_call 30; (with_reducible refine SC.out.mono ?_); rintro e w9 ⟨sa, sk, rfl, hsa, ⟨D, -, hsk, -⟩, hb9⟩; obtain ⟨ia, im, ic, rfl⟩ := own_slice hsa; obtain ⟨ja, jm, jc, rfl⟩ := own_slice hsk)
  obtain ⟨W10, hW10⟩ : ∃ W10, w9.alloc (.cells #[.slice ia im ic, .slice ja jm jc] 41) = W10 := ⟨_, rfl⟩
  have hb10 : Below w9.heap.size w9 W10 := by rw [← hW10]; exact (Below.refl _ w9).alloc (Nat.le_refl _) _
  have hX10 : W10.heap[w9.heap.size]? = some (.cells #[.slice ia im ic, .slice ja jm jc] 41 (0, 0)) := by rw [← hW10]; exact World.alloc_heap_new w9 _
  have hb8x : Below W8.heap.size W8 W10 := hb9.trans (hb10.mono hb9.size)
  have HI := Lib.hid (show KeepI w6 W10 w7.heap.size w9.heap.size W8.heap.size (orderK x).1.length (orderK x).2.length (setK x ⟨#[99, 111]⟩ fv).2.length (.slice ga gn gc) (.slice ha hn hc) (.slice ia im ic) (.slice ja jm jc) from
    ⟨(hb8x.block _ (lt_of_heap HO8.out)).trans HO8.out, hX10, ⟨_, ownsRow_belowF HOA.out hb8x⟩, ⟨_, ownsRow_belowF HOK.out hb8x⟩, ⟨_, ownsRow_belowF hsk hb10⟩, fun g hg => (HOK.out.lt g hg).2, HB8.out.size, HB8.out.trans (hb8x.mono HB8.out.size)⟩)
  rw [hW10]
  clear hW10 hb10 hb9 hX10 hsa hsk SC hb8x HO8 HOA HOK HB8
  have hn5 : (orderK x).1.length ≤ 5 := (tiny_order HT.out).la
  have hm5 : (orderK x).2.length ≤ 5 := (tiny_order HT.out).lk
  have hq6 : (setK x ⟨#[99, 111]⟩ fv).2.length ≤ 6 := Nat.le_trans (setK_lenS _ _ _) (by have := HT.out.lk; omega)
  generalize hno : (orderK x).1.length = n at *
  generalize hmo : (orderK x).2.length = m at *
  generalize hqo : (setK x ⟨#[99, 111]⟩ fv).2.length = q at *
  clear hno hmo hqo
  obtain rfl : n = gn := own_len HI.out.ro.choose_spec
  obtain rfl : m = hn := own_len HI.out.rk.choose_spec
  obtain rfl : q = jm := own_len HI.out.rp.choose_spec
  go_wp2_with fail
  go_loopw [11] (fun i wr => ∃ k : Nat, k ≤ n ∧ i = .int .i64 (k : Int) ∧ Hid (KeepI w6 wr w7.heap.size w9.heap.size W8.heap.size n m q (.slice ga n gc) (.slice ha m hc) (.slice ia im ic) (.slice ja q jc))) (fun i _ => n - (intOf i).toNat)
  case atStart => exact ⟨0, Nat.zero_le _, rfl, HI⟩
  case round =>
    obtain ⟨k, hk, rfl, HI⟩ := hrel
    obtain ⟨c0, c1⟩ := key_cells HI.out.bo
    by_cases hlt : k < n
    · have hki : (k : Int) < (n : Int) := by omega
      have hk0 : (0 : Int) ≤ (k : Int) := by omega
      obtain ⟨xs, hxs⟩ := HI.out.ro
      rcases owned_cases hxs with ⟨_, h2⟩ | ⟨g, cap, h1⟩
      · omega
      · cases h1
        obtain ⟨u, s1, s2⟩ := own_at hxs (k) (by omega)
        have HN := Lib.hid (HI.out.putA (k) ⟨#[122, 122, 122]⟩)
        clear hxs HI
        go_wp2_with fail
        go_roundw
        case rel => exact ⟨k + 1, by omega, by go_num, HN⟩
        case measure => simp [intOf]; omega
    · obtain rfl : n = k := by omega
      have hki : ¬ (n : Int) < (n : Int) := by omega
      go_wp2_with fail
      clear c0 c1
      go_loopw [12] (fun i wr => ∃ k : Nat, k ≤ m ∧ i = .int .i64 (k : Int) ∧ Hid (KeepI w6 wr w7.heap.size w9.heap.size W8.heap.size n m q (.slice ga n gc) (.slice ha m hc) (.slice ia im ic) (.slice ja q jc))) (fun i _ => m - (intOf i).toNat)
      case atStart => exact ⟨0, Nat.zero_le _, rfl, HI⟩
      case round =>
        obtain ⟨k, hk, rfl, HI⟩ := hrel
        obtain ⟨c0, c1⟩ := key_cells HI.out.bo
        by_cases hlt : k < m
        · have hki : (k : Int) < (m : Int) := by omega
          have hk0 : (0 : Int) ≤ (k : Int) := by omega
          obtain ⟨xs, hxs⟩ := HI.out.rk
          rcases owned_cases hxs with ⟨_, h2⟩ | ⟨g, cap, h1⟩
          · omega
          · cases h1
            obtain ⟨u, s1, s2⟩ := own_at hxs (k * 2) (by omega)
            have HN := Lib.hid (HI.out.putK (k * 2) ⟨#[122, 122]⟩)
            clear hxs HI
            go_wp2_with fail
            go_roundw
            case rel => exact ⟨k + 1, by omega, by go_num, HN⟩
            case measure => simp [intOf]; omega
        · obtain rfl : m = k := by omega
          have hki : ¬ (m : Int) < (m : Int) := by omega
          go_wp2_with fail
          clear c0 c1
          go_loopw [13] (fun i wr => ∃ k : Nat, k ≤ q ∧ i = .int .i64 (k : Int) ∧ Hid (KeepI w6 wr w7.heap.size w9.heap.size W8.heap.size n m q (.slice ga n gc) (.slice ha m hc) (.slice ia im ic) (.slice ja q jc))) (fun i _ => q - (intOf i).toNat)
          case atStart => exact ⟨0, Nat.zero_le _, rfl, HI⟩
          case round =>
            obtain ⟨k, hk, rfl, HI⟩ := hrel
            obtain ⟨c0, c1⟩ := key_cells HI.out.bp
            by_cases hlt : k < q
            · have hki : (k : Int) < (q : Int) := by omega
              have hk0 : (0 : Int) ≤ (k : Int) := by omega
              obtain ⟨xs, hxs⟩ := HI.out.rp
              rcases owned_cases hxs with ⟨_, h2⟩ | ⟨g, cap, h1⟩
              · omega
              · cases h1
                obtain ⟨u, s1, s2⟩ := own_at hxs (k * 2) (by omega)
                have HN := Lib.hid (HI.out.putP (k * 2) ⟨#[122, 121]⟩)
                clear hxs HI
                go_wp2_with fail
                go_roundw
                case rel => exact ⟨k + 1, by omega, by go_num, HN⟩
                case measure => simp [intOf]; omega
            · obtain rfl : q = k := by omega
              have hki : ¬ (q : Int) < (q : Int) := by omega
              have hB := HI.out.bel
              have HSM := Lib.hid (sameK_refl (.agg #[.slice xa xn xc, .slice ya yn yc]) (.agg #[.slice pa pn pc, .slice ra rn rc]) x wr (HK6.out.below hB) (HL6.out.below hB) (Nat.le_trans HT.out.la (by decide)) (Nat.le_trans HT.out.lk (by decide)) (fun y hy => Nat.le_trans (HT.out.sx y hy).2 (by decide)))
              obtain ⟨x0, x1⟩ := key_cells ((hB.block _ (lt_of_heap HX6.out)).trans HX6.out)
              obtain ⟨y0, y1⟩ := key_cells ((hB.block _ (lt_of_heap HY6.out)).trans HY6.out)
              have HBw := Lib.hid (HB0.out.trans ((HB6.out.trans (hB.mono HB6.out.size)).mono HB0.out.size))
              clear hB
              go_wp2_with (go_at_call 21; (with_reducible refine HSM.out.mono ?_); rintro e w20 ⟨rfl, hb20⟩)
              go_ret
              exact ⟨rfl, HBw.out.trans (hb20.mono HBw.out.size)⟩
end Go.Proofs.Ytofemadknmokbaa
