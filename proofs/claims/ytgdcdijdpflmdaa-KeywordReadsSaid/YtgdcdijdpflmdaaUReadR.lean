/-
  The document's Read.
-/
import Derived.Test.YtgdcdijdpflmdaaUSetR
import Derived.IntWalk
namespace Go.Proofs.Ytgdcdijdpflmdaa
open Go Go.RowKit

/-- What the document's Read has read so far: the block of the answer, its two rows, the rows of the keys; only the last of these grows. -/
structure RdR (W0 wr : World) (B bL : Nat) (va vk : Value) (A : List ByteArray) (Z : List ZE) : Prop where
  blk : wr.heap[B]? = some (.cells #[va, vk] 41 (0, 0))
  att : wr.ownsRow W0.heap.size 9 1 va A.length (strs A)
  atl : Z ≠ [] → ∀ g, va.ownBlock = some g → g < bL
  own : wr.ownsRow W0.heap.size 53 2 vk Z.length (zcells Z)
  row : ∀ (i : Nat) z, Z[i]? = some z → wr.ownsRow W0.heap.size 9 1 (slc z.2) z.1.2.length (strs z.1.2)
  rl : ∀ (i : Nat) z, i + 1 < Z.length → Z[i]? = some z → ∀ g, (slc z.2).ownBlock = some g → g < bL
  last : ∀ z, Z[Z.length - 1]? = some z → wr.ownsRow bL 9 1 (slc z.2) z.1.2.length (strs z.1.2)
  lo : W0.heap.size ≤ bL
  hi : bL ≤ wr.heap.size
  loB : W0.heap.size ≤ B
  bel : Below W0.heap.size W0 wr
theorem RdR.below {W0 wr w' : World} {B bL : Nat} {va vk : Value} {A : List ByteArray} {Z : List ZE} (h : RdR W0 wr B bL va vk A Z) (hb : Below wr.heap.size wr w') : RdR W0 w' B bL va vk A Z :=
  ⟨(hb.block _ (lt_of_heap h.blk)).trans h.blk, ownsRow_belowF h.att hb, h.atl, ownsRow_belowF h.own hb, fun i z hz => ownsRow_belowF (h.row i z hz) hb, h.rl, fun z hz => ownsRow_belowF (h.last z hz) hb, h.lo, Nat.le_trans h.hi hb.size, h.loB, h.bel.trans (hb.mono h.bel.size)⟩
theorem RdR.key {W0 w5 w7 : World} {B bL : Nat} {va vk v7 : Value} {A : List ByteArray} {Z : List ZE} {s : ByteArray} (h : RdR W0 w5 B bL va vk A Z) (ho : w7.ownsRow W0.heap.size 53 2 v7 (Z.length + 1) (zcells Z ++ [.string s, .slice none 0 0])) (hg : w5.grownBy w7 vk.ownBlock) :
    w7.heap[B]? = some (.cells #[va, vk] 41 (0, 0)) ∧ RdR W0 (w7.setCell ⟨B, 1, none⟩ v7) B w5.heap.size va v7 A (Z ++ [((s, []), (none, 0, 0))]) := by
  have hX : w7.heap[B]? = some (.cells #[va, vk] 41 (0, 0)) := (hg.block B (lt_of_heap h.blk) (own_not_ty h.own h.blk (by decide)).symm).trans h.blk
  have kept : ∀ (b : Nat) (u : Value) (n : Nat) (xs : List Value), w5.ownsRow b 9 1 u n xs → (w7.setCell ⟨B, 1, none⟩ v7).ownsRow b 9 1 u n xs := fun b u n xs h5 => by
    have h7 := h5.kept hg (own_types_ne h5 h.own (by decide))
    exact own_setOther h7 (own_not_ty h7 hX (by decide)) _
  refine ⟨hX, cells_set (k := 1) hX _, kept _ _ _ _ h.att, fun _ g hg => (h.att.lt g hg).2, ?_, fun i z hz => ?_, fun i z hi hz g hg => ?_, fun z hz => ?_, h.bel.size, by have := hg.size; simpa using this, h.loB, (h.bel.grown hg h.bel.size (fun k hk => (h.own.lt k hk).1)).setCell h.loB _⟩
  · rw [List.length_append, zcells_app2]
    exact own_setOther ho (own_not_ty ho hX (by decide)) _
  · rcases Nat.lt_or_ge i Z.length with hi | hi
    · rw [List.getElem?_append_left hi] at hz
      exact kept _ _ _ _ (h.row i z hz)
    · rw [List.getElem?_append_right hi] at hz
      obtain ⟨_, rfl⟩ : i - Z.length = 0 ∧ ((s, []), (none, 0, 0)) = z := by
        rcases Nat.eq_zero_or_pos (i - Z.length) with h0 | h0
        · rw [h0] at hz; exact ⟨h0, by simpa using hz⟩
        · rw [List.getElem?_eq_none (by simp; omega)] at hz; cases hz
      exact World.ownsRow_nil _ _ _ _
  · simp at hi
    rw [List.getElem?_append_left hi] at hz
    exact ((h.row i z hz).lt g hg).2
  · rw [List.length_append, show Z.length + [((s, []), (none, 0, 0))].length - 1 = Z.length by simp, List.getElem?_append_right (Nat.le_refl _), Nat.sub_self] at hz
    simp at hz
    rw [← hz]
    exact World.ownsRow_nil _ _ _ _
theorem RdR.attr {W0 w5 w7 : World} {B bL : Nat} {va vk v7 : Value} {A : List ByteArray} {s : ByteArray} (h : RdR W0 w5 B bL va vk A []) (ho : w7.ownsRow W0.heap.size 9 1 v7 (A.length + 1) (strs A ++ [.string s])) (hg : w5.grownBy w7 va.ownBlock) :
    w7.heap[B]? = some (.cells #[va, vk] 41 (0, 0)) ∧ RdR W0 (w7.setCell ⟨B, 0, none⟩ v7) B bL v7 vk (A ++ [s]) [] := by
  have hX : w7.heap[B]? = some (.cells #[va, vk] 41 (0, 0)) := (hg.block B (lt_of_heap h.blk) (own_not_ty h.att h.blk (by decide)).symm).trans h.blk
  have h7 := h.own.kept hg (own_types_ne h.own h.att (by decide))
  refine ⟨hX, cells_set (k := 0) hX _, ?_, fun h => absurd rfl h, own_setOther h7 (own_not_ty h7 hX (by decide)) _, fun i z hz => by simp at hz, fun i z hi hz => by simp at hz, fun z hz => by simp at hz, h.lo, by have := hg.size; have := h.hi; simp; omega, h.loB, (h.bel.grown hg h.bel.size (fun k hk => (h.att.lt k hk).1)).setCell h.loB _⟩
  rw [List.length_append, show strs (A ++ [s]) = strs A ++ [.string s] by simp [strs]]
  exact own_setOther ho (own_not_ty ho hX (by decide)) _
theorem ne_of_lt9 {v u : Value} {b : Nat} (h1 : ∀ g, v.ownBlock = some g → g < b) (h2 : ∀ g, u.ownBlock = some g → b ≤ g) : v.ownBlock = none ∨ v.ownBlock ≠ u.ownBlock := by
  cases hv : v.ownBlock with
  | none => exact .inl rfl
  | some g =>
    refine .inr fun e => ?_
    have h3 := h1 g hv
    have h4 := h2 g e.symm
    omega
theorem RdR.sub {W0 w5 w7 : World} {B bL g cap N : Nat} {va : Value} {A : List ByteArray} {Y : List ZE} {z : ZE} {t : Option Addr × Nat × Nat} {s : ByteArray} (h : RdR W0 w5 B bL va (.slice (some ⟨g, 0, none⟩) N cap) A (Y ++ [z])) (ho : w7.ownsRow bL 9 1 (slc t) (z.1.2.length + 1) (strs z.1.2 ++ [.string s])) (hg : w5.grownBy w7 (slc z.2).ownBlock) :
    (w7.heap[B]? = some (.cells #[va, .slice (some ⟨g, 0, none⟩) N cap] 41 (0, 0)) ∧ (∃ u, w7.cell? ⟨g, Y.length * 2 + 1, none⟩ = some u) ∧ w7.frozen? ⟨g, Y.length * 2 + 1, none⟩ = false) ∧ RdR W0 (w7.setCell ⟨g, Y.length * 2 + 1, none⟩ (slc t)) B bL va (.slice (some ⟨g, 0, none⟩) N cap) A (Y ++ [((z.1.1, z.1.2 ++ [s]), t)]) := by
  obtain rfl : N = (Y ++ [z]).length := own_lenD h.own
  have hzl : (Y ++ [z])[Y.length]? = some z := by rw [List.getElem?_append_right (Nat.le_refl _), Nat.sub_self]; rfl
  have hlen : (Y ++ [z]).length = Y.length + 1 := by simp
  have hl := h.last z (by rw [hlen]; exact hzl)
  have hrz := h.row _ z hzl
  have hX : w7.heap[B]? = some (.cells #[va, .slice (some ⟨g, 0, none⟩) (Y ++ [z]).length cap] 41 (0, 0)) := (hg.block B (lt_of_heap h.blk) (own_not_ty hrz h.blk (by decide)).symm).trans h.blk
  have o7 := h.own.kept hg (own_types_ne h.own hrz (by decide))
  have st := o7.stored (Y.length * 2 + 1) (slc t)
  have hgB : B ≠ g := fun e => own_not_ty o7 hX (by decide) (by rw [e]; rfl)
  have hpos : Y.length * 2 + 1 < (Y ++ [z]).length * 2 := by rw [hlen]; omega
  have s1 := o7.cellAt (Y.length * 2 + 1) hpos
  rw [List.getElem?_eq_getElem (by rw [zcells_len]; exact hpos)] at s1
  have kept : ∀ (b : Nat) (u : Value) (n : Nat) (xs : List Value), w5.ownsRow b 9 1 u n xs → (∀ g', u.ownBlock = some g' → g' < bL) → (w7.setCell ⟨g, Y.length * 2 + 1, none⟩ (slc t)).ownsRow b 9 1 u n xs := fun b u n xs h5 hlt => by
    have h7 := h5.kept hg (ne_of_lt9 hlt (fun g' hg' => (hl.lt g' hg').1))
    refine h7.kept st.2 ?_
    have := own_types_ne h7 o7 (by decide)
    simpa [Value.ownBlock] using this
  have hnew : (w7.setCell ⟨g, Y.length * 2 + 1, none⟩ (slc t)).ownsRow bL 9 1 (slc t) (z.1.2 ++ [s]).length (strs (z.1.2 ++ [s])) := by
    rw [List.length_append, show strs (z.1.2 ++ [s]) = strs z.1.2 ++ [.string s] by simp [strs]]
    refine ho.kept st.2 ?_
    have := own_types_ne ho o7 (by decide)
    simpa [Value.ownBlock] using this
  refine ⟨⟨hX, ⟨_, s1⟩, o7.frozenAt _⟩, (Below.heap_setCell _ _ _ _ hgB).trans hX, kept _ _ _ _ h.att (h.atl (by simp)), fun _ => h.atl (by simp), ?_, fun i y hy => ?_, fun i y hi hy => ?_, fun y hy => ?_, h.lo, by have := hg.size; have := h.hi; simp; omega, h.loB, (h.bel.grown hg h.bel.size (fun k hk => (hrz.lt k hk).1)).setCell (h.own.lt g rfl).1 _⟩
  · have e := zcells_set Y [] z (z.1.2 ++ [s]) t
    rw [List.append_nil] at e
    rw [← e, show (Y ++ [((z.1.1, z.1.2 ++ [s]), t)]).length = (Y ++ [z]).length by simp]
    exact st.1
  · rcases Nat.lt_or_ge i Y.length with hi | hi
    · rw [List.getElem?_append_left hi] at hy
      have hy' : (Y ++ [z])[i]? = some y := by rw [List.getElem?_append_left hi]; exact hy
      exact kept _ _ _ _ (h.row i y hy') (h.rl i y (by rw [hlen]; omega) hy')
    · rw [List.getElem?_append_right hi] at hy
      obtain ⟨_, rfl⟩ : i - Y.length = 0 ∧ ((z.1.1, z.1.2 ++ [s]), t) = y := by
        rcases Nat.eq_zero_or_pos (i - Y.length) with h0 | h0
        · rw [h0] at hy; exact ⟨h0, by simpa using hy⟩
        · rw [List.getElem?_eq_none (by simp; omega)] at hy; cases hy
      exact ownsRow_base hnew h.lo
  · have hi' : i < Y.length := by simp at hi; omega
    rw [List.getElem?_append_left hi'] at hy
    exact h.rl i y (by rw [hlen]; omega) (by rw [List.getElem?_append_left hi']; exact hy)
  · rw [show (Y ++ [((z.1.1, z.1.2 ++ [s]), t)]).length - 1 = Y.length by simp, List.getElem?_append_right (Nat.le_refl _), Nat.sub_self] at hy
    simp at hy
    rw [← hy]
    exact hnew
theorem RdR.agg {W0 wr : World} {B bL : Nat} {va vk : Value} {A : List ByteArray} {Z : List ZE} (h : RdR W0 wr B bL va vk A Z) : RowU wr va A ∧ ExtU wr vk (Z.map (·.1)) :=
  ⟨RowU.of_own h.att, OwnZ.ext (w1 := wr) ⟨h.own, fun z hz => by obtain ⟨i, hi⟩ := List.getElem?_of_mem hz; exact RowU.of_own (h.row i z hi)⟩ (Below.refl _ _)⟩
theorem RdR.at {W0 wr : World} {B bL g cap N n : Nat} {va : Value} {A : List ByteArray} {Z : List ZE} {z : ZE} (h : RdR W0 wr B bL va (.slice (some ⟨g, 0, none⟩) N cap) A Z) (hz : Z[n]? = some z) : wr.cell? ⟨g, n * 2 + 1, none⟩ = some (slc z.2) := by
  have hn : (zcells Z)[n * 2 + 1]? = some (slc z.2) := by
    rw [zcells_at, show (n * 2 + 1) / 2 = n by omega, hz, show (n * 2 + 1) % 2 = 1 by omega]
    rfl
  have := h.own.cells rfl _ _ hn
  rwa [Addr.add_lit, Nat.zero_add] at this
theorem readR_next {l : List ByteArray} {k : Nat} {x : ByteArray} (hx : l[k]? = some x) : readR ((l.take (k + 1)).map lowS) = stepR (readR ((l.take k).map lowS)) (lowS x) := by
  rw [take_next hx, List.map_append]
  exact readR_snoc _ _

set_option maxRecDepth 100000 in
set_option maxHeartbeats 4000000 in
theorem readRf_kw (v : Value) (l : List ByteArray) (w : World) (hv : RowU w v l) (hl : l.length ≤ 1000) (hs : ∀ x ∈ l, x.size ≤ 1000) :
    Calls Try.prog 19 #[v] w fun e w' => ∃ u, e = .returned u ∧ KeyU w' u (readK l) ∧ Below w.heap.size w w' := by
  obtain ⟨i0, hii, iz0, iz1, iz2⟩ := info_parts stringInfo
  obtain ⟨x0, xii, xz0, xz1, xz2⟩ := info_parts extInfoM
  have hv0 := hv
  obtain ⟨a3, p3, rfl, -⟩ := hv
  go_enter Try.func19, Try.ntmps19
  go_upto_region 2 with fail
  obtain ⟨W0, hW0⟩ : ∃ W0, w.alloc (.cells #[.slice none 0 0, .slice none 0 0] 41) = W0 := ⟨_, rfl⟩
  have hb0 : Below w.heap.size w W0 := by rw [← hW0]; exact (Below.refl _ w).alloc (Nat.le_refl _) _
  have hR0 : W0.heap[w.heap.size]? = some (.cells #[.slice none 0 0, .slice none 0 0] 41 (0, 0)) := by rw [← hW0]; exact World.alloc_heap_new w _
  have hz0 : W0.heap.size = w.heap.size + 1 := by rw [← hW0]; simp
  obtain ⟨W1, hW1⟩ : ∃ W1, W0.alloc (.cells #[.slice none 0 0, .slice none 0 0] 41) = W1 := ⟨_, rfl⟩
  have hs1 : W1.heap.size = W0.heap.size + 1 := by rw [← hW1]; simp
  have HI := Lib.hid (show RdR W0 W1 W0.heap.size W0.heap.size (.slice none 0 0) (.slice none 0 0) [] [] from
    ⟨by rw [← hW1]; exact World.alloc_heap_new W0 _, World.ownsRow_nil _ _ _ _, fun h => absurd rfl h, World.ownsRow_nil _ _ _ _, fun i z hz => by simp at hz, fun i z hi hz => by simp at hz, fun z hz => by simp at hz, Nat.le_refl _, by omega, Nat.le_refl _, by rw [← hW1]; exact (Below.refl _ W0).alloc (Nat.le_refl _) _⟩)
  have RV := Lib.hid (hv0.below hb0)
  have HB0 := Lib.hid hb0
  have HR0 := Lib.hid hR0
  have HVS := Lib.hid hs
  rw [hW0, hW1]
  have hz1 : w.heap.size + 1 = W0.heap.size := hz0.symm
  rw [hz1]
  clear hb0 hR0 hs hW1 hW0 hv0 hz0 hz1 hs1
  go_wp2_with fail
  go_loopw [4, 5, 6] (fun i _ _ wr => ∃ (k bL : Nat) (va vk : Value) (A : List ByteArray) (Z : List ZE), k ≤ l.length ∧ i = .int .i64 (k : Int) ∧ Hid ((A, Z.map (·.1)) = readR ((l.take k).map lowS)) ∧ Hid (RdR W0 wr W0.heap.size bL va vk A Z)) (fun i _ _ _ => l.length - (intOf i).toNat)
  case atStart => exact ⟨0, _, _, _, [], [], Nat.zero_le _, rfl, Lib.hid rfl, HI⟩
  case round =>
    obtain ⟨k, bL, va, vk, A, Z, hk, rfl, HM, HR⟩ := hrel
    obtain ⟨aa, an, ac, rfl⟩ := own_slice HR.out.att
    obtain ⟨ka, kn, kc, rfl⟩ := own_slice HR.out.own
    obtain rfl : an = A.length := own_lenD HR.out.att
    have hkn : kn = Z.length := own_lenD HR.out.own
    by_cases hlt : k < l.length
    · have hki : (k : Int) < (l.length : Int) := by omega
      have hk0 : (0 : Int) ≤ (k : Int) := by omega
      obtain ⟨x, hx⟩ : ∃ x, l[k]? = some x := ⟨_, List.getElem?_eq_getElem hlt⟩
      obtain ⟨g0, o0, rfl, c1⟩ := RV.out.at hx
      have c1 := (HR.out.bel.cell (p := ⟨g0, o0 + k, none⟩) (lt_of_cellF c1)).trans c1
      have LX := Lib.hid (fun wr => lower_ref x wr (Nat.le_trans (HVS.out x (List.mem_of_getElem? hx)) (by decide)))
      have HN := Lib.hid (readR_next hx)
      obtain ⟨b1, b2, b3⟩ := readR_len ((l.take k).map lowS)
      rw [← HM.out] at b1 b2 b3
      simp only [List.length_map, List.length_take] at b1 b2
      have hA : A.length ≤ 1000 := by omega
      have hZ : Z.length ≤ 1000 := by omega
      have H3 := Lib.hid (show ∀ z ∈ Z, z.1.2.length ≤ 1000 from fun z hz => by
        have := b3 z.1 (List.mem_map.2 ⟨z, hz, rfl⟩)
        simp only [List.length_map, List.length_take] at this
        omega)
      rw [← HM.out] at HN
      clear b1 b2 b3 hx HM
      generalize lowS x = s at *
      by_cases hik : isK s = true
      · have hs2 : ((s.size : Int) == 2) = true := by unfold isK at hik; simp at hik; rw [hik]; rfl
        have HS := Lib.hid (show (A, (Z ++ [((s, []), (none, 0, 0))] : List ZE).map (·.1)) = readR ((l.take (k + 1)).map lowS) by rw [HN.out]; unfold stepR; rw [if_pos hik, List.map_append]; rfl)
        subst hkn
        clear hik HN
        go_wp2_with (first
          | (go_at_call 12; (with_reducible refine (LX.out _).mono ?_); rintro e w5 ⟨rfl, hb5⟩; have HR5 := Lib.hid (HR.out.below hb5); obtain ⟨d0, d1⟩ := key_cells HR5.out.blk; clear hb5)
          | (at_builtin; refine wpList_append_own _ rfl _ _ 27 rfl W0.heap.size 53 x0 (.agg #[.string ByteArray.empty, .slice none 0 0]) 2 40 Try.underlying27 xii xz0 xz1 xz2 rfl (by decide) _ Z.length _ rfl (HR5.out.own.alloc _) ⟨_, 0, none⟩ 1 1 [.string s, .slice none 0 0] rfl rfl (cell_two_new _ _ _ _) (by intro u hu; simp at hu; rcases hu with rfl | rfl <;> rfl) (by unfold maxLen; omega) (by omega) (by have := HR5.out.bel.size; simp; omega) ?_; intro v7 w7 hown7 hgrow7 _; obtain ⟨hX7, hR7⟩ := RdR.key (HR5.out.below ((Below.refl _ _).alloc (Nat.le_refl _) _)) hown7 hgrow7; obtain ⟨va7, vn7, vc7, rfl⟩ := own_slice hown7; obtain ⟨e0, e1⟩ := key_cells hX7; have f1 := cells_frozen 1 hX7; have HR7 := Lib.hid hR7; clear hX7 hR7 hown7 hgrow7))
        go_roundw
        case rel => exact ⟨k + 1, _, _, _, _, _, by omega, by go_num, HS, HR7⟩
        case measure => simp [intOf]; omega
      · have hik : isK s = false := by simpa using hik
        have hs2 : ((s.size : Int) == 2) = false := by unfold isK at hik; simp at hik; rw [beq_eq_false_iff_ne]; omega
        rcases List.eq_nil_or_concat Z with hz | ⟨Y, z, hz⟩
        · subst hz
          simp only [List.length_nil] at hkn
          subst hkn
          have HS := Lib.hid (show (A ++ [s], ([] : List ZE).map (·.1)) = readR ((l.take (k + 1)).map lowS) by rw [HN.out]; unfold stepR; rw [if_neg (by rw [hik]; decide)]; rfl)
          clear hik HN
          go_wp2_with (first
            | (go_at_call 12; (with_reducible refine (LX.out _).mono ?_); rintro e w5 ⟨rfl, hb5⟩; have HR5 := Lib.hid (HR.out.below hb5); obtain ⟨d0, d1⟩ := key_cells HR5.out.blk; clear hb5)
            | (at_builtin; refine wpList_append_own _ rfl _ _ 26 rfl W0.heap.size 9 i0 (.string ByteArray.empty) 1 16 Try.underlying26 hii iz0 iz1 iz2 rfl (by decide) _ A.length _ rfl (HR5.out.att.alloc _) ⟨_, 0, none⟩ 1 1 [.string s] rfl rfl (cell_one_new _ _ _) (by intro u hu; simp at hu; subst hu; rfl) (by unfold maxLen; omega) (by omega) (by have := HR5.out.bel.size; simp; omega) ?_; intro v7 w7 hown7 hgrow7 _; obtain ⟨hX7, hR7⟩ := RdR.attr (HR5.out.below ((Below.refl _ _).alloc (Nat.le_refl _) _)) hown7 hgrow7; obtain ⟨va7, vn7, vc7, rfl⟩ := own_slice hown7; obtain ⟨e0, e1⟩ := key_cells hX7; have f0 := cells_frozen 0 hX7; have HR7 := Lib.hid hR7; clear hX7 hR7 hown7 hgrow7))
          go_roundw
          case rel => exact ⟨k + 1, _, _, _, _, _, by omega, by go_num, HS, HR7⟩
          case measure => simp [intOf]; omega
        · rw [List.concat_eq_append] at hz
          subst hz
          replace hkn : kn = Y.length + 1 := by rw [hkn]; simp
          have HS := Lib.hid (show ∀ t : Option Addr × Nat × Nat, (A, (Y ++ [((z.1.1, z.1.2 ++ [s]), t)] : List ZE).map (·.1)) = readR ((l.take (k + 1)).map lowS) from fun t => by
            rw [HN.out]
            unfold stepR
            rw [if_neg (by rw [hik]; decide), if_neg (by simp), List.map_append, List.map_append]
            show _ = (A, addLast s (Y.map (·.1) ++ [z.1]))
            rw [addLast_snoc]
            rfl)
          have hz3 := H3.out z (by simp)
          have hzl : (Y ++ [z])[Y.length]? = some z := by rw [List.getElem?_append_right (Nat.le_refl _), Nat.sub_self]; rfl
          obtain ⟨g, cap, hg⟩ := own_someU HR.out.own (by simp)
          injection hg with q1 q2 q3
          clear q2
          subst q1
          subst q3
          have hkz : ((kn : Int) == 0) = false := by rw [beq_eq_false_iff_ne]; omega
          have hwr : IntKind.i64.wrap ((kn : Int) - 1) = (Y.length : Int) := by
            rw [show ((kn : Int) - 1) = (Y.length : Int) by omega]
            exact IntWalk.i64_in _ (by simp at hZ; omega)
          have hy0 : (0 : Int) ≤ (Y.length : Int) := by omega
          have hy1 : (Y.length : Int) < (kn : Int) := by omega
          have hy2 : Y.length < kn := by omega
          clear hkn
          clear hik HN H3
          go_upto_region 11 with (go_at_call 12; (with_reducible refine (LX.out _).mono ?_); rintro e w5 ⟨rfl, hb5⟩; have HR5 := Lib.hid (HR.out.below hb5); obtain ⟨d0, d1⟩ := key_cells HR5.out.blk; clear hb5)
          have HRd := Lib.hid (HR5.out.below (Below.drew (Below.refl _ _)))
          have HRa := Lib.hid (HR5.out.below (show Below w5.heap.size w5 (w5.alloc (.cells #[.string s] 9)).drew from Below.drew ((Below.refl _ _).alloc (Nat.le_refl _) _)))
          obtain ⟨-, d2⟩ := key_cells HRd.out.blk
          obtain ⟨-, d3⟩ := key_cells HRa.out.blk
          have d4 := HRd.out.at hzl
          have d5 := HRa.out.at hzl
          have HNB := Lib.hid (show (w5.alloc (.cells #[.string s] 9)).drew.heap[w5.heap.size]? = some (.cells #[.string s] 9 (0, 0)) from World.alloc_heap_new w5 _)
          have hll : (Y ++ [z]).length - 1 = Y.length := by simp
          have HOL := Lib.hid (HRa.out.last z (by rw [hll]; exact hzl))
          have hbl : bL ≤ (w5.alloc (.cells #[.string s] 9)).drew.heap.size := HRa.out.hi
          obtain ⟨⟨zk, zs⟩, ta, tn, tc⟩ := z
          simp only [slc] at d4 d5 HOL
          obtain rfl : tn = zs.length := own_lenD HOL.out
          replace hz3 : zs.length ≤ 1000 := hz3
          clear hll hzl d1 d0
          go_region_law (refine step_append_lies _ rfl _ _ 26 rfl bL 9 i0 (.string ByteArray.empty) 1 16 Try.underlying26 hii iz0 iz1 iz2 rfl (by decide) (.slice ta zs.length tc) zs.length (strs zs) rfl HOL.out ⟨_, 0, none⟩ 1 1 [.string s] rfl rfl (World.news_of_block HNB.out) (by intro u hu; simp at hu; subst hu; rfl) (by decide) (by unfold maxLen; omega) (by omega) hbl _ rfl ?_; intro g7 cap7 w7 hown7 hgrow7 _ _; obtain ⟨⟨hX7, ⟨u7, e1⟩, f1⟩, hR7⟩ := RdR.sub (t := (some ⟨g7, 0, none⟩, zs.length + 1, cap7)) HRa.out hown7 hgrow7; obtain ⟨-, d6⟩ := key_cells hX7; have HR7 := Lib.hid hR7; clear hX7 hR7 hown7 hgrow7)
          all_goals
            (try go_wp2_with fail)
            go_roundw
            case rel => exact ⟨k + 1, _, _, _, _, _, by omega, by go_num, Lib.hid (HS.out _), HR7⟩
            case measure => simp [intOf]; omega
    · subst hkn
      obtain rfl : k = l.length := by omega
      have hki : ¬ (l.length : Int) < (l.length : Int) := by omega
      obtain ⟨c0, c1⟩ := key_cells HR.out.blk
      have hR := (HR.out.bel.block w.heap.size (lt_of_heap HR0.out)).trans HR0.out
      obtain ⟨r0, r1⟩ := key_cells hR
      have f0 := cells_frozen 0 hR
      have f1 := cells_frozen 1 hR
      have HRr := Lib.hid hR
      have HMM := Lib.hid (show (A, Z.map (·.1)) = readK l by rw [HM.out, List.take_of_length_le (Nat.le_refl _)]; rfl)
      clear hR
      go_wp2_with fail
      obtain ⟨g1, g2⟩ := HR.out.agg
      obtain ⟨hk1, hk2⟩ := KeyU.stored (k := (A, Z.map (·.1))) g1 g2 HRr.out (fun x e => by cases e) (fun x e => by cases e)
      refine bodyPost_ret (results_cell_row rfl _ _ w.heap.size 41 _ (0, 0) _ rfl hk2 Try.underlying41 rfl keySize) rfl ?_
      refine ⟨_, rfl, ?_, ((HB0.out.trans (HR.out.bel.mono HB0.out.size)).setCell (Nat.le_refl _) _).setCell (Nat.le_refl _) _⟩
      rw [HMM.out] at hk1
      exact hk1
end Go.Proofs.Ytgdcdijdpflmdaa
