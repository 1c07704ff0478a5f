/-
  keyword: told, Order.
-/
import Derived.Test.YtgdcdijdpflmdaaUOrder
import Derived.Test.YtgdcdijdpflmdaaRFree
import Derived.Deep.RegionHeld3
import Derived.Deep.CutRange
namespace Go.Proofs.Ytgdcdijdpflmdaa
open Go Go.RowKit

theorem tru_list : tru.toList = [116, 114, 117, 101] := by decide +kernel
set_option maxRecDepth 100000 in
set_option maxHeartbeats 2000000 in
theorem told_own (v : Value) (l : List ByteArray) (w : World) (hv : RowU w v l) (hl : l.length ≤ 1000) :
    Calls Try.prog 62 #[v] w fun e w' => ∃ u, e = .returned u ∧ w'.ownsRow w.heap.size 9 1 u (toldL l).length (strs (toldL l)) ∧ Below w.heap.size w w' := by
  have CC := Lib.hid (copied_own v l w hv (by omega))
  obtain ⟨ao, c, rfl, hc⟩ := hv
  by_cases h1 : l.length = 1
  · obtain ⟨x, rfl⟩ : ∃ x, l = [x] := by
      match l, h1 with
      | [x], _ => exact ⟨x, rfl⟩
    obtain ⟨g, o, rfl, c1⟩ := hc 0 x rfl
    rw [Nat.add_zero] at c1
    by_cases hx : x = tru
    · subst hx
      have HT := Lib.hid (show toldL [tru] = [] from rfl)
      have hte : (tru.toList == [116, 114, 117, 101]) = true := by rw [tru_list]; rfl
      clear hc h1 CC
      go_enter Try.func62, Try.ntmps62
      go_wp2_with fail
      go_ret
      exact ⟨_, rfl, by rw [HT.out]; exact World.ownsRow_nil _ _ _ _, Below.refl _ _⟩
    · have HT := Lib.hid (show toldL [x] = [x] by unfold toldL; rw [if_neg (by simpa using hx)])
      have hxt := toList_ne hx
      rw [tru_list] at hxt
      simp only [List.length_singleton] at CC
      clear hc h1 hx
      go_enter Try.func62, Try.ntmps62
      go_wp2_with (go_at_call 57; (with_reducible refine CC.out.mono ?_); rintro e w1 ⟨u, rfl, ho1, hb1⟩)
      go_ret
      exact ⟨_, rfl, by rw [HT.out]; exact ho1, hb1⟩
  · have HT := Lib.hid (show toldL l = l by unfold toldL; rw [if_neg (fun e => h1 (by rw [e]; rfl))])
    have h2 : ((l.length : Int) == 1) = false := by rw [beq_eq_false_iff_ne]; omega
    have h3 : ¬ (l.length : Int) = 1 := by omega
    clear hc
    go_enter Try.func62, Try.ntmps62
    go_wp2_with (go_at_call 57; (with_reducible refine CC.out.mono ?_); rintro e w1 ⟨u, rfl, ho1, hb1⟩)
    go_ret
    exact ⟨_, rfl, by rw [HT.out]; exact ho1, hb1⟩

theorem zcells_ext (D : List ZE) : zcells D = extCells (D.map (·.1)) (D.map fun z => slc z.2) := by
  induction D with
  | nil => rfl
  | cons z D ih =>
    unfold zcells extCells at *
    rw [List.flatMap_cons, ih, List.map_cons, List.map_cons, List.zip_cons_cons, List.flatMap_cons]
    rfl
theorem zcells_set (A C : List ZE) (z : ZE) (l : List ByteArray) (t : Option Addr × Nat × Nat) : (zcells (A ++ z :: C)).set (A.length * 2 + 1) (slc t) = zcells ((A ++ [((z.1.1, l), t)]) ++ C) := by
  have e : zcells (A ++ z :: C) = zcells A ++ (.string z.1.1 :: slc z.2 :: zcells C) := by simp [zcells, encZ]
  have e2 : zcells ((A ++ [((z.1.1, l), t)]) ++ C) = zcells A ++ (.string z.1.1 :: slc t :: zcells C) := by simp [zcells, encZ]
  rw [e, e2, List.set_append_right _ _ (by rw [zcells_len]; omega), zcells_len, show A.length * 2 + 1 - A.length * 2 = 1 by omega]
  rfl
theorem own_setLow {w : World} {base e sz n B k : Nat} {v : Value} {xs : List Value} (h : w.ownsRow base e sz v n xs) (hB : B < base) (u : Value) : (w.setCell ⟨B, k, none⟩ u).ownsRow base e sz v n xs :=
  own_setOther h (fun e => by have := (h.lt _ e).1; omega) u
/-- Extensions in order so far. -/
structure PutZ (w wr : World) (B g cap : Nat) (va : Value) (l : List ByteArray) (Z D : List ZE) : Prop where
  blk : wr.heap[B]? = some (.cells #[va, .slice (some ⟨g, 0, none⟩) Z.length cap] 41 (0, 0))
  att : wr.ownsRow w.heap.size 9 1 va l.length (strs l)
  own : wr.ownsRow w.heap.size 53 2 (.slice (some ⟨g, 0, none⟩) Z.length cap) Z.length (zcells (D ++ Z.drop D.length))
  new : D.map (·.1) = (Z.take D.length).map fun z => toldX z.1
  row : ∀ z ∈ D, wr.ownsRow w.heap.size 9 1 (slc z.2) z.1.2.length (strs z.1.2)
  bel : Below w.heap.size w wr
theorem PutZ.alloc {w wr : World} {B g cap : Nat} {va : Value} {l : List ByteArray} {Z D : List ZE} (h : PutZ w wr B g cap va l Z D) (o : Obj) : PutZ w (wr.alloc o) B g cap va l Z D :=
  ⟨(Below.heap_alloc _ _ _ (lt_of_heap h.blk)).trans h.blk, h.att.alloc o, h.own.alloc o, h.new, fun z hz => (h.row z hz).alloc o, h.bel.alloc h.bel.size o⟩
theorem PutZ.below {w wr w' : World} {B g cap : Nat} {va : Value} {l : List ByteArray} {Z D : List ZE} (h : PutZ w wr B g cap va l Z D) (hb : Below wr.heap.size wr w') : PutZ w w' B g cap va l Z D :=
  ⟨(hb.block _ (lt_of_heap h.blk)).trans h.blk, ownsRow_belowF h.att hb, ownsRow_belowF h.own hb, h.new, fun z hz => ownsRow_belowF (h.row z hz) hb, h.bel.trans (hb.mono h.bel.size)⟩
theorem PutZ.put {w wr : World} {B g cap : Nat} {va : Value} {l : List ByteArray} {Z D : List ZE} (h : PutZ w wr B g cap va l Z D) {z : ZE} (hz : Z[D.length]? = some z) {t : Option Addr × Nat × Nat} (ht : wr.ownsRow w.heap.size 9 1 (slc t) (toldL z.1.2).length (strs (toldL z.1.2))) :
    PutZ w (wr.setCell ⟨g, D.length * 2 + 1, none⟩ (slc t)) B g cap va l Z (D ++ [((z.1.1, toldL z.1.2), t)]) := by
  have hgB : B ≠ g := fun e => own_not_ty h.own h.blk (by decide) (by rw [e]; rfl)
  have hl : D.length < Z.length := (List.getElem?_eq_some_iff.1 hz).1
  have st := h.own.stored (D.length * 2 + 1) (slc t)
  have hd : Z.drop D.length = z :: Z.drop (D.length + 1) := by
    rw [List.drop_eq_getElem_cons hl]
    congr 1
    rw [List.getElem?_eq_getElem hl] at hz
    exact Option.some.inj hz
  have kept : ∀ (u : Value) (n : Nat) (xs : List Value), wr.ownsRow w.heap.size 9 1 u n xs → (wr.setCell ⟨g, D.length * 2 + 1, none⟩ (slc t)).ownsRow w.heap.size 9 1 u n xs := fun u n xs ho => ho.kept st.2 (by
    have := own_types_ne ho h.own (by decide)
    simpa [Value.ownBlock] using this)
  refine ⟨(Below.heap_setCell _ _ _ _ hgB).trans h.blk, kept _ _ _ h.att, ?_, ?_, fun y hy => ?_, h.bel.setCell (h.own.lt g rfl).1 _⟩
  · have s1 := st.1
    rw [hd, zcells_set] at s1
    rw [List.length_append, List.length_singleton]
    exact s1
  · rw [List.map_append, List.length_append, List.length_singleton, take_next hz, List.map_append, h.new]
    rfl
  · rcases List.mem_append.1 hy with hy | hy
    · exact kept _ _ _ (h.row y hy)
    · obtain rfl := List.mem_singleton.1 hy
      exact kept _ _ _ ht
theorem key_cells {W : World} {B : Nat} {a b : Value} {t : TypeId} (hb : W.heap[B]? = some (.cells #[a, b] t (0, 0))) : W.cell? ⟨B, 0, none⟩ = some a ∧ W.cell? ⟨B, 1, none⟩ = some b := by
  simp [World.cell?, hb]
set_option maxRecDepth 100000 in
set_option maxHeartbeats 4000000 in
theorem order_kw (v : Value) (k : List ByteArray × KX) (w : World) (hv : KeyU w v k) (hA : k.1.length ≤ 12) (hK : k.2.length ≤ 12) (hs : ∀ x ∈ k.1, x.size ≤ 1000) (hx : ∀ x ∈ k.2, x.1.size ≤ 1000 ∧ x.2.length ≤ 1000) :
    Calls Try.prog 23 #[v] w fun e w' => ∃ va vk, e = .returned (.agg #[va, vk]) ∧ w'.ownsRow w.heap.size 9 1 va (orderK k).1.length (strs (orderK k).1) ∧ ExtO w' w.heap.size vk (orderK k).2 ∧ Below w.heap.size w w' := by
  obtain ⟨va, vk, rfl, rA, rK⟩ := hv
  obtain ⟨W0, hW0⟩ : ∃ W0, (w.alloc (.cells #[va, vk] 41)).alloc (.cells #[.slice none 0 0, .slice none 0 0] 41) = W0 := ⟨_, rfl⟩
  have hb0 : Below w.heap.size w W0 := by rw [← hW0]; exact ((Below.refl _ w).alloc (Nat.le_refl _) _).alloc (by simp) _
  have hz0 : W0.heap.size = w.heap.size + 2 := by rw [← hW0]; simp
  have hA0 : W0.heap[w.heap.size]? = some (.cells #[va, vk] 41 (0, 0)) := by rw [← hW0]; exact (Below.heap_alloc _ _ _ (by simp)).trans (World.alloc_heap_new w _)
  have hR0 : W0.heap[w.heap.size + 1]? = some (.cells #[.slice none 0 0, .slice none 0 0] 41 (0, 0)) := by rw [← hW0]; exact heap_alloc2_new w _ _
  have C1 := Lib.hid (fun w5 (hb : Below W0.heap.size W0 w5) => ordS_own va k.1 w5 ((rA.below hb0).below hb) hA hs)
  have RK := Lib.hid (rK.below hb0)
  have HX1 := Lib.hid (fun x h => (hx x h).1)
  have HQ := Lib.hid (fun w5 (hb : Below W0.heap.size W0 w5) => key_cells ((hb.block w.heap.size (by omega)).trans hA0))
  obtain ⟨a1, p1, rfl, -⟩ := rA
  obtain ⟨a2, p2, rfl, -⟩ := rK
  have HZ := Lib.hid hz0
  have HB0 := Lib.hid hb0
  have HR0 := Lib.hid hR0
  have HA0 := Lib.hid hA0
  have HXL := Lib.hid (fun x h => (hx x h).2)
  clear hz0 hb0 hR0 hA0 hs hx
  obtain ⟨W1, hW1⟩ : ∃ W1, W0.drew = W1 := ⟨_, rfl⟩
  have hb1 : Below W0.heap.size W0 W1 := by rw [← hW1]; exact Below.drew (Below.refl _ _)
  have hs1 : W1.heap.size = W0.heap.size := by rw [← hW1]; rfl
  have HH := Lib.hid (fun wr (hb : Below W1.heap.size W1 wr) => HQ.out wr (hb1.trans (hb.mono (by omega))))
  have C1 := Lib.hid (fun wr (hb : Below W1.heap.size W1 wr) => C1.out wr (hb1.trans (hb.mono (by omega))))
  have C2 := Lib.hid (fun wr (hb : Below W1.heap.size W1 wr) => ordX_own (.slice a2 (List.length k.2) p2) k.2 W1 wr (RK.out.below hb1) hb hK (fun x h => HX1.out x h))
  have HB01 := Lib.hid hb1
  clear hb1 hs1
  go_enter Try.func23, Try.ntmps23
  go_upto_region 1 with fail
  clear hW0
  go_cut [3] from 6 to 12 (fun u wx => ∃ B va' vk' Z, u = .pointer (some ⟨B, 0, none⟩) ∧ wx.heap[B]? = some (.cells #[va', vk'] 41 (0, 0)) ∧ W1.heap.size ≤ B ∧ wx.ownsRow W1.heap.size 9 1 va' (riseBy id k.1).length (strs (riseBy id k.1)) ∧ Z.map (·.1) = riseBy (·.1) k.2 ∧ OwnZ W1 wx W1.heap.size vk' Z ∧ Below W1.heap.size W1 wx)
  case first =>
    rename_i J1 K1 hJ1 hK1
    refine wp_region_any (by kernel_rfl) ?_
    change wpAny _ _ _ _ _ _ _ (World.drew _)
    rw [hW1]
    clear hW1
    refine wp_region_free (n := 31) (z := 8) none (V := fun j v w' => match j with
      | 0 => v = .pointer (some ⟨w.heap.size, 0, none⟩)
      | 1 => v = .slice a1 k.1.length p1
      | 2 => w'.ownsRow W1.heap.size 9 1 v (riseBy id k.1).length (strs (riseBy id k.1))
      | 3 => v = .pointer (some ⟨w.heap.size, 1, none⟩)
      | 4 => v = .slice a2 (List.length k.2) p2
      | 5 => (∃ Z : List ZE, Z.map (·.1) = riseBy (·.1) k.2 ∧ OwnZ W1 w' W1.heap.size v Z)
      | 6 => ∃ x y, v = .agg #[x, y] ∧ w'.ownsRow W1.heap.size 9 1 x (riseBy id k.1).length (strs (riseBy id k.1)) ∧ (∃ Z : List ZE, Z.map (·.1) = riseBy (·.1) k.2 ∧ OwnZ W1 w' W1.heap.size y Z)
      | 7 => ∃ B, v = .pointer (some ⟨B, 0, none⟩) ∧ W1.heap.size ≤ B ∧ w'.heap[B]? = some (.cells #[.slice none 0 0, .slice none 0 0] 41 (0, 0))
      | _ => True)
      (blk := fun _ _ => none) (by kernel_rfl) (Nat.le_refl _) 24 (fun _ => false) (by kernel_rfl) ?_ (fun _ _ _ _ h => by cases h) ?_ ?_
    case refine_1 =>
      intro j v wa wb hv hb
      have hb := belowF_of hb
      match j with
      | 0 => exact hv
      | 1 => exact hv
      | 2 => exact (ownsRow_belowF hv hb)
      | 3 => exact hv
      | 4 => exact hv
      | 5 => exact ((let ⟨Z, h1, h2⟩ := hv; ⟨Z, h1, ownsRow_belowF h2.own hb, h2.row⟩))
      | 6 => obtain ⟨x, y, h0, h1, h2⟩ := hv; exact ⟨x, y, h0, (have hv := h1; ownsRow_belowF hv hb), (have hv := h2; (let ⟨Z, h1, h2⟩ := hv; ⟨Z, h1, ownsRow_belowF h2.own hb, h2.row⟩))⟩
      | 7 => obtain ⟨B, h0, h1, h2⟩ := hv; exact ⟨B, h0, h1, (hb.block _ (lt_of_heap h2)).trans h2⟩
      | n + 8 => trivial
    case refine_2 =>
      intro i hi vals a wr hB _ hV hD hE hO K hK
      have hB := belowF_of hB
      obtain ⟨d0, d1⟩ := HH.out _ hB
      have hOl := Lib.hid hO
      have hEl := Lib.hid hE
      have hVl := Lib.hid hV
      have hKl := Lib.hid hK
      clear hO hE hV hD hK HH
      match i, hi with
      | 0, _ =>
        have e0 : a.tmps.getD 1 undef = .pointer (some ⟨w.heap.size, 0, none⟩) := hOl.out 1 (by kernel_rfl)
        refine wpOp_step rfl ?_
        intro K' hK'
        go_simp
        exact hK' _ _ (hKl.out _ _ (fun _ => World.grownBy.refl _ _) (fun h => absurd h (by decide)) (fun _ => rfl) rfl (fun g hg => by cases hg))
      | 1, _ =>
        have e0 : a.tmps.getD 6 undef = .pointer (some ⟨w.heap.size, 0, none⟩) := (hEl.out 0 6 (by kernel_rfl) rfl).trans (hVl.out 0 (by kernel_rfl) (fun h => by cases h))
        refine wpOp_step rfl ?_
        intro K' hK'
        go_simp
        exact hK' _ _ (hKl.out _ _ (fun _ => World.grownBy.refl _ _) (fun h => absurd h (by decide)) (fun _ => rfl) rfl (fun g hg => by cases hg))
      | 2, _ =>
        have e0 : a.tmps.getD 7 undef = .slice a1 k.1.length p1 := (hEl.out 1 7 (by kernel_rfl) rfl).trans (hVl.out 1 (by kernel_rfl) (fun h => by cases h))
        refine wpOp_step rfl ?_
        intro K' hK'
        go_simp
        go_at_call 58; (with_reducible refine (C1.out _ hB).mono ?_); rintro e w' ⟨u, rfl, ho, hb⟩
        go_simp
        exact hK' _ _ (hKl.out _ _ (fun _ => grownF_of hb) (fun h => absurd h (by decide)) (fun h => by cases h) (ownsRow_base ho hB.size) (fun g hg => by cases hg))
      | 3, _ =>
        have e0 : a.tmps.getD 1 undef = .pointer (some ⟨w.heap.size, 0, none⟩) := hOl.out 1 (by kernel_rfl)
        refine wpOp_step rfl ?_
        intro K' hK'
        go_simp
        exact hK' _ _ (hKl.out _ _ (fun _ => World.grownBy.refl _ _) (fun h => absurd h (by decide)) (fun _ => rfl) rfl (fun g hg => by cases hg))
      | 4, _ =>
        have e0 : a.tmps.getD 9 undef = .pointer (some ⟨w.heap.size, 1, none⟩) := (hEl.out 3 9 (by kernel_rfl) rfl).trans (hVl.out 3 (by kernel_rfl) (fun h => by cases h))
        refine wpOp_step rfl ?_
        intro K' hK'
        go_simp
        exact hK' _ _ (hKl.out _ _ (fun _ => World.grownBy.refl _ _) (fun h => absurd h (by decide)) (fun _ => rfl) rfl (fun g hg => by cases hg))
      | 5, _ =>
        have e0 : a.tmps.getD 10 undef = .slice a2 (List.length k.2) p2 := (hEl.out 4 10 (by kernel_rfl) rfl).trans (hVl.out 4 (by kernel_rfl) (fun h => by cases h))
        refine wpOp_step rfl ?_
        intro K' hK'
        go_simp
        go_at_call 60; (with_reducible refine (C2.out _ hB).mono ?_); rintro e w' ⟨u, rfl, ⟨Z, hZ, ho⟩, hb⟩
        go_simp
        exact hK' _ _ (hKl.out _ _ (fun _ => grownF_of hb) (fun h => absurd h (by decide)) (fun h => by cases h) ⟨Z, hZ, ownsRow_base ho.own hB.size, ho.row⟩ (fun g hg => by cases hg))
      | 6, _ =>
        have h2 := hVl.out 2 (by kernel_rfl) (fun h => by cases h)
        have h5 := hVl.out 5 (by kernel_rfl) (fun h => by cases h)
        obtain ⟨ao0, no0, co0, vo0⟩ := own_slice h2
        have e0 : a.tmps.getD 8 undef = .slice ao0 no0 co0 := (hEl.out 2 8 (by kernel_rfl) rfl).trans vo0
        obtain ⟨ao1, no1, co1, vo1⟩ := own_slice (Exists.choose_spec h5).2.own
        have e1 : a.tmps.getD 11 undef = .slice ao1 no1 co1 := (hEl.out 5 11 (by kernel_rfl) rfl).trans vo1
        rw [Array.getD_eq_getD_getElem?] at e0 e1
        refine wpOp_step rfl ?_
        intro K' hK'
        go_simp
        exact hK' _ _ (hKl.out _ _ (fun _ => World.grownBy.refl _ _) (fun h => absurd h (by decide)) (fun _ => rfl) ⟨vals 2, vals 5, (by rw [vo0, vo1]), h2, h5⟩ (fun g hg => by cases hg))
      | 7, _ =>
        refine wpOp_step rfl ?_
        intro K' hK'
        go_simp
        exact hK' _ _ (hKl.out _ _ (fun _ => World.grownBy_alloc _ _ _) (fun h => absurd h (by decide)) (fun h => by cases h) ⟨_, rfl, hB.size, World.alloc_heap_new _ _⟩ (fun g hg => by cases hg))
      | n + 8, h => exact absurd h (by omega)
    case refine_3 =>
      intro vals wr hB hV hD hL K hK
      have hB := belowF_of hB
      obtain ⟨B, hv7, hB7, hh7⟩ := hV 7 (by omega) (fun h => absurd h (by decide))
      obtain ⟨x, y, hv6, hx, hy⟩ := hV 6 (by omega) (fun h => absurd h (by decide))
      have hKl := Lib.hid hK
      generalize hput : putL _ vals _ _ _ = aa
      obtain rfl : aa = ⟨#[.agg #[.slice a1 k.1.length p1, .slice a2 (List.length k.2) p2], .pointer (some ⟨w.heap.size, 0, none⟩), .pointer (some ⟨w.heap.size + 1, 0, none⟩), .pointer (some ⟨B, 0, none⟩), undef, undef, vals 0, vals 1, vals 2, vals 3, vals 4, vals 5, .agg #[x, y], undef, undef, undef, undef, undef, undef, undef, undef, undef, undef, undef, undef, undef, undef, undef, undef, undef, undef], []⟩ := by rw [← hv6, ← hv7, ← hput]; kernel_rfl
      clear hV hD hL hK HH hput
      obtain ⟨xa, xn, xc, rfl⟩ := own_slice hx
      obtain ⟨ya, yn, yc, rfl⟩ := own_slice (Exists.choose_spec hy).2.own
      have HX := Lib.hid hx
      have HY := Lib.hid hy
      clear hx hy
      obtain ⟨d0, d1⟩ := key_cells hh7
      have f0 := cells_frozen 0 hh7
      have f1 := cells_frozen 1 hh7
      refine wpOp_step rfl ?_
      intro K' hK'
      go_simp
      refine hK' _ _ (hKl.out _ _ (hK1 _ _ (Met.intro (hJ1 _ _ ?_))))
      obtain ⟨Z, hZ, hZo⟩ := HY.out
      have hw1 := cells_set (k := 1) (cells_set (k := 0) hh7 (.slice xa xn xc)) (.slice ya yn yc)
      have hg := grown_setF (grown_setF (World.grownBy.refl wr (some B)) 0 (.slice xa xn xc)) 1 (.slice ya yn yc)
      have nx := own_not_ty HX.out hh7 (by decide)
      have ny := own_not_ty hZo.own hh7 (by decide)
      (repeat apply Exists.intro)
      refine ⟨?rel, rfl⟩
      case rel =>
        exact ⟨B, _, _, Z, rfl, hw1, hB7, HX.out.kept hg (.inr nx), hZ, ⟨hZo.own.kept hg (.inr ny), hZo.row⟩, hB.grown hg hB.size (fun k hk => by cases hk; exact hB7)⟩
  case rest =>
    obtain ⟨B, va', vk', Z, rfl, hB, hBl, hoA, hZ, hoZ, hb⟩ := hcut
    clear hW1 HA0 HH
    have hb01 : Below W0.heap.size W0 W1 := HB01.out
    have hR : wc.heap[w.heap.size + 1]? = some (.cells #[.slice none 0 0, .slice none 0 0] 41 (0, 0)) := (hb.block _ (by have := hb01.size; have := HZ.out; omega)).trans ((hb01.block _ (by have := HZ.out; omega)).trans HR0.out)
    have hzw : w.heap.size + 2 ≤ W1.heap.size := by have := hb01.size; have := HZ.out; omega
    have hbw : Below w.heap.size w W1 := HB0.out.trans (hb01.mono HB0.out.size)
    have HE := Lib.hid (show orderK k = (riseBy id k.1, (Z.map (·.1)).map toldX) by unfold orderK; rw [hZ])
    have HXZ := Lib.hid (show ∀ z ∈ Z, z.1.2.length ≤ 1000 from fun z hz => HXL.out _ (rise_sub _ (by rw [← hZ]; exact List.mem_map_of_mem hz)))
    have hZl : Z.length ≤ 12 := by have h1 := rise_len (·.1) k.2; rw [← hZ] at h1; simp at h1; omega
    generalize riseBy id k.1 = l at *
    clear HR0 HB0 C1 C2 RK HX1 HXL HQ hZ hb01 HB01
    obtain ⟨ya, yn, yc, rfl⟩ := own_slice hoA
    rcases owned_cases hoZ.own with ⟨rfl, h0⟩ | ⟨g, cap, rfl⟩
    · obtain rfl : Z = [] := List.eq_nil_of_length_eq_zero h0
      obtain ⟨d0, d1⟩ := key_cells hB
      obtain ⟨r0, r1⟩ := key_cells hR
      have f0 := cells_frozen 0 hR
      have f1 := cells_frozen 1 hR
      have HRr := Lib.hid hR
      have HOA := Lib.hid hoA
      have HBB := Lib.hid hb
      clear hB hR hoA hoZ hb
      go_wp2_with fail
      refine wp_loop_rounds 1 ?_
      rw [rounds_succ]
      go_wp2_with fail
      have e1 := cells_set (k := 1) (cells_set (k := 0) HRr.out (.slice ya yn yc)) (.slice none 0 0)
      refine bodyPost_ret (results_cell_row rfl _ _ (w.heap.size + 1) 41 _ (0, 0) _ rfl e1 Try.underlying41 rfl keySize) rfl ?_
      refine ⟨_, _, rfl, ?_, ?_, ((hbw.trans (HBB.out.mono hbw.size)).setCell (by simp) _).setCell (by simp) _⟩
      · rw [HE.out]
        exact ownsRow_base (own_setLow (own_setLow HOA.out (by omega) _) (by omega) _) hbw.size
      · rw [HE.out]
        exact ExtO.nil _ _
    · have HP0 := Lib.hid (show PutZ W1 wc B g cap (.slice ya yn yc) l Z [] from ⟨hB, hoA, hoZ.own, rfl, fun z hz => (nomatch hz), hb⟩)
      have HRr := Lib.hid hR
      have HRW := Lib.hid hoZ.row
      obtain ⟨d0, d1⟩ := key_cells hB
      clear hB hR hoA hoZ hb
      go_wp2_with fail
      clear d0 d1
      go_loopw [16] (fun i wr => ∃ D : List ZE, D.length ≤ Z.length ∧ i = .int .i64 (D.length : Int) ∧ Hid (PutZ W1 wr B g cap (.slice ya yn yc) l Z D) ∧ Hid (wr.heap[w.heap.size + 1]? = some (.cells #[.slice none 0 0, .slice none 0 0] 41 (0, 0)))) (fun i _ => Z.length - (intOf i).toNat)
      case atStart => exact ⟨[], Nat.zero_le _, rfl, HP0, HRr⟩
      case round =>
        obtain ⟨D, hk, rfl, HP, HRr⟩ := hrel
        by_cases hlt : D.length < Z.length
        · have hki : (D.length : Int) < (Z.length : Int) := by omega
          have hk0 : (0 : Int) ≤ (D.length : Int) := by omega
          obtain ⟨z, hz⟩ : ∃ z, Z[D.length]? = some z := ⟨_, List.getElem?_eq_getElem hlt⟩
          have hat : (D ++ Z.drop D.length)[D.length]? = some z := by
            rw [List.getElem?_append_right (Nat.le_refl _), Nat.sub_self, List.getElem?_drop, Nat.add_zero]
            exact hz
          have c1 := HP.out.own.cells rfl (D.length * 2) (.string z.1.1) (by rw [zcells_at, show D.length * 2 / 2 = D.length by omega, show D.length * 2 % 2 = 0 by omega, hat]; rfl)
          have c2 := HP.out.own.cells rfl (D.length * 2 + 1) (slc z.2) (by rw [zcells_at, show (D.length * 2 + 1) / 2 = D.length by omega, show (D.length * 2 + 1) % 2 = 1 by omega, hat]; rfl)
          rw [Addr.add_lit, Nat.zero_add] at c1 c2
          have HTW := Lib.hid (fun w5 (hb : Below W1.heap.size W1 w5) => told_own (slc z.2) z.1.2 w5 ((HRW.out z (List.mem_of_getElem? hz)).below hb) (HXZ.out z (List.mem_of_getElem? hz)))
          have HZK := Lib.hid hz
          have HPk := Lib.hid (fun (wr : World) (h : PutZ W1 wr B g cap (.slice ya yn yc) l Z D) t ht => h.put hz (t := t) ht)
          obtain ⟨⟨key, subs⟩, ta, tn, tc⟩ := z
          simp only [slc] at c2 HTW
          dsimp only at c1 HTW HPk
          clear hz hat
          go_upto_region 5 with fail
          obtain ⟨W3, hW3⟩ : ∃ W3, wr.alloc (.cells #[.string key, .slice ta tn tc] 53) = W3 := ⟨_, rfl⟩
          have hE3 : W3.heap[wr.heap.size]? = some (.cells #[.string key, .slice ta tn tc] 53 (0, 0)) := by rw [← hW3]; exact World.alloc_heap_new wr _
          have HP3 := Lib.hid (by have := HP.out.alloc (.cells #[.string key, .slice ta tn tc] 53); rw [hW3] at this; exact this : PutZ W1 W3 B g cap (.slice ya yn yc) l Z D)
          have HR3 := Lib.hid (by rw [← hW3]; exact (Below.heap_alloc _ _ _ (lt_of_heap HRr.out)).trans HRr.out : W3.heap[w.heap.size + 1]? = some (.cells #[.slice none 0 0, .slice none 0 0] 41 (0, 0)))
          have HG := Lib.hid HP.out.own
          rw [hW3]
          clear hW3 c1 c2 HP HRr
          have HE3 := Lib.hid hE3
          have e1 : W3.drew.cell? ⟨wr.heap.size, 1, none⟩ = some (.slice ta tn tc) := cell_row2 1 hE3 rfl
          have b1 : W3.drew.cell? ⟨B, 1, none⟩ = some (.slice (some ⟨g, 0, none⟩) Z.length cap) := cell_row2 1 HP3.out.blk rfl
          have TW := Lib.hid (HTW.out W3.drew (HP3.out.bel.drew))
          clear hE3 HTW
          go_region_held3 (fun w' => w'.cell? ⟨B, 1, none⟩ = some (.slice (some ⟨g, 0, none⟩) Z.length cap) ∧ w'.cell? ⟨wr.heap.size, 1, none⟩ = some (.slice ta tn tc))
            (first | exact ⟨by assumption, by assumption⟩ | exact ⟨b2 _, e2 _⟩)
            (first
              | (go_at_call 62; (with_reducible refine TW.out.mono ?_); rintro e w5 ⟨u', rfl, ho5, hb5⟩; have hb5 : Below W3.heap.size W3 w5 := (Below.drew (Below.refl _ _) : Below W3.heap.size W3 W3.drew).trans hb5; have hP5 := HP3.out.below hb5; have b1 := cell_row2 1 hP5.blk rfl; have e1 := cell_row2 1 ((hb5.block _ (lt_of_heap HE3.out)).trans HE3.out) rfl; have s1 := hP5.own.cellAt (D.length * 2 + 1) (by omega); rw [List.getElem?_eq_getElem (by rw [zcells_len, List.length_append, List.length_drop]; omega)] at s1; have s2 := hP5.own.frozenAt (D.length * 2 + 1); obtain ⟨ua, un, uc, rfl⟩ := own_slice ho5; have hBg : B ≠ g := (fun e => own_not_ty hP5.own hP5.blk (by decide) (by rw [e]; rfl)); have hEg : wr.heap.size ≠ g := (by have := (HG.out.lt g rfl).2; omega); have b2 := (fun u => (World.cell?_of_block (a := ⟨B, 1, none⟩) (Below.heap_setCell w5 ⟨g, D.length * 2 + 1, none⟩ u _ hBg)).trans b1); have e2 := (fun u => (World.cell?_of_block (a := ⟨wr.heap.size, 1, none⟩) (Below.heap_setCell w5 ⟨g, D.length * 2 + 1, none⟩ u _ hEg)).trans e1); have HP5 := Lib.hid hP5; have HO5 := Lib.hid (ownsRow_base ho5 (show W1.heap.size ≤ W3.drew.heap.size from HP3.out.bel.size)); have HR5 := Lib.hid ((hb5.block _ (lt_of_heap HR3.out)).trans HR3.out); clear hP5 ho5 hb5))
          go_wp2_with fail
          go_roundw
          case rel =>
            refine ⟨D ++ [((key, toldL subs), (ua, un, uc))], by simp; omega, by rw [List.length_append]; go_num, Lib.hid (HPk.out _ HP5.out (ua, un, uc) HO5.out), Lib.hid ?_⟩
            have hgR : w.heap.size + 1 ≠ g := by have := (HP5.out.own.lt g rfl).1; omega
            exact (Below.heap_setCell _ _ _ _ hgR).trans HR5.out
          case measure => simp [intOf]; omega
        · have hDZ : D.length = Z.length := by omega
          have hki : ¬ (Z.length : Int) < (Z.length : Int) := by omega
          rw [hDZ]
          obtain ⟨d0, d1⟩ := key_cells HP.out.blk
          obtain ⟨r0, r1⟩ := key_cells HRr.out
          have f0 := cells_frozen 0 HRr.out
          have f1 := cells_frozen 1 HRr.out
          go_wp2_with fail
          have e1 := cells_set (k := 1) (cells_set (k := 0) HRr.out (.slice ya yn yc)) (.slice (some ⟨g, 0, none⟩) Z.length cap)
          refine bodyPost_ret (results_cell_row rfl _ _ (w.heap.size + 1) 41 _ (0, 0) _ rfl e1 Try.underlying41 rfl keySize) rfl ?_
          have hDm : D.map (·.1) = (Z.map (·.1)).map toldX := by
            rw [HP.out.new, hDZ, List.take_of_length_le (Nat.le_refl _), List.map_map]
            rfl
          have low : ∀ {e : TypeId} {sz n : Nat} {u : Value} {xs : List Value}, wr.ownsRow W1.heap.size e sz u n xs → ((wr.setCell ⟨w.heap.size + 1, 0, none⟩ (.slice ya yn yc)).setCell ⟨w.heap.size + 1, 1, none⟩ (.slice (some ⟨g, 0, none⟩) Z.length cap)).ownsRow w.heap.size e sz u n xs :=
            fun h => ownsRow_base (own_setLow (own_setLow h (by omega) _) (by omega) _) hbw.size
          refine ⟨_, _, rfl, ?_, ?_, ((hbw.trans (HP.out.bel.mono hbw.size)).setCell (by simp) _).setCell (by simp) _⟩
          · rw [HE.out]
            exact low HP.out.att
          · rw [HE.out, ← hDm]
            refine ⟨D.map fun z => slc z.2, by simp, ?_, fun i u x hu hx => ?_⟩
            · have h := low HP.out.own
              rw [hDZ, List.drop_of_length_le (Nat.le_refl _), List.append_nil, zcells_ext] at h
              rw [List.length_map, hDZ]
              exact h
            · rw [List.getElem?_map] at hu hx
              cases hz : D[i]? with
              | none => rw [hz] at hu; cases hu
              | some z =>
                rw [hz] at hu hx
                simp at hu hx
                subst hu hx
                exact low (HP.out.row z (List.mem_of_getElem? hz))
end Go.Proofs.Ytgdcdijdpflmdaa
