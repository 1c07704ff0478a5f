/-
  keyword.clone (written by wip/gen_kclone.py).
-/
import Derived.Test.YtgdcdijdpflmdaaUZ
import Derived.Test.YtgdcdijdpflmdaaUPlace
namespace Go.Proofs.Ytgdcdijdpflmdaa
open Go Go.RowKit
/-- Extensions of one's own, each with a row of its own. -/
def ExtD (W : World) (base : Nat) (v : Value) (K : KX) : Prop := ∃ D : List ZE, D.map (·.1) = K ∧ W.ownsRow base 53 2 v K.length (zcells D) ∧ ∀ z ∈ D, W.ownsRow base 9 1 (slc z.2) z.1.2.length (strs z.1.2)
/-- Extensions copied so far. -/
structure PutC (w wr : World) (B g cap : Nat) (va : Value) (l : List ByteArray) (Z D : List ZE) : Prop where
  blk : wr.heap[B]? = some (.cells #[va, .slice (some ⟨g, 0, none⟩) Z.length cap] 41 (0, 0))
  att : wr.ownsRow w.heap.size 9 1 va l.length (strs l)
  own : wr.ownsRow w.heap.size 53 2 (.slice (some ⟨g, 0, none⟩) Z.length cap) Z.length (zcells (D ++ Z.drop D.length))
  new : D.map (·.1) = (Z.take D.length).map (·.1)
  row : ∀ z ∈ D, wr.ownsRow w.heap.size 9 1 (slc z.2) z.1.2.length (strs z.1.2)
  bel : Below w.heap.size w wr
theorem PutC.alloc {w wr : World} {B g cap : Nat} {va : Value} {l : List ByteArray} {Z D : List ZE} (h : PutC w wr B g cap va l Z D) (o : Obj) : PutC w (wr.alloc o) B g cap va l Z D :=
  ⟨(Below.heap_alloc _ _ _ (lt_of_heap h.blk)).trans h.blk, h.att.alloc o, h.own.alloc o, h.new, fun z hz => (h.row z hz).alloc o, h.bel.alloc h.bel.size o⟩
theorem PutC.below {w wr w' : World} {B g cap : Nat} {va : Value} {l : List ByteArray} {Z D : List ZE} (h : PutC w wr B g cap va l Z D) (hb : Below wr.heap.size wr w') : PutC w w' B g cap va l Z D :=
  ⟨(hb.block _ (lt_of_heap h.blk)).trans h.blk, ownsRow_belowF h.att hb, ownsRow_belowF h.own hb, h.new, fun z hz => ownsRow_belowF (h.row z hz) hb, h.bel.trans (hb.mono h.bel.size)⟩
theorem PutC.put {w wr : World} {B g cap : Nat} {va : Value} {l : List ByteArray} {Z D : List ZE} (h : PutC w wr B g cap va l Z D) {z : ZE} (hz : Z[D.length]? = some z) {t : Option Addr × Nat × Nat} (ht : wr.ownsRow w.heap.size 9 1 (slc t) (z.1.2).length (strs (z.1.2))) :
    PutC w (wr.setCell ⟨g, D.length * 2 + 1, none⟩ (slc t)) B g cap va l Z (D ++ [(z.1, t)]) := by
  have hgB : B ≠ g := fun e => own_not_ty h.own h.blk (by decide) (by rw [e]; rfl)
  have hl : D.length < Z.length := (List.getElem?_eq_some_iff.1 hz).1
  have st := h.own.stored (D.length * 2 + 1) (slc t)
  have hd : Z.drop D.length = z :: Z.drop (D.length + 1) := by
    rw [List.drop_eq_getElem_cons hl]
    congr 1
    rw [List.getElem?_eq_getElem hl] at hz
    exact Option.some.inj hz
  have kept : ∀ (u : Value) (n : Nat) (xs : List Value), wr.ownsRow w.heap.size 9 1 u n xs → (wr.setCell ⟨g, D.length * 2 + 1, none⟩ (slc t)).ownsRow w.heap.size 9 1 u n xs := fun u n xs ho => ho.kept st.2 (by
    have := own_types_ne ho h.own (by decide)
    simpa [Value.ownBlock] using this)
  refine ⟨(Below.heap_setCell _ _ _ _ hgB).trans h.blk, kept _ _ _ h.att, ?_, ?_, fun y hy => ?_, h.bel.setCell (h.own.lt g rfl).1 _⟩
  · have s1 := st.1
    rw [hd, zcells_set] at s1
    rw [List.length_append, List.length_singleton]
    exact s1
  · rw [List.map_append, List.length_append, List.length_singleton, take_next hz, List.map_append, h.new]
    rfl
  · rcases List.mem_append.1 hy with hy | hy
    · exact kept _ _ _ (h.row y hy)
    · obtain rfl := List.mem_singleton.1 hy
      exact kept _ _ _ ht
set_option maxRecDepth 100000 in
set_option maxHeartbeats 4000000 in
theorem clone_kw (v : Value) (k : List ByteArray × KX) (w : World) (hv : KeyU w v k) (hA : k.1.length ≤ 100) (hK : k.2.length ≤ 100) (hx : ∀ x ∈ k.2, x.2.length ≤ 1000) :
    Calls Try.prog 91 #[v] w fun e w' => ∃ va vk, e = .returned (.agg #[va, vk]) ∧ w'.ownsRow w.heap.size 9 1 va k.1.length (strs k.1) ∧ ExtD w' w.heap.size vk k.2 ∧ Below w.heap.size w w' := by
  obtain ⟨x0, xii, xz0, xz1, xz2⟩ := info_parts extInfoM
  obtain ⟨va, vk, rfl, rA, rK⟩ := hv
  obtain ⟨W0, hW0⟩ : ∃ W0, (w.alloc (.cells #[va, vk] 41)).alloc (.cells #[.slice none 0 0, .slice none 0 0] 41) = W0 := ⟨_, rfl⟩
  have hb0 : Below w.heap.size w W0 := by rw [← hW0]; exact ((Below.refl _ w).alloc (Nat.le_refl _) _).alloc (by simp) _
  have hz0 : W0.heap.size = w.heap.size + 2 := by rw [← hW0]; simp
  have hA0 : W0.heap[w.heap.size]? = some (.cells #[va, vk] 41 (0, 0)) := by rw [← hW0]; exact (Below.heap_alloc _ _ _ (by simp)).trans (World.alloc_heap_new w _)
  have hR0 : W0.heap[w.heap.size + 1]? = some (.cells #[.slice none 0 0, .slice none 0 0] 41 (0, 0)) := by rw [← hW0]; exact heap_alloc2_new w _ _
  have C1 := Lib.hid (fun w5 (hb : Below W0.heap.size W0 w5) => copied_own va k.1 w5 ((rA.below hb0).below hb) (by omega))
  have RK := rK.below hb0
  have HQ := Lib.hid (fun w5 (hb : Below W0.heap.size W0 w5) => key_cells ((hb.block w.heap.size (by omega)).trans hA0))
  obtain ⟨a1, p1, rfl, -⟩ := rA
  obtain ⟨a2, p2, rfl, -⟩ := rK
  obtain ⟨-, Z, hZ, hZr, hZn, hZc⟩ := RK.z
  have HZL := Lib.hid (show Z.length = k.2.length by rw [← hZ, List.length_map])
  have HZ := Lib.hid hz0
  have HB0 := Lib.hid hb0
  have HR0 := Lib.hid hR0
  have HA0 := Lib.hid hA0
  have HXL := Lib.hid hx
  have HZE := Lib.hid hZ
  clear hz0 hb0 hR0 hA0 hx hZ RK
  obtain ⟨W1, hW1⟩ : ∃ W1, W0.drew = W1 := ⟨_, rfl⟩
  have hb1 : Below W0.heap.size W0 W1 := by rw [← hW1]; exact Below.drew (Below.refl _ _)
  have hs1 : W1.heap.size = W0.heap.size := by rw [← hW1]; rfl
  have HH := Lib.hid (fun wr (hb : Below W1.heap.size W1 wr) => HQ.out wr (hb1.trans (hb.mono (by omega))))
  have C1 := Lib.hid (fun wr (hb : Below W1.heap.size W1 wr) => C1.out wr (hb1.trans (hb.mono (by omega))))
  have NZ := Lib.hid (fun wr (hb : Below W1.heap.size W1 wr) => show (a2 = none → List.length k.2 = 0) ∧ ∀ ad, a2 = some ad → ∀ j u, (zcells Z)[j]? = some u → wr.cell? (ad.add j) = some u from ⟨hZn, fun ad had j u hu => by
    have h0 := hZc ad had j u hu
    exact ((hb1.trans (hb.mono (by omega))).cell (World.block_lt_of_cell? _ _ h0)).trans h0⟩)
  have ZR := Lib.hid (fun z hz => (hZr z hz).below hb1)
  have HB01 := Lib.hid hb1
  clear hb1 hs1 hZn hZc hZr
  go_enter Try.func91, Try.ntmps91
  go_upto_region 1 with fail
  clear hW0
  go_cut [3] from 6 to 12 (fun u wx => ∃ B va' vk', u = .pointer (some ⟨B, 0, none⟩) ∧ wx.heap[B]? = some (.cells #[va', vk'] 41 (0, 0)) ∧ W1.heap.size ≤ B ∧ wx.ownsRow W1.heap.size 9 1 va' k.1.length (strs k.1) ∧ wx.ownsRow W1.heap.size 53 2 vk' Z.length (zcells Z) ∧ Below W1.heap.size W1 wx)
  case first =>
    rename_i J1 K1 hJ1 hK1
    refine wp_region_any (by kernel_rfl) ?_
    change wpAny _ _ _ _ _ _ _ (World.drew _)
    rw [hW1]
    clear hW1
    refine wp_region_free (n := 31) (z := 8) none (V := fun j v w' => match j with
      | 0 => v = .pointer (some ⟨w.heap.size, 0, none⟩)
      | 1 => v = .slice a1 k.1.length p1
      | 2 => w'.ownsRow W1.heap.size 9 1 v k.1.length (strs k.1)
      | 3 => v = .pointer (some ⟨w.heap.size, 1, none⟩)
      | 4 => v = .slice a2 (List.length k.2) p2
      | 5 => w'.ownsRow W1.heap.size 53 2 v Z.length (zcells Z)
      | 6 => ∃ x y, v = .agg #[x, y] ∧ w'.ownsRow W1.heap.size 9 1 x k.1.length (strs k.1) ∧ w'.ownsRow W1.heap.size 53 2 y Z.length (zcells Z)
      | 7 => ∃ B, v = .pointer (some ⟨B, 0, none⟩) ∧ W1.heap.size ≤ B ∧ w'.heap[B]? = some (.cells #[.slice none 0 0, .slice none 0 0] 41 (0, 0))
      | _ => True)
      (blk := fun _ _ => none) (by kernel_rfl) (Nat.le_refl _) 24 (fun _ => false) (by kernel_rfl) ?_ (fun _ _ _ _ h => by cases h) ?_ ?_
    case refine_1 =>
      intro j v wa wb hv hb
      have hb := belowF_of hb
      match j with
      | 0 => exact hv
      | 1 => exact hv
      | 2 => exact (ownsRow_belowF hv hb)
      | 3 => exact hv
      | 4 => exact hv
      | 5 => exact (ownsRow_belowF hv hb)
      | 6 => obtain ⟨x, y, h0, h1, h2⟩ := hv; exact ⟨x, y, h0, (have hv := h1; ownsRow_belowF hv hb), (have hv := h2; ownsRow_belowF hv hb)⟩
      | 7 => obtain ⟨B, h0, h1, h2⟩ := hv; exact ⟨B, h0, h1, (hb.block _ (lt_of_heap h2)).trans h2⟩
      | n + 8 => trivial
    case refine_2 =>
      intro i hi vals a wr hB _ hV hD hE hO K hK
      have hB := belowF_of hB
      obtain ⟨d0, d1⟩ := HH.out _ hB
      have hOl := Lib.hid hO
      have hEl := Lib.hid hE
      have hVl := Lib.hid hV
      have hKl := Lib.hid hK
      clear hO hE hV hD hK HH
      match i, hi with
      | 0, _ =>
        have e0 : a.tmps.getD 1 undef = .pointer (some ⟨w.heap.size, 0, none⟩) := hOl.out 1 (by kernel_rfl)
        refine wpOp_step rfl ?_
        intro K' hK'
        go_simp
        exact hK' _ _ (hKl.out _ _ (fun _ => World.grownBy.refl _ _) (fun h => absurd h (by decide)) (fun _ => rfl) rfl (fun g hg => by cases hg))
      | 1, _ =>
        have e0 : a.tmps.getD 6 undef = .pointer (some ⟨w.heap.size, 0, none⟩) := (hEl.out 0 6 (by kernel_rfl) rfl).trans (hVl.out 0 (by kernel_rfl) (fun h => by cases h))
        refine wpOp_step rfl ?_
        intro K' hK'
        go_simp
        exact hK' _ _ (hKl.out _ _ (fun _ => World.grownBy.refl _ _) (fun h => absurd h (by decide)) (fun _ => rfl) rfl (fun g hg => by cases hg))
      | 2, _ =>
        have e0 : a.tmps.getD 7 undef = .slice a1 k.1.length p1 := (hEl.out 1 7 (by kernel_rfl) rfl).trans (hVl.out 1 (by kernel_rfl) (fun h => by cases h))
        refine wpOp_step rfl ?_
        intro K' hK'
        go_simp
        go_at_call 57; (with_reducible refine (C1.out _ hB).mono ?_); rintro e w' ⟨u, rfl, ho, hb⟩
        go_simp
        exact hK' _ _ (hKl.out _ _ (fun _ => grownF_of hb) (fun h => absurd h (by decide)) (fun h => by cases h) (ownsRow_base ho hB.size) (fun g hg => by cases hg))
      | 3, _ =>
        have e0 : a.tmps.getD 1 undef = .pointer (some ⟨w.heap.size, 0, none⟩) := hOl.out 1 (by kernel_rfl)
        refine wpOp_step rfl ?_
        intro K' hK'
        go_simp
        exact hK' _ _ (hKl.out _ _ (fun _ => World.grownBy.refl _ _) (fun h => absurd h (by decide)) (fun _ => rfl) rfl (fun g hg => by cases hg))
      | 4, _ =>
        have e0 : a.tmps.getD 9 undef = .pointer (some ⟨w.heap.size, 1, none⟩) := (hEl.out 3 9 (by kernel_rfl) rfl).trans (hVl.out 3 (by kernel_rfl) (fun h => by cases h))
        refine wpOp_step rfl ?_
        intro K' hK'
        go_simp
        exact hK' _ _ (hKl.out _ _ (fun _ => World.grownBy.refl _ _) (fun h => absurd h (by decide)) (fun _ => rfl) rfl (fun g hg => by cases hg))
      | 5, _ =>
        have e0 : a.tmps.getD 10 undef = .slice a2 (List.length k.2) p2 := (hEl.out 4 10 (by kernel_rfl) rfl).trans (hVl.out 4 (by kernel_rfl) (fun h => by cases h))
        refine wpOp_step rfl ?_
        intro K' hK'
        refine step_append_any _ (by rfl) (.const (.slice none 0 0)) (.tmp 10) 27 (by rfl) W1.heap.size 53 x0 (.agg #[.string ByteArray.empty, .slice none 0 0]) 2 40 Try.underlying27 xii xz0 xz1 xz2 (by rfl) (by decide) (.slice none 0 0) 0 [] (by rfl) (World.ownsRow_nil _ _ _ _) a2 (List.length k.2) p2 (zcells Z) e0 (by rw [zcells_len, HZL.out]) (NZ.out _ hB).1 (NZ.out _ hB).2 zcells_one (by unfold maxLen; omega) (by omega) hB.size ?_
        intro v' w' h1 h2
        rw [List.nil_append, Nat.zero_add, ← HZL.out] at h1
        exact hK' _ _ (hKl.out _ _ (fun _ => h2) (fun h => absurd h (by decide)) (fun h => by cases h) h1 (fun g hg => by cases hg))
      | 6, _ =>
        have h2 := hVl.out 2 (by kernel_rfl) (fun h => by cases h)
        have h5 := hVl.out 5 (by kernel_rfl) (fun h => by cases h)
        obtain ⟨ao0, no0, co0, vo0⟩ := own_slice h2
        have e0 : a.tmps.getD 8 undef = .slice ao0 no0 co0 := (hEl.out 2 8 (by kernel_rfl) rfl).trans vo0
        obtain ⟨ao1, no1, co1, vo1⟩ := own_slice h5
        have e1 : a.tmps.getD 11 undef = .slice ao1 no1 co1 := (hEl.out 5 11 (by kernel_rfl) rfl).trans vo1
        rw [Array.getD_eq_getD_getElem?] at e0 e1
        refine wpOp_step rfl ?_
        intro K' hK'
        go_simp
        exact hK' _ _ (hKl.out _ _ (fun _ => World.grownBy.refl _ _) (fun h => absurd h (by decide)) (fun _ => rfl) ⟨vals 2, vals 5, (by rw [vo0, vo1]), h2, h5⟩ (fun g hg => by cases hg))
      | 7, _ =>
        refine wpOp_step rfl ?_
        intro K' hK'
        go_simp
        exact hK' _ _ (hKl.out _ _ (fun _ => World.grownBy_alloc _ _ _) (fun h => absurd h (by decide)) (fun h => by cases h) ⟨_, rfl, hB.size, World.alloc_heap_new _ _⟩ (fun g hg => by cases hg))
      | n + 8, h => exact absurd h (by omega)
    case refine_3 =>
      intro vals wr hB hV hD hL K hK
      have hB := belowF_of hB
      obtain ⟨B, hv7, hB7, hh7⟩ := hV 7 (by omega) (fun h => absurd h (by decide))
      obtain ⟨x, y, hv6, hx, hy⟩ := hV 6 (by omega) (fun h => absurd h (by decide))
      have hKl := Lib.hid hK
      generalize hput : putL _ vals _ _ _ = aa
      obtain rfl : aa = ⟨#[.agg #[.slice a1 k.1.length p1, .slice a2 (List.length k.2) p2], .pointer (some ⟨w.heap.size, 0, none⟩), .pointer (some ⟨w.heap.size + 1, 0, none⟩), .pointer (some ⟨B, 0, none⟩), undef, undef, vals 0, vals 1, vals 2, vals 3, vals 4, vals 5, .agg #[x, y], undef, undef, undef, undef, undef, undef, undef, undef, undef, undef, undef, undef, undef, undef, undef, undef, undef, undef], []⟩ := by rw [← hv6, ← hv7, ← hput]; kernel_rfl
      clear hV hD hL hK HH hput
      obtain ⟨xa, xn, xc, rfl⟩ := own_slice hx
      obtain ⟨ya, yn, yc, rfl⟩ := own_slice hy
      have HX := Lib.hid hx
      have HY := Lib.hid hy
      clear hx hy
      obtain ⟨d0, d1⟩ := key_cells hh7
      have f0 := cells_frozen 0 hh7
      have f1 := cells_frozen 1 hh7
      refine wpOp_step rfl ?_
      intro K' hK'
      go_simp
      refine hK' _ _ (hKl.out _ _ (hK1 _ _ (Met.intro (hJ1 _ _ ?_))))
      have hw1 := cells_set (k := 1) (cells_set (k := 0) hh7 (.slice xa xn xc)) (.slice ya yn yc)
      have hg := grown_setF (grown_setF (World.grownBy.refl wr (some B)) 0 (.slice xa xn xc)) 1 (.slice ya yn yc)
      have nx := own_not_ty HX.out hh7 (by decide)
      have ny := own_not_ty HY.out hh7 (by decide)
      (repeat apply Exists.intro)
      refine ⟨?rel, rfl⟩
      case rel =>
        exact ⟨B, _, _, rfl, hw1, hB7, HX.out.kept hg (.inr nx), HY.out.kept hg (.inr ny), hB.grown hg hB.size (fun k hk => by cases hk; exact hB7)⟩
  case rest =>
    obtain ⟨B, va', vk', rfl, hB, hBl, hoA, hoZ, hb⟩ := hcut
    clear hW1 HA0 HH
    have hb01 : Below W0.heap.size W0 W1 := HB01.out
    have hR : wc.heap[w.heap.size + 1]? = some (.cells #[.slice none 0 0, .slice none 0 0] 41 (0, 0)) := (hb.block _ (by have := hb01.size; have := HZ.out; omega)).trans ((hb01.block _ (by have := HZ.out; omega)).trans HR0.out)
    have hzw : w.heap.size + 2 ≤ W1.heap.size := by have := hb01.size; have := HZ.out; omega
    have hbw : Below w.heap.size w W1 := HB0.out.trans (hb01.mono HB0.out.size)
    have HXZ := Lib.hid (show ∀ z ∈ Z, z.1.2.length ≤ 1000 from fun z hz => HXL.out _ (by rw [← HZE.out]; exact List.mem_map_of_mem hz))
    have hZl : Z.length ≤ 100 := by rw [HZL.out]; exact hK
    have HKL := Lib.hid (show ∀ D : List ZE, D.map (·.1) = Z.map (·.1) → D.map (·.1) = k.2 from fun D h => by rw [h, HZE.out])
    have HKN := Lib.hid HZL.out.symm
    clear HR0 HB0 C1 NZ HXL HQ hb01 HB01
    obtain ⟨ya, yn, yc, rfl⟩ := own_slice hoA
    rcases owned_cases hoZ with ⟨rfl, h0⟩ | ⟨g, cap, rfl⟩
    · obtain rfl : Z = [] := List.eq_nil_of_length_eq_zero h0
      obtain ⟨d0, d1⟩ := key_cells hB
      obtain ⟨r0, r1⟩ := key_cells hR
      have f0 := cells_frozen 0 hR
      have f1 := cells_frozen 1 hR
      have HRr := Lib.hid hR
      have HOA := Lib.hid hoA
      have HBB := Lib.hid hb
      clear hB hR hoA hoZ hb
      go_wp2_with fail
      refine wp_loop_rounds 1 ?_
      rw [rounds_succ]
      go_wp2_with fail
      have e1 := cells_set (k := 1) (cells_set (k := 0) HRr.out (.slice ya yn yc)) (.slice none 0 0)
      refine bodyPost_ret (results_cell_row rfl _ _ (w.heap.size + 1) 41 _ (0, 0) _ rfl e1 Try.underlying41 rfl keySize) rfl ?_
      refine ⟨_, _, rfl, ?_, ⟨[], HKL.out [] rfl, ?_, fun z hz => (nomatch hz)⟩, ((hbw.trans (HBB.out.mono hbw.size)).setCell (by simp) _).setCell (by simp) _⟩
      · exact ownsRow_base (own_setLow (own_setLow HOA.out (by omega) _) (by omega) _) hbw.size
      · rw [HKN.out]
        exact World.ownsRow_nil _ _ _ _
    · have HP0 := Lib.hid (show PutC W1 wc B g cap (.slice ya yn yc) k.1 Z [] from ⟨hB, hoA, hoZ, rfl, fun z hz => (nomatch hz), hb⟩)
      have HRr := Lib.hid hR
      have HRW := ZR
      obtain ⟨d0, d1⟩ := key_cells hB
      clear hB hR hoA hoZ hb
      go_wp2_with fail
      clear d0 d1
      go_loopw [16] (fun i wr => ∃ D : List ZE, D.length ≤ Z.length ∧ i = .int .i64 (D.length : Int) ∧ Hid (PutC W1 wr B g cap (.slice ya yn yc) k.1 Z D) ∧ Hid (wr.heap[w.heap.size + 1]? = some (.cells #[.slice none 0 0, .slice none 0 0] 41 (0, 0)))) (fun i _ => Z.length - (intOf i).toNat)
      case atStart => exact ⟨[], Nat.zero_le _, rfl, HP0, HRr⟩
      case round =>
        obtain ⟨D, hk, rfl, HP, HRr⟩ := hrel
        by_cases hlt : D.length < Z.length
        · have hki : (D.length : Int) < (Z.length : Int) := by omega
          have hk0 : (0 : Int) ≤ (D.length : Int) := by omega
          obtain ⟨z, hz⟩ : ∃ z, Z[D.length]? = some z := ⟨_, List.getElem?_eq_getElem hlt⟩
          have hat : (D ++ Z.drop D.length)[D.length]? = some z := by
            rw [List.getElem?_append_right (Nat.le_refl _), Nat.sub_self, List.getElem?_drop, Nat.add_zero]
            exact hz
          have c1 := HP.out.own.cells rfl (D.length * 2) (.string z.1.1) (by rw [zcells_at, show D.length * 2 / 2 = D.length by omega, show D.length * 2 % 2 = 0 by omega, hat]; rfl)
          have c2 := HP.out.own.cells rfl (D.length * 2 + 1) (slc z.2) (by rw [zcells_at, show (D.length * 2 + 1) / 2 = D.length by omega, show (D.length * 2 + 1) % 2 = 1 by omega, hat]; rfl)
          rw [Addr.add_lit, Nat.zero_add] at c1 c2
          have HTW := Lib.hid (fun w5 (hb : Below W1.heap.size W1 w5) => copied_own (slc z.2) z.1.2 w5 ((HRW.out z (List.mem_of_getElem? hz)).below hb) (Nat.le_trans (HXZ.out z (List.mem_of_getElem? hz)) (by decide)))
          have HZK := Lib.hid hz
          have HPk := Lib.hid (fun (wr : World) (h : PutC W1 wr B g cap (.slice ya yn yc) k.1 Z D) t ht => h.put hz (t := t) ht)
          obtain ⟨⟨key, subs⟩, ta, tn, tc⟩ := z
          simp only [slc] at c2 HTW
          dsimp only at c1 HTW HPk
          clear hz hat
          go_upto_region 5 with fail
          obtain ⟨W3, hW3⟩ : ∃ W3, wr.alloc (.cells #[.string key, .slice ta tn tc] 53) = W3 := ⟨_, rfl⟩
          have hE3 : W3.heap[wr.heap.size]? = some (.cells #[.string key, .slice ta tn tc] 53 (0, 0)) := by rw [← hW3]; exact World.alloc_heap_new wr _
          have HP3 := Lib.hid (by have := HP.out.alloc (.cells #[.string key, .slice ta tn tc] 53); rw [hW3] at this; exact this : PutC W1 W3 B g cap (.slice ya yn yc) k.1 Z D)
          have HR3 := Lib.hid (by rw [← hW3]; exact (Below.heap_alloc _ _ _ (lt_of_heap HRr.out)).trans HRr.out : W3.heap[w.heap.size + 1]? = some (.cells #[.slice none 0 0, .slice none 0 0] 41 (0, 0)))
          have HG := Lib.hid HP.out.own
          rw [hW3]
          clear hW3 c1 c2 HP HRr
          have HE3 := Lib.hid hE3
          have e1 : W3.drew.cell? ⟨wr.heap.size, 1, none⟩ = some (.slice ta tn tc) := cell_row2 1 hE3 rfl
          have b1 : W3.drew.cell? ⟨B, 1, none⟩ = some (.slice (some ⟨g, 0, none⟩) Z.length cap) := cell_row2 1 HP3.out.blk rfl
          have TW := Lib.hid (HTW.out W3.drew (HP3.out.bel.drew))
          clear hE3 HTW
          go_region_held3 (fun w' => w'.cell? ⟨B, 1, none⟩ = some (.slice (some ⟨g, 0, none⟩) Z.length cap) ∧ w'.cell? ⟨wr.heap.size, 1, none⟩ = some (.slice ta tn tc))
            (first | exact ⟨by assumption, by assumption⟩ | exact ⟨b2 _, e2 _⟩)
            (first
              | (go_at_call 57; (with_reducible refine TW.out.mono ?_); rintro e w5 ⟨u', rfl, ho5, hb5⟩; have hb5 : Below W3.heap.size W3 w5 := (Below.drew (Below.refl _ _) : Below W3.heap.size W3 W3.drew).trans hb5; have hP5 := HP3.out.below hb5; have b1 := cell_row2 1 hP5.blk rfl; have e1 := cell_row2 1 ((hb5.block _ (lt_of_heap HE3.out)).trans HE3.out) rfl; have s1 := hP5.own.cellAt (D.length * 2 + 1) (by omega); rw [List.getElem?_eq_getElem (by rw [zcells_len, List.length_append, List.length_drop]; omega)] at s1; have s2 := hP5.own.frozenAt (D.length * 2 + 1); obtain ⟨ua, un, uc, rfl⟩ := own_slice ho5; have hBg : B ≠ g := (fun e => own_not_ty hP5.own hP5.blk (by decide) (by rw [e]; rfl)); have hEg : wr.heap.size ≠ g := (by have := (HG.out.lt g rfl).2; omega); have b2 := (fun u => (World.cell?_of_block (a := ⟨B, 1, none⟩) (Below.heap_setCell w5 ⟨g, D.length * 2 + 1, none⟩ u _ hBg)).trans b1); have e2 := (fun u => (World.cell?_of_block (a := ⟨wr.heap.size, 1, none⟩) (Below.heap_setCell w5 ⟨g, D.length * 2 + 1, none⟩ u _ hEg)).trans e1); have HP5 := Lib.hid hP5; have HO5 := Lib.hid (ownsRow_base ho5 (show W1.heap.size ≤ W3.drew.heap.size from HP3.out.bel.size)); have HR5 := Lib.hid ((hb5.block _ (lt_of_heap HR3.out)).trans HR3.out); clear hP5 ho5 hb5))
          go_wp2_with fail
          go_roundw
          case rel =>
            refine ⟨D ++ [((key, subs), (ua, un, uc))], by simp; omega, by rw [List.length_append]; go_num, Lib.hid (HPk.out _ HP5.out (ua, un, uc) HO5.out), Lib.hid ?_⟩
            have hgR : w.heap.size + 1 ≠ g := by have := (HP5.out.own.lt g rfl).1; omega
            exact (Below.heap_setCell _ _ _ _ hgR).trans HR5.out
          case measure => simp [intOf]; omega
        · have hDZ : D.length = Z.length := by omega
          have hki : ¬ (Z.length : Int) < (Z.length : Int) := by omega
          rw [hDZ]
          obtain ⟨d0, d1⟩ := key_cells HP.out.blk
          obtain ⟨r0, r1⟩ := key_cells HRr.out
          have f0 := cells_frozen 0 HRr.out
          have f1 := cells_frozen 1 HRr.out
          go_wp2_with fail
          have e1 := cells_set (k := 1) (cells_set (k := 0) HRr.out (.slice ya yn yc)) (.slice (some ⟨g, 0, none⟩) Z.length cap)
          refine bodyPost_ret (results_cell_row rfl _ _ (w.heap.size + 1) 41 _ (0, 0) _ rfl e1 Try.underlying41 rfl keySize) rfl ?_
          have hDm : D.map (·.1) = Z.map (·.1) := by
            rw [HP.out.new, hDZ, List.take_of_length_le (Nat.le_refl _)]
          have low : ∀ {e : TypeId} {sz n : Nat} {u : Value} {xs : List Value}, wr.ownsRow W1.heap.size e sz u n xs → ((wr.setCell ⟨w.heap.size + 1, 0, none⟩ (.slice ya yn yc)).setCell ⟨w.heap.size + 1, 1, none⟩ (.slice (some ⟨g, 0, none⟩) Z.length cap)).ownsRow w.heap.size e sz u n xs :=
            fun h => ownsRow_base (own_setLow (own_setLow h (by omega) _) (by omega) _) hbw.size
          refine ⟨_, _, rfl, low HP.out.att, ⟨D, HKL.out D hDm, ?_, fun z hz => low (HP.out.row z hz)⟩, ((hbw.trans (HP.out.bel.mono hbw.size)).setCell (by simp) _).setCell (by simp) _⟩
          have h := low HP.out.own
          rw [hDZ, List.drop_of_length_le (Nat.le_refl _), List.append_nil] at h
          rw [HKN.out]
          exact h
end Go.Proofs.Ytgdcdijdpflmdaa
