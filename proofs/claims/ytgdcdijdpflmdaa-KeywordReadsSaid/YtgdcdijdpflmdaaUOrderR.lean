/-
  The document's Order.
-/
import Derived.Test.YtgdcdijdpflmdaaUByKey
namespace Go.Proofs.Ytgdcdijdpflmdaa
open Go Go.RowKit

/-- What is ordered by the document: the block of the answer, its rows; what the keys' rows hold lies in an earlier world. -/
structure OrdZ (W0 wx : World) (B : Nat) (va vk : Value) (A : List ByteArray) (Z : List ZE) : Prop where
  blk : wx.heap[B]? = some (.cells #[va, vk] 41 (0, 0))
  att : wx.ownsRow W0.heap.size 9 1 va A.length (strs A)
  own : OwnZ W0 wx W0.heap.size vk Z
  bel : Below W0.heap.size W0 wx
theorem OrdZ.put {W1 wx : World} {B g cap p : Nat} {va : Value} {A : List ByteArray} {Z : List ZE} {z : ZE} {l : List ByteArray} {t : Option Addr × Nat × Nat} (h : OrdZ W1 wx B va (.slice (some ⟨g, 0, none⟩) Z.length cap) A Z) (hz : Z[p]? = some z) (ht : RowU W1 (slc t) l) :
    OrdZ W1 (wx.setCell ⟨g, p * 2 + 1, none⟩ (slc t)) B va (.slice (some ⟨g, 0, none⟩) Z.length cap) A (Z.set p ((z.1.1, l), t)) := by
  have hlt : p < Z.length := (List.getElem?_eq_some_iff.1 hz).1
  have hgB : B ≠ g := fun e => own_not_ty h.own.own h.blk (by decide) (by rw [e]; rfl)
  have st := h.own.own.stored (p * 2 + 1) (slc t)
  have hd : Z = Z.take p ++ z :: Z.drop (p + 1) := by
    have e := (List.take_append_drop p Z).symm
    rw [List.drop_eq_getElem_cons hlt] at e
    rw [List.getElem?_eq_getElem hlt] at hz
    rw [← Option.some.inj hz]
    exact e
  have hset : Z.set p ((z.1.1, l), t) = (Z.take p ++ [((z.1.1, l), t)]) ++ Z.drop (p + 1) := by
    rw [List.set_eq_take_append_cons_drop, if_pos hlt]
    simp
  have hlp : (Z.take p).length = p := by rw [List.length_take]; exact Nat.min_eq_left (Nat.le_of_lt hlt)
  have hzc : (zcells Z).set (p * 2 + 1) (slc t) = zcells (Z.set p ((z.1.1, l), t)) := by
    have e := zcells_set (Z.take p) (Z.drop (p + 1)) z l t
    rw [hlp, ← hd, ← hset] at e
    exact e
  refine ⟨(Below.heap_setCell _ _ _ _ hgB).trans h.blk, h.att.kept st.2 ?_, ⟨?_, fun y hy => ?_⟩, h.bel.setCell (h.own.own.lt g rfl).1 _⟩
  · have := own_types_ne h.att h.own.own (by decide)
    simpa [Value.ownBlock] using this
  · rw [List.length_set, ← hzc]
    exact st.1
  · rcases List.mem_or_eq_of_mem_set hy with hy | rfl
    · exact h.own.row y hy
    · exact ht
theorem OrdZ.agg {W1 wx : World} {B : Nat} {va vk : Value} {A : List ByteArray} {Z : List ZE} (h : OrdZ W1 wx B va vk A Z) : RowU wx va A ∧ ExtU wx vk (Z.map (·.1)) := ⟨RowU.of_own h.att, h.own.ext h.bel⟩
theorem finZ_set {W0 wK : World} {B : Nat} {x y x0 y0 : Value} {A : List ByteArray} {Z : List ZE} (hk : wK.heap[B]? = some (.cells #[x0, y0] 41 (0, 0))) (hA : wK.ownsRow W0.heap.size 9 1 x A.length (strs A)) (hO : OwnZ W0 wK W0.heap.size y Z) (hb : Below W0.heap.size W0 wK) (hl : W0.heap.size ≤ B) : OrdZ W0 ((wK.setCell ⟨B, 0, none⟩ x).setCell ⟨B, 1, none⟩ y) B x y A Z :=
  ⟨cells_set (k := 1) (cells_set (k := 0) hk x) y, own_setOther (own_setOther hA (own_not_ty hA hk (by decide)) _) (own_not_ty hA hk (by decide)) _, ⟨own_setOther (own_setOther hO.own (own_not_ty hO.own hk (by decide)) _) (own_not_ty hO.own hk (by decide)) _, hO.row⟩, (hb.setCell hl _).setCell hl _⟩
theorem finZ_alloc {W0 wK : World} {x y : Value} {A : List ByteArray} {Z : List ZE} (hA : wK.ownsRow W0.heap.size 9 1 x A.length (strs A)) (hO : OwnZ W0 wK W0.heap.size y Z) (hb : Below W0.heap.size W0 wK) : OrdZ W0 (wK.alloc (.cells #[x, y] 41)) wK.heap.size x y A Z :=
  ⟨World.alloc_heap_new wK _, hA.alloc _, ⟨hO.own.alloc _, hO.row⟩, hb.alloc hb.size _⟩
theorem set_self9 {α : Type} {l : List α} {n : Nat} {x : α} (h : l[n]? = some x) : l.set n x = l := by
  obtain ⟨hn, rfl⟩ := List.getElem?_eq_some_iff.1 h
  exact List.set_getElem_self hn
theorem told_at {K : KX} {n : Nat} {x : ByteArray × List ByteArray} (hx : K[n]? = some x) : ((K.take n).map toldX ++ K.drop n).set n (toldX x) = (K.take (n + 1)).map toldX ++ K.drop (n + 1) ∧ ((K.take n).map toldX ++ K.drop n)[n]? = some x := by
  have hn : n < K.length := (List.getElem?_eq_some_iff.1 hx).1
  have hl : ((K.take n).map toldX).length = n := by simp; omega
  constructor
  · rw [List.set_append_right _ _ (by omega), hl, Nat.sub_self, take_next hx, List.map_append, List.append_assoc]
    congr 1
    rw [List.drop_eq_getElem_cons hn]
    rfl
  · rw [List.getElem?_append_right (by omega), hl, Nat.sub_self, List.getElem?_drop]
    exact hx
set_option maxRecDepth 100000 in
set_option maxHeartbeats 4000000 in
theorem orderR_kw (v : Value) (k : List ByteArray × KX) (w : World) (hv : KeyU w v k) (hA : k.1.length ≤ 1000) (hK : k.2.length ≤ 1000) :
    Calls Try.prog 24 #[v] w fun e w' => ∃ u, e = .returned u ∧ KeyU w' u (orderK k) ∧ Below w.heap.size w w' := by
  obtain ⟨va, vk, rfl, rA, rK⟩ := hv
  have rA0 := rA
  have rK0 := rK
  obtain ⟨a1, p1, rfl, -⟩ := rA
  obtain ⟨a2, p2, rfl, -⟩ := rK
  go_enter Try.func24, Try.ntmps24
  go_upto_region 1 with fail
  obtain ⟨W0, hW0⟩ : ∃ W0, (w.alloc (.cells #[.slice a1 k.1.length p1, .slice a2 (List.length k.2) p2] 41)).alloc (.cells #[.slice none 0 0, .slice none 0 0] 41) = W0 := ⟨_, rfl⟩
  have hb0 : Below w.heap.size w W0 := by rw [← hW0]; exact ((Below.refl _ w).alloc (Nat.le_refl _) _).alloc (by simp) _
  have hz0 : W0.heap.size = w.heap.size + 2 := by rw [← hW0]; simp
  have hA0 : W0.heap[w.heap.size]? = some (.cells #[.slice a1 k.1.length p1, .slice a2 (List.length k.2) p2] 41 (0, 0)) := by rw [← hW0]; exact (Below.heap_alloc _ _ _ (by simp)).trans (World.alloc_heap_new w _)
  have hR0 : W0.heap[w.heap.size + 1]? = some (.cells #[.slice none 0 0, .slice none 0 0] 41 (0, 0)) := by rw [← hW0]; exact heap_alloc2_new w _ _
  rw [hW0]
  have HQ := Lib.hid (fun wr (hb : Below W0.heap.size W0 wr) => key_cells ((hb.block _ (lt_of_heap hA0)).trans hA0))
  have RC := Lib.hid (fun wr (hb : Below W0.heap.size W0 wr) => rising_kw (.slice a1 k.1.length p1) k.1 wr ((rA0.below hb0).below hb) hA)
  have BC := Lib.hid (fun wr (hb : Below W0.heap.size W0 wr) => bykey_kw (.slice a2 (List.length k.2) p2) k.2 W0 wr (rK0.below hb0) hb hK)
  have HR0 := Lib.hid hR0
  have HB0 := Lib.hid hb0
  have hbd : Below W0.heap.size W0 W0.drew := Below.drew (Below.refl _ _)
  have hba : Below W0.heap.size W0 (W0.alloc (.cells #[.slice none 0 0, .slice none 0 0] 41)).drew := Below.drew ((Below.refl _ W0).alloc (Nat.le_refl _) _)
  have hka : (W0.alloc (.cells #[.slice none 0 0, .slice none 0 0] 41)).drew.heap[W0.heap.size]? = some (.cells #[.slice none 0 0, .slice none 0 0] 41 (0, 0)) := World.alloc_heap_new W0 _
  obtain ⟨q0, q1⟩ := HQ.out _ hbd
  have HBA := Lib.hid hba
  have HKA := Lib.hid hka
  clear hW0 hA0 hR0 hb0 hba hka rA0 rK0 hz0
  go_cut [3] from 5 to 11 (fun u wx => ∃ (B : Nat) (a : Option Addr) (n c : Nat) (b : Option Addr) (m d : Nat) (Z : List ZE), u = .pointer (some ⟨B, 0, none⟩) ∧ Hid (OrdZ W0 wx B (.slice a n c) (.slice b m d) (riseBy id k.1) Z) ∧ Hid (Z.map (·.1) = riseBy (·.1) k.2))
  case first =>
    go_region_held3 (fun w' => w'.cell? ⟨w.heap.size, 0, none⟩ = some (.slice a1 k.1.length p1) ∧ w'.cell? ⟨w.heap.size, 1, none⟩ = some (.slice a2 (List.length k.2) p2))
      (first | exact ⟨by assumption, by assumption⟩ | exact HQ.out _ HBA.out | exact HQ.out _ hbRa | exact HQ.out _ hbR | exact HQ.out _ (hbK.setCell (Nat.le_refl _) _) | exact HQ.out _ ((hbK.setCell (Nat.le_refl _) _).setCell (Nat.le_refl _) _) | exact HQ.out _ (hbK.setCell hbR.size _) | exact HQ.out _ ((hbK.setCell hbR.size _).setCell hbR.size _) | exact HQ.out _ (hbK.alloc hbK.size _) | exact HQ.out _ ((hbK.alloc hbK.size _).setCell hbK.size _) | exact HQ.out _ (((hbK.alloc hbK.size _).setCell hbK.size _).setCell hbK.size _))
      (first
        | (go_at_call 63; (with_reducible refine (RC.out _ hbd).mono ?_); rintro e wR ⟨uR, rfl, hoR, hbR0⟩; obtain ⟨ra, rn, rc, rfl⟩ := own_slice hoR; have hbR := hbd.trans (hbR0.mono hbd.size); have hoR := ownsRow_base hoR hbd.size; obtain ⟨q0, q1⟩ := HQ.out _ hbR; have hbRa := hbR.alloc hbR.size (.cells #[.slice none 0 0, .slice none 0 0] 41); have hkRa := World.alloc_heap_new wR (.cells #[.slice none 0 0, .slice none 0 0] 41))
        | (go_at_call 63; (with_reducible refine (RC.out _ HBA.out).mono ?_); rintro e wR ⟨uR, rfl, hoR, hbR0⟩; obtain ⟨ra, rn, rc, rfl⟩ := own_slice hoR; have hbR := HBA.out.trans (hbR0.mono HBA.out.size); have hoR := ownsRow_base hoR HBA.out.size; obtain ⟨q0, q1⟩ := HQ.out _ hbR; have hkR := (hbR0.block _ (lt_of_heap HKA.out)).trans HKA.out)
        | (go_at_call 64; (with_reducible refine (BC.out _ hbR).mono ?_); rintro e wK ⟨uK, rfl, ⟨Z, hZm, hZo⟩, hbK0⟩; obtain ⟨kb, km, kd, rfl⟩ := own_slice hZo.own; have hbK := hbR.trans (hbK0.mono hbR.size); obtain ⟨q0, q1⟩ := HQ.out _ hbK; have HOA := Lib.hid (ownsRow_belowF hoR hbK0); have HOZ := Lib.hid (show OwnZ W0 wK W0.heap.size (.slice kb km kd) Z from ⟨ownsRow_base hZo.own hbR.size, hZo.row⟩); first | (have hkK := (hbK0.block _ (lt_of_heap hkR)).trans hkR; obtain ⟨e0, e1⟩ := key_cells hkK; have f0 := cells_frozen 0 hkK; have f1 := cells_frozen 1 hkK) | (have hkA := World.alloc_heap_new wK (.cells #[.slice none 0 0, .slice none 0 0] 41); obtain ⟨e0, e1⟩ := key_cells hkA; have f0 := cells_frozen 0 hkA; have f1 := cells_frozen 1 hkA))
        | (go_at_call 64; (with_reducible refine (BC.out _ hbRa).mono ?_); rintro e wK ⟨uK, rfl, ⟨Z, hZm, hZo⟩, hbK0⟩; obtain ⟨kb, km, kd, rfl⟩ := own_slice hZo.own; have hkK := (hbK0.block _ (lt_of_heap hkRa)).trans hkRa; have hbK := hbRa.trans (hbK0.mono hbRa.size); obtain ⟨q0, q1⟩ := HQ.out _ hbK; obtain ⟨e0, e1⟩ := key_cells hkK; have f0 := cells_frozen 0 hkK; have f1 := cells_frozen 1 hkK; have HOA := Lib.hid (ownsRow_belowF (hoR.alloc _) hbK0); have HOZ := Lib.hid (show OwnZ W0 wK W0.heap.size (.slice kb km kd) Z from ⟨ownsRow_base hZo.own hbRa.size, hZo.row⟩)))
    all_goals
      (try go_wp2_with fail)
      go_meet
      first
        | exact ⟨_, _, _, _, _, _, _, Z, rfl, Lib.hid (finZ_set hkK HOA.out HOZ.out hbK (Nat.le_refl _)), Lib.hid hZm⟩
        | exact ⟨_, _, _, _, _, _, _, Z, rfl, Lib.hid (finZ_set hkK HOA.out HOZ.out hbK hbR.size), Lib.hid hZm⟩
        | exact ⟨_, _, _, _, _, _, _, Z, rfl, Lib.hid (finZ_alloc HOA.out HOZ.out hbK), Lib.hid hZm⟩
  case rest =>
    obtain ⟨B, a, n, c, b, m, d, Z, rfl, HZ, HM⟩ := hcut
    obtain rfl : m = Z.length := own_lenD HZ.out.own.own
    have hZl : (riseBy (·.1) k.2).length = Z.length := by rw [← HM.out, List.length_map]
    have hZk : Z.length ≤ 1000 := by have := rise_len (fun x : ByteArray × List ByteArray => x.1) k.2; omega
    have HKK := Lib.hid (show (riseBy id k.1, (riseBy (·.1) k.2).map toldX) = orderK k from rfl)
    generalize riseBy id k.1 = A at *
    generalize riseBy (fun x : ByteArray × List ByteArray => x.1) k.2 = K at *
    have HLZ := Lib.hid hZl
    clear hZl q0 q1 HBA HKA RC BC HQ hbd hA hK
    go_wp2_with fail
    go_loopw [4] (fun i wr => ∃ (p : Nat) (Z' : List ZE), p ≤ Z.length ∧ i = .int .i64 (p : Int) ∧ Z'.length = Z.length ∧ Hid (OrdZ W0 wr B (.slice a n c) (.slice b Z.length d) A Z') ∧ Hid (Z'.map (·.1) = (K.take p).map toldX ++ K.drop p)) (fun i _ => Z.length - (intOf i).toNat)
    case atStart => exact ⟨0, Z, Nat.zero_le _, rfl, rfl, HZ, Lib.hid (by rw [HM.out]; simp)⟩
    case round =>
      obtain ⟨p, Z', hp, rfl, hlz, HZ', HM'⟩ := hrel
      have HLL := Lib.hid hlz
      have hZZ := HZ'.out
      rw [← hlz] at hZZ
      obtain ⟨c0, c1⟩ := key_cells HZ'.out.blk
      by_cases hlt : p < Z.length
      · have hpi : (p : Int) < (Z.length : Int) := by omega
        have hp0 : (0 : Int) ≤ (p : Int) := by omega
        obtain ⟨g, cap, hg⟩ := own_someU hZZ.own.own (by omega)
        injection hg with e1 e2 e3
        subst e1
        subst e3
        clear e2
        obtain ⟨z, hz⟩ : ∃ z, Z'[p]? = some z := ⟨_, List.getElem?_eq_getElem (by omega)⟩
        obtain ⟨x, hx⟩ : ∃ x, K[p]? = some x := ⟨_, List.getElem?_eq_getElem (by rw [HLZ.out]; exact hlt)⟩
        obtain ⟨ht1, ht2⟩ := told_at hx
        have hzx : z.1 = x := by
          have e := congrArg (fun l => l[p]?) HM'.out
          simp only [List.getElem?_map, hz, ht2] at e
          simpa using e
        have hrow := HZ'.out.own.row z (List.mem_of_getElem? hz)
        have s0 : wr.cell? ⟨g, p * 2 + 1, none⟩ = some (slc z.2) := by
          have hn : (zcells Z')[p * 2 + 1]? = some (slc z.2) := by
            rw [zcells_at, show (p * 2 + 1) / 2 = p by omega, hz, show (p * 2 + 1) % 2 = 1 by omega]
            rfl
          have := hZZ.own.own.cells rfl _ _ hn
          rwa [Addr.add_lit, Nat.zero_add] at this
        have s2 := hZZ.own.own.frozenAt (p * 2 + 1)
        obtain ⟨⟨zk, zs⟩, ta, tn, tc⟩ := z
        simp only [slc] at s0 hrow
        subst hzx
        obtain rfl : tn = zs.length := by obtain ⟨_, _, he, _⟩ := hrow; injection he
        by_cases hl : zs = [tru]
        · subst hl
          obtain ⟨g2, o2, rfl, e3⟩ := hrow.at (k := 0) (x := tru) rfl
          rw [Nat.add_zero] at e3
          have e3 := (HZ'.out.bel.cell (p := ⟨g2, o2, none⟩) (lt_of_cellF e3)).trans e3
          have ht : (tru.toList == ({ data := #[116, 114, 117, 101] } : ByteArray).toList) = true := by rw [show ({ data := #[116, 114, 117, 101] } : ByteArray).toList = [116, 114, 117, 101] from tru_list, tru_list]; rfl
          have hP := hZZ.put hz (t := (none, 0, 0)) (RowU.nil W0 0)
          simp only [slc] at hP
          have HP := Lib.hid hP
          have HN := Lib.hid (show (Z'.set p ((zk, []), (none, 0, 0))).map (·.1) = (K.take (p + 1)).map toldX ++ K.drop (p + 1) by
            rw [List.map_set, HM'.out, ← ht1]
            rfl)
          have ht3 : (tru.toList == [116, 114, 117, 101]) = true := by rw [tru_list]; rfl
          clear hP hz hx ht1 ht2 hrow hlz hZZ
          generalize tru = tr at *
          go_wp2_with fail
          go_roundw
          case rel => exact ⟨p + 1, _, by omega, by go_num, by rw [List.length_set]; exact HLL.out, Lib.hid (by rw [← HLL.out]; exact HP.out), HN⟩
          case measure => simp [intOf]; omega
        · have HN := Lib.hid (show Z'.map (·.1) = (K.take (p + 1)).map toldX ++ K.drop (p + 1) by
            rw [HM'.out, ← ht1]
            rw [show toldX (zk, zs) = (zk, zs) by unfold toldX toldL; rw [if_neg hl]]
            exact (set_self9 ht2).symm)
          have HZc := HZ'
          by_cases hl1 : zs.length = 1
          · obtain ⟨y, rfl⟩ : ∃ y, zs = [y] := List.length_eq_one_iff.1 hl1
            obtain ⟨g2, o2, rfl, e3⟩ := hrow.at (k := 0) (x := y) rfl
            rw [Nat.add_zero] at e3
            have e3 := (HZ'.out.bel.cell (p := ⟨g2, o2, none⟩) (lt_of_cellF e3)).trans e3
            have hne := toList_ne (show y ≠ tru from fun h => hl (by rw [h]))
            rw [tru_list] at hne
            have ht2 : (y.toList == ({ data := #[116, 114, 117, 101] } : ByteArray).toList) = false := by rw [show ({ data := #[116, 114, 117, 101] } : ByteArray).toList = [116, 114, 117, 101] from tru_list]; exact hne
            clear hz hx ht1 hrow hlz hZZ hl hl1
            go_wp2_with fail
            go_roundw
            case rel => exact ⟨p + 1, Z', by omega, by go_num, HLL.out, HZc, HN⟩
            case measure => simp [intOf]; omega
          · have hln : ((zs.length : Int) == 1) = false := by rw [beq_eq_false_iff_ne]; omega
            clear hz hx ht1 ht2 hrow hlz hZZ hl hl1
            go_wp2_with fail
            go_roundw
            case rel => exact ⟨p + 1, Z', by omega, by go_num, HLL.out, HZc, HN⟩
            case measure => simp [intOf]; omega
      · obtain rfl : p = Z.length := by omega
        have hpi : ¬ (Z.length : Int) < (Z.length : Int) := by omega
        have hR := (HZ'.out.bel.block (w.heap.size + 1) (lt_of_heap HR0.out)).trans HR0.out
        obtain ⟨r0, r1⟩ := key_cells hR
        have f0 := cells_frozen 0 hR
        have f1 := cells_frozen 1 hR
        have HRr := Lib.hid hR
        have HF := Lib.hid (show Z'.map (·.1) = K.map toldX by rw [HM'.out, ← HLZ.out]; simp)
        clear hR hlz hZZ
        go_wp2_with fail
        obtain ⟨g1, g2⟩ := HZ'.out.agg
        rw [HF.out] at g2
        obtain ⟨hk1, hk2⟩ := KeyU.stored (k := (A, K.map toldX)) g1 g2 HRr.out (fun x e => by cases e) (fun x e => by cases e)
        refine bodyPost_ret (results_cell_row rfl _ _ (w.heap.size + 1) 41 _ (0, 0) _ rfl hk2 Try.underlying41 rfl keySize) rfl ?_
        refine ⟨_, rfl, ?_, ((HB0.out.trans (HZ'.out.bel.mono HB0.out.size)).setCell (by simp) _).setCell (by simp) _⟩
        rw [← HKK.out]
        exact hk1
end Go.Proofs.Ytgdcdijdpflmdaa
