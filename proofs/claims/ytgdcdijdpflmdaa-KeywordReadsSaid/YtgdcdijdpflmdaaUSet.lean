/-
  keyword.Set.
-/
import Derived.Test.YtgdcdijdpflmdaaUClone
namespace Go.Proofs.Ytgdcdijdpflmdaa
open Go Go.RowKit

/-- What is set, ahead of the store of its texts. -/
structure SetD (W0 wr : World) (B g cap p : Nat) (va : Value) (l : List ByteArray) (key : ByteArray) (vl : List ByteArray) (K2 : KX) (D : List ZE) : Prop where
  blk : wr.heap[B]? = some (.cells #[va, .slice (some ⟨g, 0, none⟩) D.length cap] 41 (0, 0))
  att : wr.ownsRow W0.heap.size 9 1 va l.length (strs l)
  own : wr.ownsRow W0.heap.size 53 2 (.slice (some ⟨g, 0, none⟩) D.length cap) D.length (zcells D)
  row : ∀ z ∈ D, wr.ownsRow W0.heap.size 9 1 (slc z.2) z.1.2.length (strs z.1.2)
  lt : p < D.length
  hkey : ∀ z, D[p]? = some z → z.1.1 = key
  new : ∀ t, (D.set p ((key, vl), t)).map (·.1) = K2
  bel : Below W0.heap.size W0 wr
theorem SetD.below {W0 wr w' : World} {B g cap p : Nat} {va : Value} {l : List ByteArray} {key : ByteArray} {vl : List ByteArray} {K2 : KX} {D : List ZE} (h : SetD W0 wr B g cap p va l key vl K2 D) (hb : Below wr.heap.size wr w') : SetD W0 w' B g cap p va l key vl K2 D :=
  ⟨(hb.block _ (lt_of_heap h.blk)).trans h.blk, ownsRow_belowF h.att hb, ownsRow_belowF h.own hb, fun z hz => ownsRow_belowF (h.row z hz) hb, h.lt, h.hkey, h.new, h.bel.trans (hb.mono h.bel.size)⟩
theorem SetD.put {W0 wr : World} {B g cap p : Nat} {va : Value} {l : List ByteArray} {key : ByteArray} {vl : List ByteArray} {K2 : KX} {D : List ZE} (h : SetD W0 wr B g cap p va l key vl K2 D) {t : Option Addr × Nat × Nat} (ht : wr.ownsRow W0.heap.size 9 1 (slc t) vl.length (strs vl)) :
    (wr.setCell ⟨g, p * 2 + 1, none⟩ (slc t)).heap[B]? = some (.cells #[va, .slice (some ⟨g, 0, none⟩) D.length cap] 41 (0, 0)) ∧ (wr.setCell ⟨g, p * 2 + 1, none⟩ (slc t)).ownsRow W0.heap.size 9 1 va l.length (strs l) ∧ ExtD (wr.setCell ⟨g, p * 2 + 1, none⟩ (slc t)) W0.heap.size (.slice (some ⟨g, 0, none⟩) D.length cap) K2 ∧ Below W0.heap.size W0 (wr.setCell ⟨g, p * 2 + 1, none⟩ (slc t)) := by
  have hgB : B ≠ g := fun e => own_not_ty h.own h.blk (by decide) (by rw [e]; rfl)
  obtain ⟨z, hz⟩ : ∃ z, D[p]? = some z := ⟨_, List.getElem?_eq_getElem h.lt⟩
  have hk := h.hkey z hz
  have st := h.own.stored (p * 2 + 1) (slc t)
  have hd : D = D.take p ++ z :: D.drop (p + 1) := by
    have e := (List.take_append_drop p D).symm
    rw [List.drop_eq_getElem_cons h.lt] at e
    rw [List.getElem?_eq_getElem h.lt] at hz
    rw [← Option.some.inj hz]
    exact e
  have hset : D.set p ((key, vl), t) = (D.take p ++ [((key, vl), t)]) ++ D.drop (p + 1) := by
    rw [List.set_eq_take_append_cons_drop, if_pos h.lt]
    simp
  have hlp : (D.take p).length = p := by rw [List.length_take]; exact Nat.min_eq_left (Nat.le_of_lt h.lt)
  have hzc : (zcells D).set (p * 2 + 1) (slc t) = zcells (D.set p ((key, vl), t)) := by
    have e := zcells_set (D.take p) (D.drop (p + 1)) z vl t
    rw [hlp, ← hd, hk, ← hset] at e
    exact e
  have hKl : K2.length = D.length := by rw [← h.new t, List.length_map, List.length_set]
  have kept : ∀ (u : Value) (n : Nat) (xs : List Value), wr.ownsRow W0.heap.size 9 1 u n xs → (wr.setCell ⟨g, p * 2 + 1, none⟩ (slc t)).ownsRow W0.heap.size 9 1 u n xs := fun u n xs ho => ho.kept st.2 (by
    have := own_types_ne ho h.own (by decide)
    simpa [Value.ownBlock] using this)
  refine ⟨(Below.heap_setCell _ _ _ _ hgB).trans h.blk, kept _ _ _ h.att, ⟨D.set p ((key, vl), t), h.new t, ?_, fun y hy => ?_⟩, h.bel.setCell (h.own.lt g rfl).1 _⟩
  · rw [hKl, ← hzc]
    exact st.1
  · rcases List.mem_or_eq_of_mem_set hy with hy | rfl
    · exact kept _ _ _ (h.row y hy)
    · exact kept _ _ _ ht
theorem setD_new {W0 w5 w6 : World} {B g cap : Nat} {va v5 : Value} {l : List ByteArray} {key : ByteArray} {vl : List ByteArray} {K : KX} {D : List ZE}
    (hX : w5.heap[B]? = some (.cells #[va, v5] 41 (0, 0))) (hBl : W0.heap.size ≤ B) (ha : w5.ownsRow W0.heap.size 9 1 va l.length (strs l)) (hd : w5.ownsRow W0.heap.size 53 2 v5 K.length (zcells D)) (hr : ∀ z ∈ D, w5.ownsRow W0.heap.size 9 1 (slc z.2) z.1.2.length (strs z.1.2)) (hb : Below W0.heap.size W0 w5) (hD : D.map (·.1) = K) (hp : ¬ placeN K key < K.length)
    (ho : w6.ownsRow W0.heap.size 53 2 (.slice (some ⟨g, 0, none⟩) (K.length + 1) cap) (K.length + 1) (zcells D ++ [.string key, .slice none 0 0])) (hg : w5.grownBy w6 v5.ownBlock) :
    w6.heap[B]? = some (.cells #[va, v5] 41 (0, 0)) ∧ SetD W0 (w6.setCell ⟨B, 1, none⟩ (.slice (some ⟨g, 0, none⟩) (K.length + 1) cap)) B g cap K.length va l key vl (setX key vl K) (D ++ [((key, []), (none, 0, 0))]) := by
  have hX6 : w6.heap[B]? = some (.cells #[va, v5] 41 (0, 0)) := (hg.block B (lt_of_heap hX) (own_not_ty hd hX (by decide)).symm).trans hX
  have hl : D.length = K.length := by rw [← hD, List.length_map]
  have hl2 : (D ++ [((key, []), (none, 0, 0))] : List ZE).length = K.length + 1 := by rw [List.length_append, hl]; rfl
  have kept : ∀ (u : Value) (n : Nat) (xs : List Value), w5.ownsRow W0.heap.size 9 1 u n xs → (w6.setCell ⟨B, 1, none⟩ (.slice (some ⟨g, 0, none⟩) (K.length + 1) cap)).ownsRow W0.heap.size 9 1 u n xs := fun u n xs h => by
    have h6 := h.kept hg (own_types_ne h hd (by decide))
    exact own_setOther h6 (own_not_ty h6 hX6 (by decide)) _
  have hpN : placeN K key = K.length := by have := placeN_le K key; omega
  refine ⟨hX6, ?_, kept _ _ _ ha, ?_, fun z hz => ?_, by rw [hl2]; omega, fun z hz => ?_, fun t => ?_, (hb.grown hg hb.size (fun k hk => (hd.lt k hk).1)).setCell hBl _⟩
  · rw [hl2]
    exact cells_set (k := 1) hX6 _
  · rw [hl2, zcells_app2]
    exact own_setOther ho (own_not_ty ho hX6 (by decide)) _
  · rcases List.mem_append.1 hz with hz | hz
    · exact kept _ _ _ (hr z hz)
    · obtain rfl := List.mem_singleton.1 hz
      exact World.ownsRow_nil _ _ _ _
  · rw [List.getElem?_append_right (by omega), hl, Nat.sub_self] at hz
    simp at hz
    rw [← hz]
  · rw [setX_new _ hpN, ← hl, List.set_append_right _ _ (Nat.le_refl _), Nat.sub_self, List.map_append, hD]
    rfl
set_option maxRecDepth 100000 in
set_option maxHeartbeats 1500000 in
theorem set_kw (v : Value) (k : List ByteArray × KX) (key : ByteArray) (vv : Value) (vl : List ByteArray) (w : World) (hv : KeyU w v k) (hvv : RowU w vv vl) (hA : k.1.length ≤ 100) (hK : k.2.length ≤ 100) (hx : ∀ x ∈ k.2, x.2.length ≤ 1000) (hvl : vl.length ≤ 1000) (hvs : ∀ x ∈ vl, x.size ≤ 1000) :
    Calls Try.prog 67 #[v, .string key, vv] w fun e w' => ∃ va vk, e = .returned (.agg #[va, vk]) ∧ w'.ownsRow w.heap.size 9 1 va k.1.length (strs k.1) ∧ ExtD w' w.heap.size vk (setK k key vl).2 ∧ Below w.heap.size w w' := by
  obtain ⟨x0, xii, xz0, xz1, xz2⟩ := info_parts extInfoM
  obtain ⟨va, vk, rfl, rA, rK⟩ := hv
  obtain ⟨W0, hW0⟩ : ∃ W0, (w.alloc (.cells #[va, vk] 41)).alloc (.cells #[.slice none 0 0, .slice none 0 0] 41) = W0 := ⟨_, rfl⟩
  have hb0 : Below w.heap.size w W0 := by rw [← hW0]; exact ((Below.refl _ w).alloc (Nat.le_refl _) _).alloc (by simp) _
  have hz0 : W0.heap.size = w.heap.size + 2 := by rw [← hW0]; simp
  have hA0 : W0.heap[w.heap.size]? = some (.cells #[va, vk] 41 (0, 0)) := by rw [← hW0]; exact (Below.heap_alloc _ _ _ (by simp)).trans (World.alloc_heap_new w _)
  have hR0 : W0.heap[w.heap.size + 1]? = some (.cells #[.slice none 0 0, .slice none 0 0] 41 (0, 0)) := by rw [← hW0]; exact heap_alloc2_new w _ _
  have CC := Lib.hid (clone_kw (.agg #[va, vk]) k W0 ⟨va, vk, rfl, rA.below hb0, rK.below hb0⟩ hA hK hx)
  have SM := Lib.hid (fun wr (hb : Below W0.heap.size W0 wr) => small_own vv vl wr ((hvv.below hb0).below hb) (by omega) hvs)
  obtain ⟨q0, q1⟩ := key_cells hA0
  have IK := Lib.hid (isKey_own key)
  obtain ⟨a1, p1, rfl, -⟩ := rA
  obtain ⟨a2, p2, rfl, -⟩ := rK
  obtain ⟨a3, p3, rfl, -⟩ := hvv
  have HZ := Lib.hid hz0
  have HB0 := Lib.hid hb0
  have HR0 := Lib.hid hR0
  clear hz0 hb0 hR0 hA0 hx hvs
  go_enter Try.func67, Try.ntmps67
  go_upto_region 1 with fail
  clear hW0
  go_upto_region 2 with (go_at_call 91; (with_reducible refine CC.out.mono ?_); rintro e w1 ⟨xa, xk, rfl, ho1, ⟨D, hD, hoD, hrD⟩, hb1⟩; obtain ⟨ya, yn, yc, rfl⟩ := own_slice ho1; obtain ⟨za, zn, zc, rfl⟩ := own_slice hoD)
  obtain ⟨W2, hW2⟩ : ∃ W2, w1.alloc (.cells #[.slice ya yn yc, .slice za zn zc] 41) = W2 := ⟨_, rfl⟩
  have hb2 : Below w1.heap.size w1 W2 := by rw [← hW2]; exact (Below.refl _ w1).alloc (Nat.le_refl _) _
  have hX2 : W2.heap[w1.heap.size]? = some (.cells #[.slice ya yn yc, .slice za zn zc] 41 (0, 0)) := by rw [← hW2]; exact World.alloc_heap_new w1 _
  have hB2 : Below W0.heap.size W0 W2 := hb1.trans (hb2.mono hb1.size)
  have HO2 := Lib.hid (ownsRow_belowF ho1 hb2)
  have HD2 := Lib.hid (ownsRow_belowF hoD hb2)
  have HR2 := Lib.hid (fun z hz => ownsRow_belowF (hrD z hz) hb2)
  have HDE := Lib.hid hD
  have HX2 := Lib.hid hX2
  have HB2 := Lib.hid hB2
  have hw1 : W0.heap.size ≤ w1.heap.size := hb1.size
  rw [hW2]
  clear hW2 hb2 hX2 hB2 ho1 hoD hrD hD hb1 q0 q1 CC
  by_cases hik : isK key = true
  · have hks : key.size ≤ 140737488351232 := by
      have h := hik
      unfold isK at h
      simp at h
      omega
    have HKe := Lib.hid (show (setK k key vl).2 = setX (lowS key) (vl.map lowS) k.2 by unfold setK; rw [if_pos hik])
    have LK := Lib.hid (fun wr => lower_text key wr hks)
    obtain ⟨c0, c1⟩ := key_cells HX2.out
    generalize lowS key = key' at *
    generalize isK key = b at *
    subst hik
    go_upto_region 5 with (first | (go_at_call 84; (with_reducible refine (IK.out _).mono ?_); rintro e w5 ⟨rfl, h5⟩; obtain rfl := h5.symm) | (go_at_call 72; (with_reducible refine (LK.out _).mono ?_); rintro e w3 ⟨rfl, hb3⟩))
    have hDl : D.length = k.2.length := by rw [← HDE.out, List.length_map]
    have HO3 := Lib.hid (ownsRow_belowF HO2.out hb3)
    have HD3 := Lib.hid (ownsRow_belowF HD2.out hb3)
    have HR3 := Lib.hid (fun z hz => ownsRow_belowF (HR2.out z hz) hb3)
    have HX3 := Lib.hid ((hb3.block _ (lt_of_heap HX2.out)).trans HX2.out)
    have HB3 := Lib.hid (HB2.out.trans (hb3.mono HB2.out.size))
    have hE3 : ExtU w3 (.slice za zn zc) k.2 := by
      have h : OwnZ w3 w3 W0.heap.size (.slice za zn zc) D := ⟨by rw [hDl]; exact HD3.out, fun z hz => RowU.of_own (HR3.out z hz)⟩
      have e := h.ext (Below.refl _ _)
      rw [HDE.out] at e
      exact e
    have PL := place_own (.agg #[.slice ya yn yc, .slice za zn zc]) k key' w3 ⟨_, _, rfl, RowU.of_own HO3.out, hE3⟩ (by omega)
    obtain ⟨pi, hpi⟩ : ∃ pi, placeI k.2 key' = pi := ⟨_, rfl⟩
    rw [hpi] at PL
    have PL := Lib.hid PL
    have HPI := Lib.hid hpi
    obtain ⟨c0, c1⟩ := key_cells HX3.out
    clear hb3 hE3 hpi HO2 HD2 HR2 HX2 HB2
    go_upto_region 6 with (go_at_call 90; (with_reducible refine PL.out.mono ?_); rintro e w4 ⟨rfl, hb4⟩)
    have HO4 := Lib.hid (ownsRow_belowF HO3.out hb4)
    have HD4 := Lib.hid (ownsRow_belowF HD3.out hb4)
    have HR4 := Lib.hid (fun z hz => ownsRow_belowF (HR3.out z hz) hb4)
    have HX4 := Lib.hid ((hb4.block _ (lt_of_heap HX3.out)).trans HX3.out)
    have HB4 := Lib.hid (HB3.out.trans (hb4.mono HB3.out.size))
    obtain ⟨c0, c1⟩ := key_cells HX4.out
    clear hb4 HO3 HD3 HR3 HX3 HB3 PL
    go_upto_if 21 with fail
    go_cut [8] from 22 to 31 (fun u wx => ∃ (g cap p : Nat) (D' : List ZE), u = .int .i64 (p : Int) ∧ SetD W0 wx w1.heap.size g cap p (.slice ya yn yc) k.1 key' (vl.map lowS) (setX key' (vl.map lowS) k.2) D')
    case first =>
      by_cases hp : placeN k.2 key' < k.2.length
      · have hI : pi = (placeN k.2 key' : Int) := by rw [← HPI.out]; unfold placeI; rw [if_pos hp]
        subst hI
        have hp0 : ¬ (placeN k.2 key' : Int) < 0 := by omega
        rcases owned_cases HD4.out with ⟨_, h2⟩ | ⟨g, cap, h1⟩
        · omega
        · injection h1 with i1 i2 i3
          subst i1 i2 i3
          have HKK := Lib.hid (show ∀ z, D[placeN k.2 key']? = some z → z.1.1 = key' from fun z hz => (placeN_at k.2 key').2 _ (by
            have e : (D.map (·.1))[placeN k.2 key']? = some z.1 := by rw [List.getElem?_map, hz]; rfl
            rw [HDE.out] at e
            exact e))
          have HS := Lib.hid (show SetD W0 w4 w1.heap.size g zc (placeN k.2 key') (.slice ya yn yc) k.1 key' (vl.map lowS) (setX key' (vl.map lowS) k.2) D from
            ⟨by rw [hDl]; exact HX4.out, HO4.out, by rw [hDl]; exact HD4.out, HR4.out, by rw [hDl]; exact hp, HKK.out, fun t => by rw [List.map_set, HDE.out, setX_old _ hp], HB4.out⟩)
          generalize placeN k.2 key' = n at *
          go_wp2_with fail
          go_meet
          exact ⟨g, zc, n, D, rfl, HS.out⟩
      · have hI : pi = -1 := by rw [← HPI.out]; unfold placeI; rw [if_neg hp]
        subst hI
        go_upto_region 8 with fail
        have hzn : zn = k.2.length := by
          rcases owned_cases HD4.out with ⟨h1, h2⟩ | ⟨g, cap, h1⟩
          · injection h1 with _ i2 _
            omega
          · injection h1
        obtain ⟨W5, hW5⟩ : ∃ W5, w4.alloc (.cells #[.string key', .slice none 0 0] 53) = W5 := ⟨_, rfl⟩
        have hbe5 : Below w4.heap.size w4 W5 := by rw [← hW5]; exact (Below.refl _ w4).alloc (Nat.le_refl _) _
        obtain ⟨l0, l1⟩ := key_cells (show W5.heap[w4.heap.size]? = some (.cells #[.string key', .slice none 0 0] 53 (0, 0)) by rw [← hW5]; exact World.alloc_heap_new w4 _)
        have HO5 := Lib.hid (ownsRow_belowF HO4.out hbe5)
        have HD5 := Lib.hid (ownsRow_belowF HD4.out hbe5)
        have HR5 := Lib.hid (fun z hz => ownsRow_belowF (HR4.out z hz) hbe5)
        have HX5 := Lib.hid ((hbe5.block _ (lt_of_heap HX4.out)).trans HX4.out)
        have HB5 := Lib.hid (HB4.out.trans (hbe5.mono HB4.out.size))
        have HNW := Lib.hid (show ∀ ad, some (⟨w4.heap.size, 0, none⟩ : Addr) = some ad → ∀ j u, ([.string key', .slice none 0 0] : List Value)[j]? = some u → W5.cell? (ad.add j) = some u from fun ad had j u hu => by
          cases had
          rw [Addr.add_lit, Nat.zero_add]
          match j with
          | 0 => cases hu; exact l0
          | 1 => cases hu; exact l1
          | n + 2 => simp at hu)
        clear l0 l1 hbe5
        subst hW5
        subst hzn
        go_wp2_with (at_builtin; go_loud (refine wpList_append_any _ rfl _ _ 27 rfl W0.heap.size 53 x0 (.agg #[.string ByteArray.empty, .slice none 0 0]) 2 40 Try.underlying27 xii xz0 xz1 xz2 rfl (by decide) (.slice za k.2.length zc) k.2.length (zcells D) rfl HD5.out (some ⟨w4.heap.size, 0, none⟩) 1 1 [.string key', .slice none 0 0] rfl rfl (fun h => by cases h) HNW.out (fun u hu => by simp at hu; rcases hu with rfl | rfl <;> rfl) (by unfold maxLen; omega) (by omega) HB5.out.size ?_); intro v6 w6 hown6 hgrow6; rcases owned_cases hown6 with ⟨_, h2⟩ | ⟨g6, cap6, rfl⟩; omega; obtain ⟨hX6, hS6⟩ := setD_new (l := k.1) (vl := vl.map lowS) HX5.out hw1 HO5.out HD5.out HR5.out HB5.out HDE.out hp hown6 hgrow6; obtain ⟨c0, c1⟩ := key_cells hX6; have f1 := cells_frozen 1 hX6; have HS6 := Lib.hid hS6; clear hX6 hS6 hown6 hgrow6)
        go_meet
        exact ⟨g6, cap6, k.2.length, _, rfl, HS6.out⟩
    case rest =>
      obtain ⟨g, cap, p, D', rfl, hS⟩ := hcut
      have hpl := hS.lt
      have hpi : (p : Int) < (D'.length : Int) := by omega
      have hp0 : (0 : Int) ≤ (p : Int) := by omega
      have hbd : Below wc.heap.size wc wc.drew := Below.drew (Below.refl _ _)
      have SMw := Lib.hid (SM.out wc.drew (hS.bel.trans (hbd.mono hS.bel.size)))
      have b1 : wc.drew.cell? ⟨w1.heap.size, 1, none⟩ = some (.slice (some ⟨g, 0, none⟩) D'.length cap) := cell_row2 1 (hS.below hbd).blk rfl
      have HS := Lib.hid hS
      clear hS SM HO4 HD4 HR4 HX4 HB4 c0 c1 HPI
      go_upto_region 9 with fail
      go_region_held3 (fun w' => w'.cell? ⟨w1.heap.size, 1, none⟩ = some (.slice (some ⟨g, 0, none⟩) D'.length cap))
        (first | assumption | exact b2 _)
        (first
          | (go_at_call 56; (with_reducible refine SMw.out.mono ?_); rintro e w5 ⟨u', rfl, ho5, hb5⟩; have hb5 : Below wc.heap.size wc w5 := hbd.trans hb5; have hS5 := HS.out.below hb5; have b1 := cell_row2 1 hS5.blk rfl; have s1 := hS5.own.cellAt (p * 2 + 1) (by omega); rw [List.getElem?_eq_getElem (by rw [zcells_len]; omega)] at s1; have s2 := hS5.own.frozenAt (p * 2 + 1); obtain ⟨ua, un, uc, rfl⟩ := own_slice ho5; have hBg : w1.heap.size ≠ g := (fun e => own_not_ty hS5.own hS5.blk (by decide) (by rw [e]; rfl)); have b2 := (fun u => (World.cell?_of_block (a := ⟨w1.heap.size, 1, none⟩) (Below.heap_setCell w5 ⟨g, p * 2 + 1, none⟩ u _ hBg)).trans b1); have HS5 := Lib.hid hS5; have HO5 := Lib.hid (show w5.ownsRow W0.heap.size 9 1 (slc (ua, un, uc)) (vl.map lowS).length (strs (vl.map lowS)) from by rw [List.length_map]; exact ownsRow_base ho5 (show W0.heap.size ≤ wc.drew.heap.size from HS.out.bel.size)); clear hS5 ho5 hb5))
      obtain ⟨hX6, hA6, hD6, hB6⟩ := HS5.out.put (t := (ua, un, uc)) HO5.out
      simp only [slc] at hX6 hA6 hD6 hB6
      obtain ⟨W6, hW6⟩ : ∃ W6, w5.setCell ⟨g, p * 2 + 1, none⟩ (.slice ua un uc) = W6 := ⟨_, rfl⟩
      rw [hW6] at hX6 hA6 hD6 hB6 ⊢
      clear hW6
      have hzs := HZ.out
      have hR := (hB6.block (w.heap.size + 1) (by omega)).trans HR0.out
      obtain ⟨c0, c1⟩ := key_cells hX6
      obtain ⟨r0, r1⟩ := key_cells hR
      have f0 := cells_frozen 0 hR
      have f1 := cells_frozen 1 hR
      have HRr := Lib.hid hR
      have HA6 := Lib.hid hA6
      have HD6 := Lib.hid hD6
      have HB6 := Lib.hid hB6
      clear hR hX6 hA6 hD6 hB6 HS HS5 HO5
      go_wp2_with fail
      have e1 := cells_set (k := 1) (cells_set (k := 0) HRr.out (.slice ya yn yc)) (.slice (some ⟨g, 0, none⟩) D'.length cap)
      refine bodyPost_ret (results_cell_row rfl _ _ (w.heap.size + 1) 41 _ (0, 0) _ rfl e1 Try.underlying41 rfl keySize) rfl ?_
      refine ⟨_, _, rfl, ownsRow_base (own_setLow (own_setLow HA6.out (by omega) _) (by omega) _) (by omega), ?_, ((HB0.out.trans (HB6.out.mono HB0.out.size)).setCell (by simp) _).setCell (by simp) _⟩
      rw [HKe.out]
      obtain ⟨D6, h1, h2, h3⟩ := HD6.out
      exact ⟨D6, h1, ownsRow_base (own_setLow (own_setLow h2 (by omega) _) (by omega) _) (by omega), fun z hz => ownsRow_base (own_setLow (own_setLow (h3 z hz) (by omega) _) (by omega) _) (by omega)⟩
  · have hik : isK key = false := by simpa using hik
    have HE : setK k key vl = k := by unfold setK; rw [if_neg (by rw [hik]; simp)]
    have HKe := Lib.hid HE
    have hDl : D.length = k.2.length := by rw [← HDE.out, List.length_map]
    have hzs := HZ.out
    obtain ⟨c0, c1⟩ := key_cells HX2.out
    have hR := (HB2.out.block (w.heap.size + 1) (by omega)).trans HR0.out
    obtain ⟨r0, r1⟩ := key_cells hR
    have f0 := cells_frozen 0 hR
    have f1 := cells_frozen 1 hR
    have HRr := Lib.hid hR
    clear hR HE
    generalize isK key = b at *
    subst hik
    go_wp2_with (go_at_call 84; (with_reducible refine (IK.out _).mono ?_); rintro e w5 ⟨rfl, h5⟩; obtain rfl := h5.symm)
    have e1 := cells_set (k := 1) (cells_set (k := 0) HRr.out (.slice ya yn yc)) (.slice za zn zc)
    refine bodyPost_ret (results_cell_row rfl _ _ (w.heap.size + 1) 41 _ (0, 0) _ rfl e1 Try.underlying41 rfl keySize) rfl ?_
    refine ⟨_, _, rfl, ownsRow_base (own_setLow (own_setLow HO2.out (by omega) _) (by omega) _) (by omega), ?_, ((HB0.out.trans (HB2.out.mono HB0.out.size)).setCell (by simp) _).setCell (by simp) _⟩
    rw [HKe.out]
    exact ⟨D, HDE.out, ownsRow_base (own_setLow (own_setLow HD2.out (by omega) _) (by omega) _) (by omega), fun z hz => ownsRow_base (own_setLow (own_setLow (HR2.out z hz) (by omega) _) (by omega) _) (by omega)⟩
end Go.Proofs.Ytgdcdijdpflmdaa
