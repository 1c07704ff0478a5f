/-
  The document's Set.
-/
import Derived.Test.YtgdcdijdpflmdaaUGet
import Derived.Test.YtgdcdijdpflmdaaURise
import Derived.Test.YtgdcdijdpflmdaaUWriteR
import Derived.Deep.RegionLaw
import Derived.BigQuiet
namespace Go.Proofs.Ytgdcdijdpflmdaa
open Go Go.RowKit

/-- What is set by the document, so far: the block of the answer, its keys' row; what the rows hold lies in an earlier world. -/
structure SetO (W1 wx : World) (B : Nat) (va vk : Value) (Z : List ZE) : Prop where
  blk : wx.heap[B]? = some (.cells #[va, vk] 41 (0, 0))
  lo : W1.heap.size ≤ B
  own : OwnZ W1 wx W1.heap.size vk Z
  bel : Below W1.heap.size W1 wx
theorem SetO.below {W1 wx w' : World} {B : Nat} {va vk : Value} {Z : List ZE} (h : SetO W1 wx B va vk Z) (hb : Below wx.heap.size wx w') : SetO W1 w' B va vk Z :=
  ⟨(hb.block _ (lt_of_heap h.blk)).trans h.blk, h.lo, ⟨ownsRow_belowF h.own.own hb, h.own.row⟩, h.bel.trans (hb.mono h.bel.size)⟩
theorem SetO.put {W1 wx : World} {B g cap p : Nat} {va : Value} {Z : List ZE} {z : ZE} {l : List ByteArray} {t : Option Addr × Nat × Nat} (h : SetO W1 wx B va (.slice (some ⟨g, 0, none⟩) Z.length cap) Z) (hz : Z[p]? = some z) (ht : RowU W1 (slc t) l) :
    SetO W1 (wx.setCell ⟨g, p * 2 + 1, none⟩ (slc t)) B va (.slice (some ⟨g, 0, none⟩) Z.length cap) (Z.set p ((z.1.1, l), t)) := by
  have hlt : p < Z.length := (List.getElem?_eq_some_iff.1 hz).1
  have hgB : B ≠ g := fun e => own_not_ty h.own.own h.blk (by decide) (by rw [e]; rfl)
  have st := h.own.own.stored (p * 2 + 1) (slc t)
  have hd : Z = Z.take p ++ z :: Z.drop (p + 1) := by
    have e := (List.take_append_drop p Z).symm
    rw [List.drop_eq_getElem_cons hlt] at e
    rw [List.getElem?_eq_getElem hlt] at hz
    rw [← Option.some.inj hz]
    exact e
  have hset : Z.set p ((z.1.1, l), t) = (Z.take p ++ [((z.1.1, l), t)]) ++ Z.drop (p + 1) := by
    rw [List.set_eq_take_append_cons_drop, if_pos hlt]
    simp
  have hlp : (Z.take p).length = p := by rw [List.length_take]; exact Nat.min_eq_left (Nat.le_of_lt hlt)
  have hzc : (zcells Z).set (p * 2 + 1) (slc t) = zcells (Z.set p ((z.1.1, l), t)) := by
    have e := zcells_set (Z.take p) (Z.drop (p + 1)) z l t
    rw [hlp, ← hd, ← hset] at e
    exact e
  refine ⟨(Below.heap_setCell _ _ _ _ hgB).trans h.blk, h.lo, ⟨?_, fun y hy => ?_⟩, h.bel.setCell (h.own.own.lt g rfl).1 _⟩
  · rw [List.length_set, ← hzc]
    exact st.1
  · rcases List.mem_or_eq_of_mem_set hy with hy | rfl
    · exact h.own.row y hy
    · exact ht
theorem SetO.push {W1 wx w7 : World} {B : Nat} {va vk v7 : Value} {Z : List ZE} {key : ByteArray} (h : SetO W1 wx B va vk Z) (ho : w7.ownsRow W1.heap.size 53 2 v7 (Z.length + 1) (zcells Z ++ [.string key, .slice none 0 0])) (hg : wx.grownBy w7 vk.ownBlock) :
    w7.heap[B]? = some (.cells #[va, vk] 41 (0, 0)) ∧ SetO W1 (w7.setCell ⟨B, 1, none⟩ v7) B va v7 (Z ++ [((key, []), (none, 0, 0))]) := by
  have hX : w7.heap[B]? = some (.cells #[va, vk] 41 (0, 0)) := (hg.block B (lt_of_heap h.blk) (own_not_ty h.own.own h.blk (by decide)).symm).trans h.blk
  refine ⟨hX, cells_set (k := 1) hX _, h.lo, ⟨?_, fun z hz => ?_⟩, (h.bel.grown hg h.bel.size (fun k hk => (h.own.own.lt k hk).1)).setCell h.lo _⟩
  · rw [List.length_append, zcells_app2]
    exact own_setOther ho (own_not_ty ho hX (by decide)) _
  · rcases List.mem_append.1 hz with hz | hz
    · exact h.own.row z hz
    · obtain rfl := List.mem_singleton.1 hz
      exact RowU.nil _ _
theorem SetO.key {W1 wx : World} {B : Nat} {va vk : Value} {Z : List ZE} {A : List ByteArray} (h : SetO W1 wx B va vk Z) (hA : RowU W1 va A) : RowU wx va A ∧ ExtU wx vk (Z.map (·.1)) := ⟨hA.below h.bel, h.own.ext h.bel⟩
theorem own_normX {w : World} {base n : Nat} {v : Value} {Z : List ZE} (h : w.ownsRow base 53 2 v n ([] ++ zcells Z)) : w.ownsRow base 53 2 v Z.length (zcells Z) := by
  have e : n = Z.length := by have := h.1; simp [zcells_len] at this; omega
  subst e
  exact h
theorem pushS {W1 w0 w2 : World} {L : List ByteArray} {v v' : Value} {x : ByteArray} {o : Obj} (h : Acc W1 L v w0) (h1 : w2.ownsRow W1.heap.size 9 1 v' (L.length + 1) (strs L ++ [.string x])) (hg : (w0.alloc o).grownBy w2 v.ownBlock) : Acc W1 (L ++ [x]) v' w2 := h.push h1 hg
theorem Acc.belowS {W1 w0 w2 : World} {L : List ByteArray} {v : Value} (h : Acc W1 L v w0) (hb : Below w0.heap.size w0 w2) : Acc W1 L v w2 := ⟨ownsRow_belowF h.1 hb, h.2.trans (hb.mono h.2.size)⟩

set_option maxRecDepth 100000 in
set_option maxHeartbeats 4000000 in
theorem setR_kw (v : Value) (k : List ByteArray × KX) (key : ByteArray) (vv : Value) (vl : List ByteArray) (w : World) (hv : KeyU w v k) (hvv : RowU w vv vl) (hK : k.2.length ≤ 100) (hks : key.size ≤ 1000) (hvl : vl.length ≤ 1000) (hvs : ∀ x ∈ vl, x.size ≤ 1000) :
    Calls Try.prog 68 #[v, .string key, vv] w fun e w' => ∃ u, e = .returned u ∧ KeyU w' u (setK k key vl) ∧ Below w.heap.size w w' := by
  obtain ⟨i0, hii, iz0, iz1, iz2⟩ := info_parts stringInfo
  obtain ⟨x0, xii, xz0, xz1, xz2⟩ := info_parts extInfoM
  obtain ⟨A, K⟩ := k
  obtain ⟨va, vk, rfl, rA, rK⟩ := hv
  dsimp only at rA rK hK ⊢
  obtain ⟨a2, p2, rfl, hc2⟩ := rK
  obtain ⟨-, Z, hZ1, hZ2, hZ3, hZ4⟩ := ExtU.z (W := w) (ao := a2) (n := K.length) (c := p2) (L := K) ⟨a2, p2, rfl, hc2⟩
  have hZK : K.length = Z.length := by rw [← hZ1, List.length_map]
  have rK : ExtU w (.slice a2 K.length p2) K := ⟨a2, p2, rfl, hc2⟩
  rw [hZK] at rK hK hZ3 ⊢
  clear hc2
  obtain ⟨vk, hvk⟩ : ∃ v, Value.slice a2 Z.length p2 = v := ⟨_, rfl⟩
  rw [hvk] at rK ⊢
  obtain ⟨W0, hW0⟩ : ∃ W0, (w.alloc (.cells #[va, vk] 41)).alloc (.cells #[.slice none 0 0, .slice none 0 0] 41) = W0 := ⟨_, rfl⟩
  have hb0 : Below w.heap.size w W0 := by rw [← hW0]; exact ((Below.refl _ w).alloc (Nat.le_refl _) _).alloc (by simp) _
  have hz0 : W0.heap.size = w.heap.size + 2 := by rw [← hW0]; simp
  have hA0 : W0.heap[w.heap.size]? = some (.cells #[va, vk] 41 (0, 0)) := by rw [← hW0]; exact (Below.heap_alloc _ _ _ (by simp)).trans (World.alloc_heap_new w _)
  have hR0 : W0.heap[w.heap.size + 1]? = some (.cells #[.slice none 0 0, .slice none 0 0] 41 (0, 0)) := by rw [← hW0]; exact heap_alloc2_new w _ _
  have HA0 := Lib.hid hA0
  have HR0 := Lib.hid hR0
  have HB0 := Lib.hid hb0
  have RA := Lib.hid (rA.below hb0)
  have RK := Lib.hid (rK.below hb0)
  have RV := Lib.hid (hvv.below hb0)
  obtain ⟨a1, p1, rfl, -⟩ := rA
  subst hvk
  obtain ⟨a3, p3, rfl, -⟩ := hvv
  obtain ⟨q0, q1⟩ := key_cells hA0
  obtain ⟨r0, r1⟩ := key_cells hR0
  have f0 := cells_frozen 0 hR0
  have f1 := cells_frozen 1 hR0
  have HVS := Lib.hid hvs
  clear hA0 hR0 hb0 hvs
  have HZ := Lib.hid hz0
  clear hz0
  go_enter Try.func68, Try.ntmps68
  go_upto_region 1 with fail
  clear hW0
  by_cases hik : isK key = true
  · have hk2 : key.size = 2 := by unfold isK at hik; simpa using hik
    have hne : ((key.size : Int) != 2) = false := by rw [hk2]; rfl
    have HKe := Lib.hid (show setK (A, K) key vl = (A, setX (lowS key) (vl.map lowS) K) by unfold setK; rw [if_pos hik])
    have LK := Lib.hid (fun wr => lower_ref key wr (Nat.le_trans hks (by decide)))
    clear hik hk2
    go_wp2_with fail
    clear hne q0 q1 r0 r1 f0 f1
    go_loopw [7, 8] (fun u i wr => ∃ n : Nat, n ≤ vl.length ∧ i = .int .i64 (n : Int) ∧ Acc W0 ((vl.take n).map lowS) u wr) (fun _ i _ => vl.length - (intOf i).toNat)
    case atStart => exact ⟨0, Nat.zero_le _, rfl, Acc.start W0⟩
    case round =>
      obtain ⟨n, hn, rfl, HA⟩ := hrel
      by_cases hlt : n < vl.length
      · have hni : (n : Int) < (vl.length : Int) := by omega
        have hn0 : (0 : Int) ≤ (n : Int) := by omega
        obtain ⟨x, hx⟩ : ∃ x, vl[n]? = some x := ⟨_, List.getElem?_eq_getElem hlt⟩
        obtain ⟨g, o, rfl, c1⟩ := RV.out.at hx
        have c1 := (HA.2.cell (p := ⟨g, o + n, none⟩) (lt_of_cellF c1)).trans c1
        have LX := Lib.hid (fun wr => lower_ref x wr (Nat.le_trans (HVS.out x (List.mem_of_getElem? hx)) (by decide)))
        have HN := Lib.hid (show (vl.take (n + 1)).map lowS = (vl.take n).map lowS ++ [lowS x] by rw [take_next hx, List.map_append]; rfl)
        have hll : ((vl.take n).map lowS).length ≤ 1000 := by simp; omega
        generalize (vl.take n).map lowS = L at *
        generalize lowS x = y at *
        have HAc := Lib.hid HA
        clear hx HA
        go_wp2_with (first
          | (go_at_call 12; (with_reducible refine (LX.out _).mono ?_); rintro e w5 ⟨rfl, hb5⟩; have HA5 := Lib.hid (HAc.out.belowS hb5); clear hb5)
          | (at_builtin; refine wpList_append_own _ rfl _ _ 26 rfl W0.heap.size 9 i0 (.string ByteArray.empty) 1 16 Try.underlying26 hii iz0 iz1 iz2 rfl (by decide) _ L.length _ rfl (HA5.out.1.alloc _) ⟨_, 0, none⟩ 1 1 [.string y] rfl rfl (cell_one_new _ _ _) (by intro u hu; simp at hu; subst hu; rfl) (by unfold maxLen; omega) (by omega) (by have := HA5.out.2.size; simp; omega) ?_; intro v' w2 hown1 hgrow _))
        go_roundw
        case rel => exact ⟨n + 1, by omega, by go_num, by rw [HN.out]; exact pushS HA5.out hown1 hgrow⟩
        case measure => simp [intOf]; omega
      · obtain rfl : n = vl.length := by omega
        have hni : ¬ (vl.length : Int) < (vl.length : Int) := by omega
        rw [List.take_of_length_le (Nat.le_refl _)] at HA
        go_upto_region 8 with fail
        obtain ⟨W1, rfl⟩ : ∃ x, x = wr := ⟨_, rfl⟩
        have hB1 := HA.2
        have HV1 := Lib.hid (RowU.of_own HA.1)
        obtain ⟨ya, yn, yc, rfl⟩ := own_slice HA.1
        have HQ := Lib.hid (fun w' (hb : Below W1.heap.size W1 w') => key_cells (((hB1.trans (hb.mono hB1.size)).block _ (lt_of_heap HA0.out)).trans HA0.out))
        have HK1 := Lib.hid (show KeyU W1 (.agg #[.slice a1 A.length p1, .slice a2 Z.length p2]) (A, K) from ⟨_, _, rfl, RA.out.below hB1, RK.out.below hB1⟩)
        have HZR := Lib.hid (fun z hz => ((hZ2 z hz).below HB0.out).below hB1)
        have hbw1 := HB0.out.trans (hB1.mono HB0.out.size)
        have NX := Lib.hid (fun (w' : World) (hb : Below W1.heap.size W1 w') => show (a2 = none → Z.length = 0) ∧ ∀ ad, a2 = some ad → ∀ j u, (zcells Z)[j]? = some u → w'.cell? (ad.add j) = some u from ⟨hZ3, fun ad ha j u hu => ((hbw1.trans (hb.mono hbw1.size)).cell (lt_of_cellF' (hZ4 ad ha j u hu))).trans (hZ4 ad ha j u hu)⟩)
        have HSS := Lib.hid (fun (w' : World) (hb : Below W1.heap.size W1 w') => show Below W1.heap.size W1 w' ∧ w'.cell? ⟨w.heap.size, 0, none⟩ = some (.slice a1 A.length p1) ∧ w'.cell? ⟨w.heap.size, 1, none⟩ = some (.slice a2 Z.length p2) from ⟨hb, HQ.out _ hb⟩)
        have hbd : Below W1.heap.size W1 W1.drew := Below.drew (Below.refl _ _)
        have ba : Below W1.heap.size W1 ((W1.drew.alloc (.cells #[.slice none 0 0, .slice none 0 0] 41)).alloc (.cells #[] 53)) := (hbd.alloc (Nat.le_refl _) _).alloc (by simp) _
        have bb : Below W1.heap.size W1 ((W1.drew.alloc (.cells #[] 53)).alloc (.cells #[.slice none 0 0, .slice none 0 0] 41)) := (hbd.alloc (Nat.le_refl _) _).alloc (by simp) _
        have bc : Below W1.heap.size W1 (W1.drew.alloc (.cells #[] 53)) := hbd.alloc (Nat.le_refl _) _
        have b0 : Below W1.heap.size W1 (W1.drew.alloc (.cells #[.slice none 0 0, .slice none 0 0] 41)) := hbd.alloc (Nat.le_refl _) _
        have HOa := Lib.hid (show ((W1.drew.alloc (.cells #[.slice none 0 0, .slice none 0 0] 41)).alloc (.cells #[] 53)).ownsRow W1.heap.size 53 2 (.slice (some ⟨W1.drew.heap.size + 1, 0, none⟩) 0 0) 0 [] from own_noneX (by have := World.alloc_heap_new (W1.drew.alloc (.cells #[.slice none 0 0, .slice none 0 0] 41)) (.cells #[] 53); simpa using this) (Nat.le_succ _))
        have HOc := Lib.hid (show (W1.drew.alloc (.cells #[] 53)).ownsRow W1.heap.size 53 2 (.slice (some ⟨W1.drew.heap.size, 0, none⟩) 0 0) 0 [] from own_noneX (World.alloc_heap_new W1.drew _) (Nat.le_refl _))
        have HOb := Lib.hid (HOc.out.alloc (.cells #[.slice none 0 0, .slice none 0 0] 41))
        have HKa := Lib.hid (show ((W1.drew.alloc (.cells #[.slice none 0 0, .slice none 0 0] 41)).alloc (.cells #[] 53)).heap[W1.heap.size]? = some (.cells #[.slice none 0 0, .slice none 0 0] 41 (0, 0)) from (Below.heap_alloc _ _ _ (by simp)).trans (World.alloc_heap_new W1.drew (.cells #[.slice none 0 0, .slice none 0 0] 41)))
        have HKb := Lib.hid (show ((W1.drew.alloc (.cells #[] 53)).alloc (.cells #[.slice none 0 0, .slice none 0 0] 41)).heap[W1.heap.size + 1]? = some (.cells #[.slice none 0 0, .slice none 0 0] 41 (0, 0)) by have := World.alloc_heap_new (W1.drew.alloc (.cells #[] 53)) (.cells #[.slice none 0 0, .slice none 0 0] 41); simpa using this)
        have Ha := Lib.hid ba
        have Hb := Lib.hid bb
        have Hc := Lib.hid bc
        have H0 := Lib.hid b0
        obtain ⟨-, s1, s2⟩ := HSS.out _ hbd
        have hl1 : 0 + Z.length ≤ 1000 := by omega
        have hzl : Z.length ≤ 100 := hK
        have HBW := Lib.hid hbw1
        have HB1 := Lib.hid hB1
        clear ba bb bc b0 hZ3 hZ4 hZ2 hbw1 hB1 HA
        go_cut [9] from 29 to 35 (fun u wx => ∃ (B : Nat) (a : Option Addr) (n c : Nat), u = .pointer (some ⟨B, 0, none⟩) ∧ SetO W1 wx B (.slice a1 A.length p1) (.slice a n c) Z)
        case first =>
          go_region_held3 (fun w' => Below W1.heap.size W1 w' ∧ w'.cell? ⟨w.heap.size, 0, none⟩ = some (.slice a1 A.length p1) ∧ w'.cell? ⟨w.heap.size, 1, none⟩ = some (.slice a2 Z.length p2))
            (first | exact ⟨by assumption, by assumption, by assumption⟩ | exact HSS.out _ Ha.out | exact HSS.out _ Hb.out | exact HSS.out _ Hc.out | exact HSS.out _ H0.out | exact HSS.out _ hb17 | exact HSS.out _ hbC | exact HSS.out _ (hb17.alloc hs17 _) | exact HSS.out _ (hb17.setCell (Nat.le_refl _) _) | exact HSS.out _ ((hb17.setCell (Nat.le_refl _) _).setCell (Nat.le_refl _) _) | exact HSS.out _ (hb17.setCell (Nat.le_succ _) _) | exact HSS.out _ ((hb17.setCell (Nat.le_succ _) _).setCell (Nat.le_succ _) _) | exact HSS.out _ (hb17.setCell hs17 _) | exact HSS.out _ ((hb17.setCell hs17 _).setCell hs17 _) | exact HSS.out _ ((hb17.alloc hs17 _).setCell hs17 _) | exact HSS.out _ (((hb17.alloc hs17 _).setCell hs17 _).setCell hs17 _))
            (first
              | (refine step_appX _ _ x0 xii xz0 xz1 xz2 (by rfl) (by rfl) _ 0 [] (by rfl) HOa.out Ha.out Ha.out.size a2 p2 Z (by rfl) (NX.out _ Ha.out) hl1 ?_; intro v17 w17 ho17 hb17 hs17 hk17; have kB := Lib.hid (hk17 _ _ HKa.out); obtain ⟨k0, k1⟩ := key_cells kB.out; have f0 := cells_frozen 0 kB.out; have f1 := cells_frozen 1 kB.out; obtain ⟨a17, n17, c17, rfl⟩ := own_slice ho17; have HO17 := Lib.hid ho17; have HB17 := Lib.hid hb17; clear ho17 hk17)
              | (refine step_appX _ _ x0 xii xz0 xz1 xz2 (by rfl) (by rfl) _ 0 [] (by rfl) HOb.out Hb.out Hb.out.size a2 p2 Z (by rfl) (NX.out _ Hb.out) hl1 ?_; intro v17 w17 ho17 hb17 hs17 hk17; have kB := Lib.hid (hk17 _ _ HKb.out); obtain ⟨k0, k1⟩ := key_cells kB.out; have f0 := cells_frozen 0 kB.out; have f1 := cells_frozen 1 kB.out; obtain ⟨a17, n17, c17, rfl⟩ := own_slice ho17; have HO17 := Lib.hid ho17; have HB17 := Lib.hid hb17; clear ho17 hk17)
              | (refine step_appX _ _ x0 xii xz0 xz1 xz2 (by rfl) (by rfl) _ 0 [] (by rfl) HOc.out Hc.out Hc.out.size a2 p2 Z (by rfl) (NX.out _ Hc.out) hl1 ?_; intro v17 w17 ho17 hb17 hs17 hk17; have hbC := hb17.alloc hs17 (.cells #[.slice none 0 0, .slice none 0 0] 41); have kB := Lib.hid (World.alloc_heap_new w17 (.cells #[.slice none 0 0, .slice none 0 0] 41)); obtain ⟨k0, k1⟩ := key_cells kB.out; have f0 := cells_frozen 0 kB.out; have f1 := cells_frozen 1 kB.out; obtain ⟨a17, n17, c17, rfl⟩ := own_slice ho17; have HO17 := Lib.hid ho17; have HB17 := Lib.hid hb17; clear ho17 hk17))
          all_goals
            first
              | (have HE := fin_alloc (x := .slice a1 A.length p1) HO17.out HB17.out hs17; have hlo := hs17; obtain ⟨wE, hwE⟩ : ∃ wE, w17.alloc (.cells #[.slice a1 A.length p1, .slice a17 n17 c17] 41) = wE := ⟨_, rfl⟩; rw [hwE] at HE ⊢; clear hwE)
              | (have HE := fin_set (x := .slice a1 A.length p1) (B := W1.heap.size + 1) kB.out HO17.out HB17.out (Nat.le_succ _); have hlo := Nat.le_succ W1.heap.size; obtain ⟨wE, hwE⟩ : ∃ wE, (w17.setCell ⟨W1.heap.size + 1, 0, none⟩ (.slice a1 A.length p1)).setCell ⟨W1.heap.size + 1, 1, none⟩ (.slice a17 n17 c17) = wE := ⟨_, rfl⟩; rw [hwE] at HE ⊢; clear hwE)
              | (have HE := fin_set (x := .slice a1 A.length p1) (B := W1.heap.size) kB.out HO17.out HB17.out (Nat.le_refl _); have hlo := Nat.le_refl W1.heap.size; obtain ⟨wE, hwE⟩ : ∃ wE, (w17.setCell ⟨W1.heap.size, 0, none⟩ (.slice a1 A.length p1)).setCell ⟨W1.heap.size, 1, none⟩ (.slice a17 n17 c17) = wE := ⟨_, rfl⟩; rw [hwE] at HE ⊢; clear hwE)
          all_goals
            obtain ⟨hE, hoE, hbE⟩ := HE
            have HSO := Lib.hid (show SetO W1 wE _ (.slice a1 A.length p1) (.slice a17 n17 c17) Z from ⟨hE, hlo, ⟨own_normX hoE, HZR.out⟩, hbE⟩)
            clear hE hoE hbE kB k0 k1 f0 f1 HO17 HB17
            (try go_wp2_with fail)
            go_meet
            exact ⟨_, _, _, _, rfl, HSO.out⟩
        case rest =>
          obtain ⟨B, oa, on, oc, rfl, hS⟩ := hcut
          obtain rfl : on = Z.length := own_lenD hS.own.own
          have hB1' := HB1.out
          have GR := Lib.hid (getR_kw (.agg #[.slice a1 A.length p1, .slice a2 Z.length p2]) (A, K) key wc (HK1.out.below hS.bel) (by rw [← hZ1, List.length_map]; exact hK) hks)
          have HKM := Lib.hid hZ1
          have HRW := Lib.hid ((HB1.out.block (w.heap.size + 1) (lt_of_heap HR0.out)).trans HR0.out)
          have hsz1 : w.heap.size + 1 < W1.heap.size := Nat.lt_of_lt_of_le (lt_of_heap HR0.out) HB1.out.size
          obtain ⟨c0, c1⟩ := HQ.out _ hS.bel
          have HS := Lib.hid hS
          clear hS s1 s2 HOa HOb HOc HKa HKb Ha Hb Hc H0 hbd hB1' HSS NX hZ1
          dsimp only at GR
          generalize lowS key = key' at *
          obtain ⟨pi, hpi⟩ : ∃ pi, placeI K key' = pi := ⟨_, rfl⟩
          rw [hpi] at GR
          have HPI := Lib.hid hpi
          clear hpi
          go_upto_region 10 with (go_at_call 65; (with_reducible refine GR.out.mono ?_); rintro e w4 ⟨rfl, hb4⟩)
          have HS4 := Lib.hid (HS.out.below hb4)
          clear hb4 GR c0 c1
          have hKl : K.length = Z.length := by rw [← HKM.out, List.length_map]
          go_upto_if 40 with fail
          go_cut [10] from 41 to 52 (fun u wx => ∃ (p g c : Nat) (Z' : List ZE) (z : ZE), u = .int .i64 (p : Int) ∧ SetO W1 wx B (.slice a1 A.length p1) (.slice (some ⟨g, 0, none⟩) Z'.length c) Z' ∧ Z'[p]? = some z ∧ ∀ t : Option Addr × Nat × Nat, (Z'.set p ((z.1.1, vl.map lowS), t)).map (·.1) = setX key' (vl.map lowS) K)
          case first =>
            by_cases hp : placeN K key' < K.length
            · have hI : pi = (placeN K key' : Int) := by rw [← HPI.out]; unfold placeI; rw [if_pos hp]
              subst hI
              have hp0 : ¬ (placeN K key' : Int) < 0 := by omega
              obtain ⟨z, hz⟩ : ∃ z, Z[placeN K key']? = some z := ⟨_, List.getElem?_eq_getElem (by omega)⟩
              have hzk : K[placeN K key']? = some z.1 := by rw [← HKM.out, List.getElem?_map, HKM.out, hz]; rfl
              have hkk := (placeN_at K key').2 _ hzk
              have HF := Lib.hid (show ∀ t : Option Addr × Nat × Nat, (Z.set (placeN K key') ((z.1.1, vl.map lowS), t)).map (·.1) = setX key' (vl.map lowS) K from fun t => by rw [List.map_set, HKM.out, hkk, setX_old _ hp])
              have HZZ := Lib.hid hz
              have hcs := HS4.out
              obtain ⟨g, cap, hg⟩ := own_someU hcs.own.own (by omega)
              injection hg with e1 _ e3
              subst e1
              subst e3
              clear hcs hz hzk hkk hp
              generalize placeN K key' = n at *
              go_wp2_with fail
              go_meet
              exact ⟨n, g, _, Z, z, rfl, HS4.out, HZZ.out, HF.out⟩
            · have hI : pi = -1 := by rw [← HPI.out]; unfold placeI; rw [if_neg hp]
              subst hI
              have hpn : placeN K key' = K.length := by have := placeN_le K key'; omega
              have HF := Lib.hid (show ∀ t : Option Addr × Nat × Nat, ((Z ++ [((key', []), (none, 0, 0))] : List ZE).set Z.length ((key', vl.map lowS), t)).map (·.1) = setX key' (vl.map lowS) K from fun t => by
                rw [setX_new _ hpn, List.set_append_right _ _ (Nat.le_refl _), Nat.sub_self, List.map_append, HKM.out]
                rfl)
              have HSd := Lib.hid (HS4.out.below (Below.drew (Below.refl _ _)))
              obtain ⟨-, c1⟩ := key_cells HSd.out.blk
              clear hp hpn
              go_upto_region 11 with fail
              go_region_law (first
                | (go_simp; go_at_call 12; (with_reducible refine (LK.out _).mono ?_); rintro e w5 ⟨rfl, hb5⟩; have HS5 := Lib.hid (HSd.out.below hb5); obtain ⟨-, d1⟩ := key_cells HS5.out.blk; have HS6 := Lib.hid (HS5.out.below ((Below.refl _ _).alloc (Nat.le_refl _) (.cells #[.string key', .slice none 0 0] 53))); obtain ⟨-, d2⟩ := key_cells HS6.out.blk; have HNB := Lib.hid (World.alloc_heap_new w5 (.cells #[.string key', .slice none 0 0] 53)); clear hb5)
                | (refine step_append_lies _ rfl _ _ 27 rfl W1.heap.size 53 x0 (.agg #[.string ByteArray.empty, .slice none 0 0]) 2 40 Try.underlying27 xii xz0 xz1 xz2 rfl (by decide) (.slice oa Z.length oc) Z.length (zcells Z) rfl HS6.out.own.own ⟨_, 0, none⟩ 1 1 [.string key', .slice none 0 0] rfl rfl (World.news_of_block HNB.out) (by intro u hu; simp at hu; rcases hu with rfl | rfl <;> rfl) (by decide) (by unfold maxLen; omega) (by omega) HS6.out.bel.size _ rfl ?_; intro g7 cap7 w7 hown7 hgrow7 _ _; obtain ⟨hX7, hS7⟩ := HS6.out.push hown7 hgrow7; obtain ⟨-, d3⟩ := key_cells hX7; have f3 := cells_frozen 1 hX7; have HS7 := Lib.hid hS7; clear hX7 hS7 hown7 hgrow7))
              all_goals
                (try go_wp2_with fail)
                go_meet
                exact ⟨Z.length, g7, cap7, Z ++ [((key', []), (none, 0, 0))], ((key', []), (none, 0, 0)), by go_num, by rw [show (Z ++ [((key', []), (none, 0, 0))] : List ZE).length = Z.length + 1 by simp]; exact HS7.out, by rw [List.getElem?_append_right (Nat.le_refl _), Nat.sub_self]; rfl, HF.out⟩
          case rest =>
            obtain ⟨p, g, c, Z', z, rfl, hS, hz, hF⟩ := hcut
            have hpl : p < Z'.length := (List.getElem?_eq_some_iff.1 hz).1
            have hpi : (p : Int) < (Z'.length : Int) := by omega
            have hp0 : (0 : Int) ≤ (p : Int) := by omega
            obtain ⟨-, c1⟩ := key_cells hS.blk
            have s1 := hS.own.own.cellAt (p * 2 + 1) (by omega)
            rw [List.getElem?_eq_getElem (by rw [zcells_len]; omega)] at s1
            have s2 := hS.own.own.frozenAt (p * 2 + 1)
            have hP := hS.put hz (t := (ya, yn, yc)) HV1.out
            simp only [slc] at hP
            have HP := Lib.hid hP
            have HFF := Lib.hid hF
            clear hz hF hP HS4 HS hKl
            go_upto_region 14 with fail
            obtain ⟨W6, hW6⟩ : ∃ W6, wc.setCell ⟨g, p * 2 + 1, none⟩ (.slice ya yn yc) = W6 := ⟨_, rfl⟩
            rw [hW6] at HP ⊢
            clear hW6 s1 s2 c1
            obtain ⟨c0, c1⟩ := key_cells HP.out.blk
            have hR := (HP.out.bel.block (w.heap.size + 1) hsz1).trans HRW.out
            obtain ⟨r0, r1⟩ := key_cells hR
            have f0 := cells_frozen 0 hR
            have f1 := cells_frozen 1 hR
            have HR := Lib.hid hR
            clear hR
            go_wp2_with fail
            have hkk := HP.out.key (RA.out.below HB1.out)
            rw [HFF.out] at hkk
            obtain ⟨hk1, hk2⟩ := KeyU.stored (k := (A, setX key' (vl.map lowS) K)) hkk.1 hkk.2 HR.out (fun x e => by cases e) (fun x e => by cases e)
            refine bodyPost_ret (results_cell_row rfl _ _ (w.heap.size + 1) 41 _ (0, 0) _ rfl hk2 Try.underlying41 rfl keySize) rfl ?_
            refine ⟨_, rfl, ?_, ((HBW.out.trans (HP.out.bel.mono HBW.out.size)).setCell (by simp) _).setCell (by simp) _⟩
            rw [HKe.out]
            exact hk1
  · have hik : isK key = false := by simpa using hik
    have HKe := Lib.hid (show setK (A, K) key vl = (A, K) by unfold setK; rw [if_neg (by rw [hik]; simp)])
    have hne : ((key.size : Int) != 2) = true := by
      unfold isK at hik
      simp at hik
      rw [bne_iff_ne]
      omega
    clear hik
    go_wp2_with fail
    obtain ⟨hk1, hk2⟩ := KeyU.stored (k := (A, K)) RA.out RK.out HR0.out (fun x e => by cases e) (fun x e => by cases e)
    refine bodyPost_ret (results_cell_row rfl _ _ (w.heap.size + 1) 41 _ (0, 0) _ rfl hk2 Try.underlying41 rfl keySize) rfl ?_
    refine ⟨_, rfl, ?_, (HB0.out.setCell (by simp) _).setCell (by simp) _⟩
    rw [HKe.out]
    exact hk1
end Go.Proofs.Ytgdcdijdpflmdaa
