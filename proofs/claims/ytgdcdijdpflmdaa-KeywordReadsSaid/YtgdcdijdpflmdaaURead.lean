/-
  keyword: Read.
-/
import Derived.Test.YtgdcdijdpflmdaaUCopy
import Derived.Test.YtgdcdijdpflmdaaMClone
namespace Go.Proofs.Ytgdcdijdpflmdaa
open Go Go.RowKit

theorem own_not_ty {w : World} {base B sz : Nat} {e t : TypeId} {v : Value} {n : Nat} {xs : List Value} {cs : Array Value} {fr : Nat × Nat} (h : w.ownsRow base e sz v n xs) (hB : w.heap[B]? = some (.cells cs t fr)) (hne : t ≠ e) : v.ownBlock ≠ some B := by
  rcases h.2 with ⟨rfl, _⟩ | ⟨g, c, cur, rfl, _, hg, _⟩
  · simp [Value.ownBlock]
  · intro e
    have e : g = B := by simpa [Value.ownBlock] using e
    subst e
    rw [hB] at hg
    simp at hg
    exact hne hg.2.1
theorem keySize : (Try.prog.info? 41).map (·.size) = some 2 := by kernel_rfl
theorem own_setOther {w : World} {base e sz n B k : Nat} {v : Value} {xs : List Value} (h : w.ownsRow base e sz v n xs) (hB : v.ownBlock ≠ some B) (u : Value) : (w.setCell ⟨B, k, none⟩ u).ownsRow base e sz v n xs :=
  h.kept (grown_setF (World.grownBy.refl w (some B)) k u) (by
    cases hv : v.ownBlock with
    | none => exact .inl rfl
    | some g => exact .inr (fun e => hB (hv.trans e)))
/-- What Read has read so far: the keywords' block, the keys' own row, and the rows of texts, which lie in an earlier world. -/
structure RdK (w1 wr : World) (K : Nat) (va vk : Value) (D : KX) (us : List Value) : Prop where
  blk : wr.heap[K]? = some (.cells #[va, vk] 41 (0, 0))
  len : us.length = D.length
  own : wr.ownsRow K 53 2 vk D.length (extCells D us)
  row : ∀ (i : Nat) (u : Value) (x : ByteArray × List ByteArray), us[i]? = some u → D[i]? = some x → RowU w1 u x.2
  bel : Below w1.heap.size w1 wr

/-- A struct of two cells that turns, of which none is a text: rows stay. -/
def noStr (cs : Array Value) : Prop := ∀ (i : Nat) (x : ByteArray), cs[i]? ≠ some (.string x)
theorem noStr2 {a b : Value} (ha : ∀ x, a ≠ .string x) (hb : ∀ x, b ≠ .string x) : noStr #[a, b] := by
  intro i x e
  rcases i with _ | _ | i <;> simp at e
  · exact ha x e
  · exact hb x e
theorem RowU.off {W : World} {v u : Value} {l : List ByteArray} {n k : Nat} {cs : Array Value} {t : TypeId} (h : RowU W v l) (hn : W.heap[n]? = some (.cells cs t (0, 0))) (hc : noStr cs) : RowU (W.setCell ⟨n, k, none⟩ u) v l := by
  obtain ⟨ao, c, e, hr⟩ := h
  refine ⟨ao, c, e, fun i x hx => ?_⟩
  obtain ⟨g, o, h1, h2⟩ := hr i x hx
  refine ⟨g, o, h1, ?_⟩
  have hgn : g ≠ n := by
    rintro rfl
    simp [World.cell?, hn] at h2
    exact hc _ x h2
  exact (World.cell?_of_block (a := ⟨g, o + i, none⟩) (Below.heap_setCell W ⟨n, k, none⟩ _ _ hgn)).trans h2
theorem ExtU.off {W : World} {v u : Value} {l : KX} {n k : Nat} {cs : Array Value} {t : TypeId} (h : ExtU W v l) (hn : W.heap[n]? = some (.cells cs t (0, 0))) (hc : noStr cs) : ExtU (W.setCell ⟨n, k, none⟩ u) v l := by
  obtain ⟨ao, c, e, hr⟩ := h
  refine ⟨ao, c, e, fun i x hx => ?_⟩
  obtain ⟨g, o, vs, h1, h2, h3, h4⟩ := hr i x hx
  have hgn : g ≠ n := by
    rintro rfl
    simp [World.cell?, hn] at h2
    exact hc _ _ h2
  exact ⟨g, o, vs, h1, (World.cell?_of_block (a := ⟨g, o + i * 2, none⟩) (Below.heap_setCell W ⟨n, k, none⟩ _ _ hgn)).trans h2,
    (World.cell?_of_block (a := ⟨g, o + i * 2 + 1, none⟩) (Below.heap_setCell W ⟨n, k, none⟩ _ _ hgn)).trans h3, h4.off hn hc⟩
theorem RowU.noStr {W : World} {v : Value} {l : List ByteArray} (h : RowU W v l) : ∀ x, v ≠ .string x := by
  obtain ⟨_, _, rfl, _⟩ := h
  exact fun x e => by cases e
theorem ExtU.noStr {W : World} {v : Value} {l : KX} (h : ExtU W v l) : ∀ x, v ≠ .string x := by
  obtain ⟨_, _, rfl, _⟩ := h
  exact fun x e => by cases e
/-- Keywords laid into the block of the result. -/
theorem KeyU.stored {W : World} {va vk x0 x1 : Value} {k : List ByteArray × KX} {n : Nat} {t : TypeId} (h1 : RowU W va k.1) (h2 : ExtU W vk k.2) (hn : W.heap[n]? = some (.cells #[x0, x1] t (0, 0))) (q0 : ∀ x, x0 ≠ .string x) (q1 : ∀ x, x1 ≠ .string x) :
    KeyU ((W.setCell ⟨n, 0, none⟩ va).setCell ⟨n, 1, none⟩ vk) (.agg #[va, vk]) k ∧ ((W.setCell ⟨n, 0, none⟩ va).setCell ⟨n, 1, none⟩ vk).heap[n]? = some (.cells #[va, vk] t (0, 0)) := by
  have e1 := cells_set (k := 0) hn va
  have e2 := cells_set (k := 1) e1 vk
  have n0 : noStr #[x0, x1] := noStr2 q0 q1
  have n1 : noStr #[va, x1] := noStr2 h1.noStr q1
  exact ⟨⟨va, vk, rfl, (h1.off hn n0).off e1 n1, (h2.off hn n0).off e1 n1⟩, e2⟩
def sliceLen : Value → Nat
  | .slice _ n _ => n
  | _ => 0
theorem readR_fst {k : ByteArray} {t : List ByteArray} (h : (readR (k :: t)).1 = []) : isK k = true := by
  by_cases hk : isK k = true
  · exact hk
  · rw [readR, if_neg hk] at h; cases h
theorem own_capU {w : World} {base n : Nat} {e : TypeId} {sz : Nat} {v : Value} {xs : List Value} (h : w.ownsRow base e sz v n xs) : ∃ a c, v = .slice a n c ∧ n ≤ c := by
  rcases h.2 with ⟨rfl, rfl⟩ | ⟨g, c, cur, rfl, _, _, hnc, _⟩
  · exact ⟨none, 0, rfl, Nat.le_refl _⟩
  · exact ⟨_, c, rfl, hnc⟩
set_option maxRecDepth 100000 in
set_option maxHeartbeats 4000000 in
theorem read_kw (v : Value) (l : List ByteArray) (w : World) (hv : RowU w v l) (hl : l.length ≤ 1000) (hs : ∀ x ∈ l, x.size ≤ 1000) :
    Calls Try.prog 18 #[v] w fun e w' => ∃ u, e = .returned u ∧ KeyU w' u (readK l) ∧ Below w.heap.size w w' := by
  obtain ⟨i0, hii, iz0, iz1, iz2⟩ := info_parts extInfoM
  obtain ⟨W0, hW0⟩ : ∃ W0, w.alloc (.cells #[.slice none 0 0, .slice none 0 0] 41) = W0 := ⟨_, rfl⟩
  have hb0 : Below w.heap.size w W0 := by rw [← hW0]; exact (Below.refl _ w).alloc (Nat.le_refl _) _
  have hR0 : W0.heap[w.heap.size]? = some (.cells #[.slice none 0 0, .slice none 0 0] 41 (0, 0)) := by rw [← hW0]; exact World.alloc_heap_new w _
  have hml : (l.map lowS).length = l.length := by simp
  have CS := Lib.hid (small_own v l W0 (hv.below hb0) (by omega) hs)
  rw [← hml] at CS
  rw [← hml] at hl
  have HM := Lib.hid (show readK l = readR (l.map lowS) from rfl)
  generalize readK l = kk at *
  clear hml hv hs
  generalize l.map lowS = m at *
  have HB0 := Lib.hid hb0
  have HR0 := Lib.hid hR0
  clear hb0 hR0
  go_enter Try.func18, Try.ntmps18
  go_upto_region 1 with fail
  clear hW0
  go_upto_region 2 with (first
    | (go_at_call 56; (with_reducible refine CS.out.mono ?_); rintro e w1 ⟨u, rfl, ho1, hb1⟩; obtain ⟨a, c, rfl, hac⟩ := own_capU ho1; have hu1 := RowU.of_own ho1; have CU := Lib.hid (until_own a c m w1 w1 hu1 (Below.refl _ _) (by omega) hac))
    | (go_at_call 55; (with_reducible refine CU.out.mono ?_); rintro e w2 ⟨⟨a1, c1, a2, rfl, hr1, hr2⟩, hb2⟩))
  have hun := untilN_le m
  have HU := Lib.hid (readR_until m)
  have HR2 := Lib.hid hr1
  have HL2 := Lib.hid hr2
  have HB1 := Lib.hid hb1
  have HB2 := Lib.hid hb2
  clear ho1 hu1 hb1 hb2 hr1 hr2
  go_upto_region 3 with fail
  obtain ⟨W2, hW2⟩ : ∃ W2, w2.alloc (.cells #[.slice a1 (untilN m) c1, .slice none 0 0] 41) = W2 := ⟨_, rfl⟩
  have hK2 : W2.heap[w2.heap.size]? = some (.cells #[.slice a1 (untilN m) c1, .slice none 0 0] 41 (0, 0)) := by rw [← hW2]; exact World.alloc_heap_new w2 _
  have hB2 : Below w2.heap.size w2 W2 := by rw [← hW2]; exact (Below.refl _ w2).alloc (Nat.le_refl _) _
  have HK0 := Lib.hid (show RdK w2 W2 w2.heap.size (.slice a1 (untilN m) c1) (.slice none 0 0) [] [] from ⟨hK2, rfl, World.ownsRow_nil _ _ _ _, fun i u x h => by simp at h, hB2⟩)
  have hl2 : ((m.drop (untilN m)).length = m.length - untilN m) := by simp
  have HL3 : Hid (RowU w1 (.slice a2 (m.drop (untilN m)).length (c - untilN m)) (m.drop (untilN m))) := Lib.hid (by rw [hl2]; exact HL2.out)
  rw [← hl2]
  have HD0 := Lib.hid (show [] ++ (readR (m.drop (untilN m))).2 = kk.2 by rw [HM.out, HU.out.1]; rfl)
  have HF0 := Lib.hid HU.out.2
  have HA0 := Lib.hid (show kk.1 = m.take (untilN m) by rw [HM.out, HU.out.1])
  have hcd : (m.drop (untilN m)).length ≤ c - untilN m := by omega
  have hml2 : (m.drop (untilN m)).length ≤ m.length := by omega
  generalize m.drop (untilN m) = r0 at *
  clear HL2 HU hl2 hK2 hB2 CU hac
  generalize c - untilN m = c0 at *
  generalize untilN m = n0 at *
  have hw12 := HB2.out.size
  clear hun
  trace_state
  rw [hW2]
  clear hW2
  go_loopw [4] (fun left wr => ∃ (r : List ByteArray) (aL : Option Addr) (cL : Nat) (D : KX) (us : List Value) (vk : Value), left = .slice aL r.length cL ∧ r.length ≤ cL ∧ D.length + r.length ≤ m.length ∧ Hid (RowU w1 (.slice aL r.length cL) r) ∧ Hid ((readR r).1 = []) ∧ Hid (D ++ (readR r).2 = kk.2) ∧ Hid (RdK w2 wr w2.heap.size (.slice a1 n0 c1) vk D us)) (fun left _ => sliceLen left)
  case atStart => exact ⟨r0, a2, c0, [], [], _, rfl, hcd, by simp; omega, HL3, HF0, HD0, HK0⟩
  case round =>
    obtain ⟨r, aL, cL, D, us, vk, rfl, hrc, hDl, HRL, HR0', HDD, HK⟩ := hrel
    obtain ⟨ka, kn, kc, rfl⟩ := own_slice HK.out.own
    cases r with
    | nil =>
      have HKo := HK.out
      have d0 := cell_row2 0 HKo.blk rfl
      have d1 := cell_row2 1 HKo.blk rfl
      have hRr := (HKo.bel.block w.heap.size (by have := lt_of_heap HR0.out; have := HB1.out.size; omega)).trans ((HB2.out.block w.heap.size (by have := lt_of_heap HR0.out; have := HB1.out.size; omega)).trans ((HB1.out.block w.heap.size (lt_of_heap HR0.out)).trans HR0.out))
      have r0 := cell_row2 0 hRr rfl
      have r1 := cell_row2 1 hRr rfl
      have f0 := cells_frozen 0 hRr
      have f1 := cells_frozen 1 hRr
      have HRr := Lib.hid hRr
      clear hRr HKo
      go_wp2_with fail
      have HKo := HK.out
      have hA : RowU wr (.slice a1 n0 c1) kk.1 := by rw [HA0.out]; exact (HR2.out.below HB2.out).below HKo.bel
      have hX : ExtU wr (.slice ka kn kc) kk.2 := by
        have e := HDD.out
        simp [readR] at e
        rw [← e]
        exact ExtW.row ⟨us, HKo.len, HKo.own, fun i u x h1 h2 => (HKo.row i u x h1 h2).below HKo.bel⟩
      obtain ⟨hk1, hk2⟩ := KeyU.stored hA hX HRr.out (fun x e => by cases e) (fun x e => by cases e)
      refine bodyPost_ret (results_cell_row rfl _ _ w.heap.size 41 _ (0, 0) _ rfl hk2 Try.underlying41 rfl keySize) rfl ?_
      have hs0 := HB0.out.size
      refine ⟨_, rfl, hk1, ((((HB0.out.trans (HB1.out.mono hs0)).trans (HB2.out.mono (Nat.le_trans hs0 HB1.out.size))).trans (HKo.bel.mono ?_)).setCell (Nat.le_refl _) _).setCell (Nat.le_refl _) _⟩
      have := HB1.out.size; omega
    | cons k t =>
      have hk := readR_fst HR0'.out
      have HDD2 := Lib.hid (show (D ++ [(k, t.take (untilN t))]) ++ (readR (t.drop (untilN t))).2 = kk.2 by
        have e := HDD.out
        rw [readR_key t hk, (readR_until t).1] at e
        rw [List.append_assoc]
        exact e)
      have HR3 := Lib.hid (readR_until t).2
      obtain ⟨g, o, rfl, c0⟩ : ∃ g o, aL = some ⟨g, o, none⟩ ∧ w1.cell? ⟨g, o, none⟩ = some (.string k) := by
        obtain ⟨a', c', he, hc⟩ := HRL.out
        obtain ⟨g, o, h1, h2⟩ := hc 0 k rfl
        injection he with q1 _ _
        exact ⟨g, o, q1.trans h1, h2⟩
      have HKo := HK.out
      have c1' := (HKo.bel.cell (p := ⟨g, o, none⟩) (Nat.lt_of_lt_of_le (lt_of_cellF c0) hw12)).trans ((HB2.out.cell (p := ⟨g, o, none⟩) (lt_of_cellF c0)).trans c0)
      have hrc : t.length + 1 ≤ cL := hrc
      have hDl : D.length + (t.length + 1) ≤ m.length := hDl
      have HT := Lib.hid (fun a2 ha => (RowU.drop (a2 := a2) (n := 1) HRL.out (cL - 1) ha : RowU w1 (.slice a2 t.length (cL - 1)) t))
      have CU := Lib.hid (fun (W : World) (a2 : Option Addr) (ha : RowU w1 (.slice a2 t.length (cL - 1)) t) (hb : Below w1.heap.size w1 W) => until_own a2 (cL - 1) t w1 W ha hb (by omega) (by omega))
      have hun := untilN_le t
      simp only [List.length_cons] at *
      have hpos : (0 : Int) < ((t.length + 1 : Nat) : Int) := by omega
      have h1i : (1 : Int) ≤ ((t.length + 1 : Nat) : Int) := by omega
      have h1c : (1 : Int) ≤ (cL : Int) := by omega
      have HKo := Lib.hid HKo
      clear c0 HRL HR0' HDD HK
      go_upto_region 5 with fail
      obtain ⟨W3, hW3⟩ : ∃ W3, wr.alloc (.cells #[.string k, .slice none 0 0] 53) = W3 := ⟨_, rfl⟩
      have hE3 : W3.heap[wr.heap.size]? = some (.cells #[.string k, .slice none 0 0] 53 (0, 0)) := by rw [← hW3]; exact World.alloc_heap_new wr _
      have hK3 : RdK w2 W3 w2.heap.size (.slice a1 n0 c1) (.slice ka kn kc) D us := by
        rw [← hW3]
        exact ⟨(Below.heap_alloc _ _ _ (lt_of_heap HKo.out.blk)).trans HKo.out.blk, HKo.out.len, HKo.out.own.alloc _, HKo.out.row, HKo.out.bel.alloc HKo.out.bel.size _⟩
      have HE3 := Lib.hid hE3
      have HK3 := Lib.hid hK3
      rw [hW3]
      clear hW3
      have hKE : w2.heap.size ≠ wr.heap.size := by have := lt_of_heap HKo.out.blk; omega
      have hb13 : Below w1.heap.size w1 W3 := HB2.out.trans (HK3.out.bel.mono hw12)
      rcases Nat.lt_or_ge 1 cL with hc1 | hc1
      · have hcL : ¬ cL = 1 := by omega
        have hcLi : ¬ (cL : Int) = 1 := by omega
        have CU2 := Lib.hid (CU.out W3 (some ⟨g, o + 1, none⟩) (HT.out _ (fun g' o' _ h => by cases h; rfl)) hb13)
        clear CU HT
        go_upto_region 6 with (go_at_call 55; (with_reducible refine CU2.out.mono ?_); rintro e w4 ⟨⟨b1, d1, b2, rfl, hq1, hq2⟩, hb4⟩; have hE4 := (hb4.block wr.heap.size (lt_of_heap HE3.out)).trans HE3.out; have e0 := cell_row2 0 hE4 rfl; have e1 := cell_row2 1 hE4 rfl; have f1 := cells_frozen 1 hE4; have HE4 := Lib.hid hE4; have HQ1 := Lib.hid hq1; have HQ2 := Lib.hid hq2; have HB4 := Lib.hid hb4; clear hE4 hq1 hq2 hb4)
        obtain ⟨W5, hW5⟩ : ∃ W5, w4.setCell ⟨wr.heap.size, 1, none⟩ (.slice b1 (untilN t) d1) = W5 := ⟨_, rfl⟩
        have hE5 : W5.heap[wr.heap.size]? = some (.cells #[.string k, .slice b1 (untilN t) d1] 53 (0, 0)) := by rw [← hW5]; exact cells_set (k := 1) HE4.out _
        have hK5 : RdK w2 W5 w2.heap.size (.slice a1 n0 c1) (.slice ka kn kc) D us := by
          have hK4 : RdK w2 w4 w2.heap.size (.slice a1 n0 c1) (.slice ka kn kc) D us :=
            ⟨(HB4.out.block _ (lt_of_heap HK3.out.blk)).trans HK3.out.blk, HK3.out.len, ownsRow_belowF HK3.out.own HB4.out, HK3.out.row, HK3.out.bel.trans (HB4.out.mono HK3.out.bel.size)⟩
          rw [← hW5]
          refine ⟨(Below.heap_setCell _ _ _ _ hKE).trans hK4.blk, hK4.len, own_setOther hK4.own (fun e => ?_) _, hK4.row, hK4.bel.setCell (by have := HKo.out.bel.size; exact this) _⟩
          have := (HKo.out.own.lt _ e).2
          omega
        rw [hW5]
        clear hW5
        have q1 := cell_row2 1 hK5.blk rfl
        have p0 := cell_row2 0 hE5 rfl
        have p1 := cell_row2 1 hE5 rfl
        have hKl := lt_of_heap hK5.blk
        have HK5 := Lib.hid hK5
        have hneK : (Value.slice ka kn kc).ownBlock ≠ some w2.heap.size := own_not_ty hK5.own hK5.blk (by decide)
        clear hK5 hE5
        go_wp2_with (at_builtin; refine wpList_append_own _ rfl _ _ 27 rfl w2.heap.size 53 i0 (.agg #[.string ByteArray.empty, .slice none 0 0]) 2 40 Try.underlying27 hii iz0 iz1 iz2 rfl (by decide) _ D.length _ rfl (HK5.out.own.alloc _) ⟨_, 0, none⟩ 1 1 [.string k, .slice b1 (untilN t) d1] rfl rfl (cell_two_new _ _ _ _) (by intro u hu; simp at hu; rcases hu with rfl | rfl <;> rfl) (by unfold maxLen; omega) (by omega) (by simp; omega) ?_; intro v' w6 hown6 hgrow6 _; have hK6 := (hgrow6.block w2.heap.size (by simp; omega) (fun e => hneK e.symm)).trans ((Below.heap_alloc _ _ _ hKl).trans HK5.out.blk); have x1 := cell_row2 1 hK6 rfl; have x2 := cells_frozen 1 hK6; obtain ⟨va, vn, vc, rfl⟩ := own_slice hown6; have HK6 := Lib.hid hK6; have HO6 := Lib.hid hown6; have HG6 := Lib.hid hgrow6; clear hK6 hown6 hgrow6)
        go_roundw
        case rel =>
          have hlt : (t.drop (untilN t)).length = t.length - untilN t := by simp
          have hltk : (t.take (untilN t)).length = untilN t := by simp; omega
          refine ⟨t.drop (untilN t), b2, cL - 1 - untilN t, D ++ [(k, t.take (untilN t))], us ++ [.slice b1 (untilN t) d1], .slice va vn vc, by rw [hlt], by rw [hlt]; omega, by rw [hlt]; simp; omega, Lib.hid (by rw [hlt]; exact HQ2.out), HR3, HDD2, Lib.hid ⟨cells_set (k := 1) HK6.out _, by simp [HK5.out.len], ?_, ?_, ?_⟩⟩
          · have ho := own_setOther (B := w2.heap.size) (k := 1) HO6.out (own_not_ty HO6.out HK6.out (by decide)) (.slice va vn vc)
            have e : extCells (D ++ [(k, t.take (untilN t))]) (us ++ [.slice b1 (untilN t) d1]) = extCells D us ++ [.string k, .slice b1 (untilN t) d1] := by
              unfold extCells
              rw [List.zip_append HK5.out.len.symm, List.flatMap_append]
              rfl
            rw [e, List.length_append]
            exact ho
          · intro i u x hu hx
            rcases Nat.lt_or_ge i us.length with hi | hi
            · rw [List.getElem?_append_left hi] at hu
              rw [List.getElem?_append_left (by have := HK5.out.len; omega)] at hx
              exact HK5.out.row i u x hu hx
            · rw [List.getElem?_append_right hi] at hu
              rw [List.getElem?_append_right (by have := HK5.out.len; omega), ← HK5.out.len] at hx
              have hi0 : i - us.length = 0 := by
                rcases Nat.eq_zero_or_pos (i - us.length) with h0 | h0
                · exact h0
                · rw [List.getElem?_eq_none (by simp; omega)] at hu; cases hu
              rw [hi0] at hu hx
              simp at hu hx
              subst hu hx
              exact HQ1.out.below HB2.out
          · exact ((HK5.out.bel.alloc HK5.out.bel.size _).grown HG6.out (by have := HK5.out.bel.size; simp; omega) (fun g hg => (HK5.out.own.lt g hg).1)).setCell (Nat.le_refl _) _
        case measure => simp [sliceLen]; omega
      · have hcL : cL = 1 := by omega
        subst hcL
        obtain rfl : t = [] := List.eq_nil_of_length_eq_zero (by omega)
        have CU2 := CU.out W3 (some ⟨g, o, none⟩) (HT.out _ (fun g' o' h _ => by simp at h)) hb13
        simp [untilN] at CU2
        have CU2 := Lib.hid CU2
        have HR3' : Hid ((readR ([] : List ByteArray)).1 = []) := Lib.hid rfl
        have HDD2' : Hid ((D ++ [(k, ([] : List ByteArray))]) ++ (readR ([] : List ByteArray)).2 = kk.2) := Lib.hid (by have e := HDD2.out; simpa [untilN] using e)
        clear CU HT HR3 HDD2
        go_upto_region 6 with (go_at_call 55; (with_reducible refine CU2.out.mono ?_); rintro e w4 ⟨⟨b1, d1, b2, rfl, hq1, hq2⟩, hb4⟩; have hE4 := (hb4.block wr.heap.size (lt_of_heap HE3.out)).trans HE3.out; have e0 := cell_row2 0 hE4 rfl; have e1 := cell_row2 1 hE4 rfl; have f1 := cells_frozen 1 hE4; have HE4 := Lib.hid hE4; have HQ1 := Lib.hid hq1; have HQ2 := Lib.hid hq2; have HB4 := Lib.hid hb4; clear hE4 hq1 hq2 hb4)
        obtain ⟨W5, hW5⟩ : ∃ W5, w4.setCell ⟨wr.heap.size, 1, none⟩ (.slice b1 (0) d1) = W5 := ⟨_, rfl⟩
        have hE5 : W5.heap[wr.heap.size]? = some (.cells #[.string k, .slice b1 (0) d1] 53 (0, 0)) := by rw [← hW5]; exact cells_set (k := 1) HE4.out _
        have hK5 : RdK w2 W5 w2.heap.size (.slice a1 n0 c1) (.slice ka kn kc) D us := by
          have hK4 : RdK w2 w4 w2.heap.size (.slice a1 n0 c1) (.slice ka kn kc) D us :=
            ⟨(HB4.out.block _ (lt_of_heap HK3.out.blk)).trans HK3.out.blk, HK3.out.len, ownsRow_belowF HK3.out.own HB4.out, HK3.out.row, HK3.out.bel.trans (HB4.out.mono HK3.out.bel.size)⟩
          rw [← hW5]
          refine ⟨(Below.heap_setCell _ _ _ _ hKE).trans hK4.blk, hK4.len, own_setOther hK4.own (fun e => ?_) _, hK4.row, hK4.bel.setCell (by have := HKo.out.bel.size; exact this) _⟩
          have := (HKo.out.own.lt _ e).2
          omega
        rw [hW5]
        clear hW5
        have q1 := cell_row2 1 hK5.blk rfl
        have p0 := cell_row2 0 hE5 rfl
        have p1 := cell_row2 1 hE5 rfl
        have hKl := lt_of_heap hK5.blk
        have HK5 := Lib.hid hK5
        have hneK : (Value.slice ka kn kc).ownBlock ≠ some w2.heap.size := own_not_ty hK5.own hK5.blk (by decide)
        clear hK5 hE5
        go_wp2_with (at_builtin; refine wpList_append_own _ rfl _ _ 27 rfl w2.heap.size 53 i0 (.agg #[.string ByteArray.empty, .slice none 0 0]) 2 40 Try.underlying27 hii iz0 iz1 iz2 rfl (by decide) _ D.length _ rfl (HK5.out.own.alloc _) ⟨_, 0, none⟩ 1 1 [.string k, .slice b1 (0) d1] rfl rfl (cell_two_new _ _ _ _) (by intro u hu; simp at hu; rcases hu with rfl | rfl <;> rfl) (by unfold maxLen; omega) (by omega) (by simp; omega) ?_; intro v' w6 hown6 hgrow6 _; have hK6 := (hgrow6.block w2.heap.size (by simp; omega) (fun e => hneK e.symm)).trans ((Below.heap_alloc _ _ _ hKl).trans HK5.out.blk); have x1 := cell_row2 1 hK6 rfl; have x2 := cells_frozen 1 hK6; obtain ⟨va, vn, vc, rfl⟩ := own_slice hown6; have HK6 := Lib.hid hK6; have HO6 := Lib.hid hown6; have HG6 := Lib.hid hgrow6; clear hK6 hown6 hgrow6)
        go_roundw
        case rel =>
          refine ⟨([] : List ByteArray), b2, 0, D ++ [(k, ([] : List ByteArray))], us ++ [.slice b1 (0) d1], .slice va vn vc, rfl, by simp, by simp; omega, Lib.hid HQ2.out, HR3', HDD2', Lib.hid ⟨cells_set (k := 1) HK6.out _, by simp [HK5.out.len], ?_, ?_, ?_⟩⟩
          · have ho := own_setOther (B := w2.heap.size) (k := 1) HO6.out (own_not_ty HO6.out HK6.out (by decide)) (.slice va vn vc)
            have e : extCells (D ++ [(k, ([] : List ByteArray))]) (us ++ [.slice b1 (0) d1]) = extCells D us ++ [.string k, .slice b1 (0) d1] := by
              unfold extCells
              rw [List.zip_append HK5.out.len.symm, List.flatMap_append]
              rfl
            rw [e, List.length_append]
            exact ho
          · intro i u x hu hx
            rcases Nat.lt_or_ge i us.length with hi | hi
            · rw [List.getElem?_append_left hi] at hu
              rw [List.getElem?_append_left (by have := HK5.out.len; omega)] at hx
              exact HK5.out.row i u x hu hx
            · rw [List.getElem?_append_right hi] at hu
              rw [List.getElem?_append_right (by have := HK5.out.len; omega), ← HK5.out.len] at hx
              have hi0 : i - us.length = 0 := by
                rcases Nat.eq_zero_or_pos (i - us.length) with h0 | h0
                · exact h0
                · rw [List.getElem?_eq_none (by simp; omega)] at hu; cases hu
              rw [hi0] at hu hx
              simp at hu hx
              subst hu hx
              exact HQ1.out.below HB2.out
          · exact ((HK5.out.bel.alloc HK5.out.bel.size _).grown HG6.out (by have := HK5.out.bel.size; simp; omega) (fun g hg => (HK5.out.own.lt g hg).1)).setCell (Nat.le_refl _) _
        case measure => simp [sliceLen]
end Go.Proofs.Ytgdcdijdpflmdaa
