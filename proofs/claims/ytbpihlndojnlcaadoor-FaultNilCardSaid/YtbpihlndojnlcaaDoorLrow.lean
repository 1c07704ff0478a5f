/-
  The statements' own function row: a row of items, cut to nine, their texts to twelve bytes.
-/
import Derived.Test.YtbpihlndojnlcaaDoorProg
import Derived.WalkKit
import Derived.OneCell
import Derived.Lib.Hide
import Derived.WalkSmall
import Derived.Laws.NewBlocks
import Derived.OwnWalk
import Derived.RangeFuncBox
namespace Go.Proofs.YtbpihlndojnlcaaDoor
open Go Go.RowKit

abbrev Item := Int × ByteArray
def icells (l : List Item) : List Value := l.flatMap fun x => [.int .i64 x.1, .string x.2]
theorem icells_length (l : List Item) : (icells l).length = l.length * 2 := by
  induction l with
  | nil => rfl
  | cons x r ih => simp [icells] at ih ⊢; omega
theorem icells_append (a b : List Item) : icells (a ++ b) = icells a ++ icells b := by simp [icells]
def tr12 (s : ByteArray) : ByteArray := if 12 < s.size then s.extract 0 12 else s
def cutItems (l : List Item) : List Item := (l.take 9).map fun x => (x.1, tr12 x.2)

/-- A slice of items that came in, as it reads. -/
def ItemsAt (w : World) (v : Value) (its : List Item) : Prop :=
  (v = .slice none 0 0 ∧ its = []) ∨ ∃ a cap, v = .slice (some a) its.length cap ∧ its.length ≤ cap ∧ cap ≤ maxLen ∧
    ∀ i x, its[i]? = some x → w.cell? (a.add (i * 2)) = some (.int .i64 x.1) ∧ w.cell? (a.add (i * 2 + 1)) = some (.string x.2)

theorem lt_of_cell' {W : World} {a : Addr} {v : Value} (h : W.cell? a = some v) : a.block < W.heap.size := by
  rcases Nat.lt_or_ge a.block W.heap.size with h' | h'
  · exact h'
  · simp [World.cell?, Array.getElem?_eq_none h'] at h
theorem two_cells {W : World} {B : Nat} {a b : Value} {t : TypeId} (h : W.heap[B]? = some (.cells #[a, b] t (0, 0))) :
    W.cell? ⟨B, 0, none⟩ = some a ∧ W.cell? ⟨B, 1, none⟩ = some b ∧ W.frozen? ⟨B, 0, none⟩ = false ∧ W.frozen? ⟨B, 1, none⟩ = false := by
  simp [World.cell?, World.frozen?, h]
theorem two_setCell {W : World} {B : Nat} {a b : Value} {t : TypeId} (u : Value) (h : W.heap[B]? = some (.cells #[a, b] t (0, 0))) :
    (W.setCell ⟨B, 0, none⟩ u).heap[B]? = some (.cells #[u, b] t (0, 0)) := by
  obtain ⟨hl, he⟩ := Array.getElem?_eq_some_iff.1 h
  simp [World.setCell, Array.getElem?_modify, h]
theorem block_new (w : World) (o : Obj) : (w.alloc o).heap[w.heap.size]? = some o := by
  show (w.heap.push o)[w.heap.size]? = some o
  simp
theorem itemInfo : (Tryd.prog.info? 38).map (fun i => (i.zero, i.size, i.bytes)) = some (some (.agg #[.int .i64 0, .string ByteArray.empty]), 2, 24) := by kernel_rfl

/-- The loop of row: what has been collected; its own variables. -/
def LrI (w : World) (its : List Item) (j : Nat) (v : Value) (kk : Int) (wr : World) : Prop :=
  wr.heap[w.heap.size + 1]? = some (.cells #[v, .int .i64 kk] 26 (0, 0)) ∧ wr.heap[w.heap.size]? = some (.cells #[.slice none 0 0, .int .i64 0] 26 (0, 0)) ∧
  wr.ownsRow (w.heap.size + 2) 38 2 v j (icells ((its.take j).map fun x => (x.1, tr12 x.2))) ∧ Below w.heap.size w wr ∧ w.heap.size + 2 ≤ wr.heap.size

theorem owns_shape {w : World} {B : Nat} {e : TypeId} {sz : Nat} {v : Value} {n : Nat} {xs : List Value} (h : w.ownsRow B e sz v n xs) : v = .slice none 0 0 ∨ ∃ g cap, v = .slice (some ⟨g, 0, none⟩) n cap := by
  rcases h.2 with ⟨h, _⟩ | ⟨g, cap, _, h, _⟩
  · exact .inl h
  · exact .inr ⟨g, cap, h⟩
theorem two_setCell1 {W : World} {B : Nat} {a b : Value} {t : TypeId} (u : Value) (h : W.heap[B]? = some (.cells #[a, b] t (0, 0))) :
    (W.setCell ⟨B, 1, none⟩ u).heap[B]? = some (.cells #[a, u] t (0, 0)) := by
  obtain ⟨hl, he⟩ := Array.getElem?_eq_some_iff.1 h
  simp [World.setCell, Array.getElem?_modify, h]
theorem lr_end {w wr : World} {its : List Item} {j : Nat} {v a b : Value} {kk : Int} (hr0 : wr.heap[w.heap.size]? = some (.cells #[a, b] 26 (0, 0)))
    (hown : wr.ownsRow (w.heap.size + 2) 38 2 v j (icells ((its.take j).map fun x => (x.1, tr12 x.2)))) (hB : Below w.heap.size w wr) (hcut : cutItems its = (its.take j).map fun x => (x.1, tr12 x.2)) (hlj : (its.take j).length = j) :
    ((wr.setCell ⟨w.heap.size, 0, none⟩ v).setCell ⟨w.heap.size, 1, none⟩ (.int .i64 kk)).heap[w.heap.size]? = some (.cells #[v, .int .i64 kk] 26 (0, 0)) ∧
    ((wr.setCell ⟨w.heap.size, 0, none⟩ v).setCell ⟨w.heap.size, 1, none⟩ (.int .i64 kk)).ownsRow (w.heap.size + 2) 38 2 v (cutItems its).length (icells (cutItems its)) ∧
    Below w.heap.size w ((wr.setCell ⟨w.heap.size, 0, none⟩ v).setCell ⟨w.heap.size, 1, none⟩ (.int .i64 kk)) := by
  have hne : v.ownBlock ≠ some w.heap.size := fun e => by have := (hown.lt _ e).1; omega
  refine ⟨two_setCell1 _ (two_setCell _ hr0), ?_, (hB.setCell (p := ⟨w.heap.size, 0, none⟩) (Nat.le_refl _) _).setCell (p := ⟨w.heap.size, 1, none⟩) (Nat.le_refl _) _⟩
  rw [hcut, List.length_map, hlj]
  exact ownsRow_setCell_other (ownsRow_setCell_other hown hne _) hne _
theorem ownsRow_base {w : World} {B B' : Nat} {e : TypeId} {sz : Nat} {v : Value} {n : Nat} {xs : List Value} (h : w.ownsRow B e sz v n xs) (hB : B' ≤ B) : w.ownsRow B' e sz v n xs := by
  refine ⟨h.1, ?_⟩
  rcases h.2 with h | ⟨g, cap, cur, h1, h2, h3⟩
  · exact .inl h
  · exact .inr ⟨g, cap, cur, h1, by omega, h3⟩
theorem lr_app {w wr w1 : World} {j : Nat} {v v' : Value} {kk : Int} {X Y : Obj} {xs ys : List Value}
    (hR : wr.heap[w.heap.size + 1]? = some (.cells #[v, .int .i64 kk] 26 (0, 0))) (hR0 : wr.heap[w.heap.size]? = some (.cells #[.slice none 0 0, .int .i64 0] 26 (0, 0)))
    (hown : wr.ownsRow (w.heap.size + 2) 38 2 v j xs) (hB : Below w.heap.size w wr) (hsz : w.heap.size + 2 ≤ wr.heap.size)
    (hown1 : w1.ownsRow (w.heap.size + 2) 38 2 v' (j + 1) ys) (hgrow : ((wr.alloc X).alloc Y).grownBy w1 v.ownBlock) :
    ∃ g' cap', v' = .slice (some ⟨g', 0, none⟩) (j + 1) cap' ∧ w.heap.size + 2 ≤ g' ∧ w1.cell? ⟨w.heap.size + 1, 0, none⟩ = some v ∧ w1.frozen? ⟨w.heap.size + 1, 0, none⟩ = false ∧
      Hid (w1.heap[w.heap.size + 1]? = some (.cells #[v, .int .i64 kk] 26 (0, 0)) ∧ w1.heap[w.heap.size]? = some (.cells #[.slice none 0 0, .int .i64 0] 26 (0, 0)) ∧ Below w.heap.size w w1 ∧ w.heap.size + 2 ≤ w1.heap.size) := by
  have hgs := hgrow.size
  simp only [World.size_alloc] at hgs
  have hne : ∀ r, v.ownBlock = some r → w.heap.size + 2 ≤ r := fun r e => (hown.lt r e).1
  have hR1' : w1.heap[w.heap.size + 1]? = some (.cells #[v, .int .i64 kk] 26 (0, 0)) := (hgrow.block _ (by simp; omega) (fun e => by have := hne _ e.symm; omega)).trans ((Below.heap_alloc _ _ _ (by simp; omega)).trans ((Below.heap_alloc _ _ _ (by omega)).trans hR))
  have hR0' : w1.heap[w.heap.size]? = some (.cells #[.slice none 0 0, .int .i64 0] 26 (0, 0)) := (hgrow.block _ (by simp; omega) (fun e => by have := hne _ e.symm; omega)).trans ((Below.heap_alloc _ _ _ (by simp; omega)).trans ((Below.heap_alloc _ _ _ (by omega)).trans hR0))
  have hB1 : Below w.heap.size w w1 := ((hB.alloc hB.size _).alloc (by simp; omega) _).grown hgrow (by simp; omega) (fun r e => by have := hne r e; omega)
  obtain ⟨g', cap', rfl⟩ := ownsRow_succ hown1
  obtain ⟨hq0, hq1, hq2, hq3⟩ := two_cells hR1'
  exact ⟨g', cap', rfl, (hown1.lt g' rfl).1, hq0, hq2, hR1', hR0', hB1, by omega⟩

set_option maxRecDepth 100000 in
set_option maxHeartbeats 1000000 in
theorem lrow_some (k : Int) (b off cap : Nat) (its : List Item) (w : World) (_hl : its.length ≤ cap) (_hm : cap ≤ maxLen)
    (hc : ∀ i x, its[i]? = some x → w.cell? ⟨b, off + i * 2, none⟩ = some (.int .i64 x.1) ∧ w.cell? ⟨b, off + i * 2 + 1, none⟩ = some (.string x.2)) :
    Calls Tryd.prog 10 #[.slice (some ⟨b, off, none⟩) its.length cap, .int .i64 k] w fun e w' => ∃ v, e = .returned (.agg #[v, .int .i64 (if k = 0 then 12 else k)]) ∧
      w'.ownsRow (w.heap.size + 2) 38 2 v (cutItems its).length (icells (cutItems its)) ∧ Below w.heap.size w w' := by
  obtain ⟨i0, hi, hz0, hz1, hz2⟩ := info_parts itemInfo
  unfold maxLen at _hm
  obtain ⟨kk, hkk⟩ : ∃ kk : Int, (if k = 0 then 12 else k) = kk := ⟨_, rfl⟩
  rw [hkk]
  have hcase : (k = 0 ∧ Hid (kk = 12)) ∨ ((k == 0) = false ∧ Hid (kk = k)) := by
    by_cases h : k = 0
    · exact .inl ⟨h, by rw [← hkk, if_pos h]; exact rfl⟩
    · exact .inr ⟨by simpa using h, by rw [← hkk, if_neg h]; exact rfl⟩
  clear hkk
  have HC := Lib.hid hc
  clear hc
  rcases hcase with ⟨rfl, HK⟩ | ⟨hk0, HK⟩
  all_goals
    go_enter Tryd.func10, Tryd.ntmps10
    go_wp2
    go_loopw [6, 7] (fun i _ wr => ∃ (j : Nat) (v : Value), i = .int .i64 j ∧ j ≤ its.length ∧ j ≤ 9 ∧ LrI w its j v kk wr) (fun i _ _ => 9 - (intOf i).toNat)
    case atStart =>
      refine ⟨0, .slice none 0 0, rfl, Nat.zero_le _, Nat.zero_le _, ?_, ?_, ?_, ((Below.refl _ w).alloc (Nat.le_refl _) _).alloc (by simp) _, by simp⟩
      · have := block_new (w.alloc (.cells #[.slice none 0 0, .int .i64 0] 26 (0, 0))) (.cells #[.slice none 0 0, .int .i64 kk] 26 (0, 0))
        rw [World.size_alloc] at this
        rw [HK.out] at this ⊢
        exact this
      · rw [Below.heap_alloc _ _ _ (by simp)]; exact block_new _ _
      · exact World.ownsRow_nil _ _ _ _
    case round =>
      obtain ⟨j, v, rfl, hj1, hj2, hr1, hr0, hown, hB, hsz⟩ := hrel
      by_cases hlt : j < its.length
      · by_cases hlt9 : j < 9
        · obtain ⟨hx1, hx2⟩ := HC.out j its[j] (List.getElem?_eq_getElem hlt)
          obtain ⟨x, hxe⟩ : ∃ x, its[j] = x := ⟨_, rfl⟩
          rw [hxe] at hx1 hx2
          have HXe := Lib.hid hxe
          clear hxe
          have hb := lt_of_cell' hx1
          have hy1 := (hB.cell (p := ⟨b, off + j * 2, none⟩) hb).trans hx1
          have hy2 := (hB.cell (p := ⟨b, off + j * 2 + 1, none⟩) hb).trans hx2
          obtain ⟨hR0, hR1, hF0, hF1⟩ := two_cells hr1
          have hRl : w.heap.size + 1 < wr.heap.size := by omega
          have hgl := hown.lt
          have HR := Lib.hid hr1
          have HR0 := Lib.hid hr0
          have HG := Lib.hid hgl
          clear hr1 hr0 hgl hx1 hx2 hb
          by_cases h12 : 12 < x.2.size
          · have h12' : (12 : Int) < (x.2.size : Int) := by omega
            have hnews : ∀ j u, [Value.int .i64 x.1, .string (x.2.extract 0 12)][j]? = some u → ((wr.alloc (.cells #[.int .i64 x.1, .string (x.2.extract 0 12)] 38)).alloc (.cells #[.int .i64 x.1, .string (x.2.extract 0 12)] 38)).cell? ((⟨wr.heap.size + 1, 0, none⟩ : Addr).add j) = some u := by
              have := cell_two_new (wr.alloc (.cells #[.int .i64 x.1, .string (x.2.extract 0 12)] 38)) (.int .i64 x.1) (.string (x.2.extract 0 12)) 38
              simpa only [World.size_alloc] using this
            have HN := Lib.hid hnews
            clear hnews
            go_wp2_with (at_builtin; refine wpList_append_own _ rfl _ _ 22 rfl (w.heap.size + 2) 38 i0 (.agg #[.int .i64 0, .string ByteArray.empty]) 2 24 Tryd.underlying22 hi hz0 hz1 hz2 rfl (by decide) _ _ _ rfl ((hown.alloc _).alloc _) ⟨wr.heap.size + 1, 0, none⟩ 1 1 [.int .i64 x.1, .string (x.2.extract 0 12)] rfl rfl HN.out (by intro u hu; simp at hu; rcases hu with rfl | rfl <;> rfl) (by unfold maxLen; omega) (by omega) (by simp; omega) ?_; intro v' w1 hown1 hgrow _; obtain ⟨g', cap', rfl, hg', hq0, hq2, HREST⟩ := lr_app HR.out HR0.out hown hB hsz hown1 hgrow; have HO1 := Lib.hid hown1; clear hown1 hgrow hown)
            go_roundw
            case rel =>
              obtain ⟨hr1, hr2, hB1, hs1⟩ := HREST.out
              refine ⟨j + 1, _, by go_num, by omega, by omega, two_setCell _ hr1, (Below.heap_setCell _ _ _ _ (by simp)).trans hr2, ?_, hB1.setCell (p := ⟨w.heap.size + 1, 0, none⟩) (by simp) _, by simpa [World.setCell] using hs1⟩
              have e1 : icells ((its.take (j + 1)).map fun x => (x.1, tr12 x.2)) = icells ((its.take j).map fun x => (x.1, tr12 x.2)) ++ [.int .i64 x.1, .string (x.2.extract 0 12)] := by
                rw [List.take_succ_eq_append_getElem hlt, List.map_append, icells_append, HXe.out]
                simp [icells, tr12, h12]
              rw [e1]
              exact ownsRow_setCell_other HO1.out (by simp [Value.ownBlock]; omega) _
            case measure => simp [intOf]; omega
          · have h12' : ¬ (12 : Int) < (x.2.size : Int) := by omega
            have hnews : ∀ j u, [Value.int .i64 x.1, .string (x.2)][j]? = some u → ((wr.alloc (.cells #[.int .i64 x.1, .string (x.2)] 38)).alloc (.cells #[.int .i64 x.1, .string (x.2)] 38)).cell? ((⟨wr.heap.size + 1, 0, none⟩ : Addr).add j) = some u := by
              have := cell_two_new (wr.alloc (.cells #[.int .i64 x.1, .string (x.2)] 38)) (.int .i64 x.1) (.string (x.2)) 38
              simpa only [World.size_alloc] using this
            have HN := Lib.hid hnews
            clear hnews
            go_wp2_with (at_builtin; refine wpList_append_own _ rfl _ _ 22 rfl (w.heap.size + 2) 38 i0 (.agg #[.int .i64 0, .string ByteArray.empty]) 2 24 Tryd.underlying22 hi hz0 hz1 hz2 rfl (by decide) _ _ _ rfl ((hown.alloc _).alloc _) ⟨wr.heap.size + 1, 0, none⟩ 1 1 [.int .i64 x.1, .string (x.2)] rfl rfl HN.out (by intro u hu; simp at hu; rcases hu with rfl | rfl <;> rfl) (by unfold maxLen; omega) (by omega) (by simp; omega) ?_; intro v' w1 hown1 hgrow _; obtain ⟨g', cap', rfl, hg', hq0, hq2, HREST⟩ := lr_app HR.out HR0.out hown hB hsz hown1 hgrow; have HO1 := Lib.hid hown1; clear hown1 hgrow hown)
            go_roundw
            case rel =>
              obtain ⟨hr1, hr2, hB1, hs1⟩ := HREST.out
              refine ⟨j + 1, _, by go_num, by omega, by omega, two_setCell _ hr1, (Below.heap_setCell _ _ _ _ (by simp)).trans hr2, ?_, hB1.setCell (p := ⟨w.heap.size + 1, 0, none⟩) (by simp) _, by simpa [World.setCell] using hs1⟩
              have e1 : icells ((its.take (j + 1)).map fun x => (x.1, tr12 x.2)) = icells ((its.take j).map fun x => (x.1, tr12 x.2)) ++ [.int .i64 x.1, .string (x.2)] := by
                rw [List.take_succ_eq_append_getElem hlt, List.map_append, icells_append, HXe.out]
                simp [icells, tr12, h12]
              rw [e1]
              exact ownsRow_setCell_other HO1.out (by simp [Value.ownBlock]; omega) _
            case measure => simp [intOf]; omega
        · obtain rfl : j = 9 := by omega
          obtain ⟨hR0, hR1, hF0, hF1⟩ := two_cells hr1
          obtain ⟨hQ0, hQ1, hG0, hG1⟩ := two_cells hr0
          have hcut : cutItems its = (its.take 9).map fun x => (x.1, tr12 x.2) := by
            rfl
          have hlj : (its.take 9).length = 9 := by rw [List.length_take]; omega
          have HR0 := Lib.hid hr0
          have HW := Lib.hid hown
          have HB := Lib.hid hB
          have HC2 := Lib.hid hcut
          have HLJ := Lib.hid hlj
          have hgl := hown.lt
          have HG := Lib.hid hgl
          clear hr1 hr0 hown hB hcut hgl hlj
          rcases owns_shape HW.out with rfl | ⟨g, gc, rfl⟩
          · go_wp2
            obtain ⟨h1, h2, h3⟩ := lr_end (kk := kk) HR0.out HW.out HB.out HC2.out HLJ.out
            obtain ⟨c0, c1, _, _⟩ := two_cells h1
            refine bodyPost_ret (v := .agg #[.slice none 0 0, .int .i64 kk]) (by simp [results, Tryd.results10, go_sem, c0, c1]) rfl ⟨_, rfl, h2, h3⟩
          · go_wp2
            obtain ⟨h1, h2, h3⟩ := lr_end (kk := kk) HR0.out HW.out HB.out HC2.out HLJ.out
            obtain ⟨c0, c1, _, _⟩ := two_cells h1
            refine bodyPost_ret (v := .agg #[.slice (some ⟨g, 0, none⟩) 9 gc, .int .i64 kk]) (by simp [results, Tryd.results10, go_sem, c0, c1]) rfl ⟨_, rfl, h2, h3⟩
      · have hje : its.length ≤ j := by omega
        obtain ⟨hR0, hR1, hF0, hF1⟩ := two_cells hr1
        obtain ⟨hQ0, hQ1, hG0, hG1⟩ := two_cells hr0
        have hcut : cutItems its = (its.take j).map fun x => (x.1, tr12 x.2) := by
          unfold cutItems; rw [List.take_of_length_le (by omega : its.length ≤ 9), List.take_of_length_le hje]
        have hlj : (its.take j).length = j := by rw [List.length_take]; omega
        have HR0 := Lib.hid hr0
        have HW := Lib.hid hown
        have HB := Lib.hid hB
        have HC2 := Lib.hid hcut
        have HLJ := Lib.hid hlj
        have hgl := hown.lt
        have HG := Lib.hid hgl
        clear hr1 hr0 hown hB hcut hgl hlj
        rcases owns_shape HW.out with rfl | ⟨g, gc, rfl⟩
        · go_wp2
          obtain ⟨h1, h2, h3⟩ := lr_end (kk := kk) HR0.out HW.out HB.out HC2.out HLJ.out
          obtain ⟨c0, c1, _, _⟩ := two_cells h1
          refine bodyPost_ret (v := .agg #[.slice none 0 0, .int .i64 kk]) (by simp [results, Tryd.results10, go_sem, c0, c1]) rfl ⟨_, rfl, h2, h3⟩
        · go_wp2
          obtain ⟨h1, h2, h3⟩ := lr_end (kk := kk) HR0.out HW.out HB.out HC2.out HLJ.out
          obtain ⟨c0, c1, _, _⟩ := two_cells h1
          refine bodyPost_ret (v := .agg #[.slice (some ⟨g, 0, none⟩) j gc, .int .i64 kk]) (by simp [results, Tryd.results10, go_sem, c0, c1]) rfl ⟨_, rfl, h2, h3⟩

theorem lrow_nil (k : Int) (w : World) :
    Calls Tryd.prog 10 #[.slice none 0 0, .int .i64 k] w fun e w' => e = .returned (.agg #[.slice none 0 0, .int .i64 (if k = 0 then 12 else k)]) ∧ Below w.heap.size w w' := by
  by_cases hk : k = 0
  · subst hk
    go_enter Tryd.func10, Tryd.ntmps10
    go_wp2
    refine wp_loop_rounds 1 ?_
    rw [rounds_succ]
    go_wp2
    refine bodyPost_ret (v := .agg #[.slice none 0 0, .int .i64 12]) (by simp [results, Tryd.results10, go_sem]) rfl ⟨rfl, ?_⟩
    exact (((Below.refl _ w).alloc (Nat.le_refl _) _).alloc (by simp) _)
  · rw [if_neg hk]
    have hk0 : (k == 0) = false := by simpa using hk
    clear hk
    go_enter Tryd.func10, Tryd.ntmps10
    go_wp2
    refine wp_loop_rounds 1 ?_
    rw [rounds_succ]
    go_wp2
    refine bodyPost_ret (v := .agg #[.slice none 0 0, .int .i64 k]) (by simp [results, Tryd.results10, go_sem]) rfl ⟨rfl, ?_⟩
    exact (((Below.refl _ w).alloc (Nat.le_refl _) _).alloc (by simp) _)

theorem lrow_zero (k : Int) (a : Addr) (cap : Nat) (w : World) :
    Calls Tryd.prog 10 #[.slice (some a) 0 cap, .int .i64 k] w fun e w' => e = .returned (.agg #[.slice none 0 0, .int .i64 (if k = 0 then 12 else k)]) ∧ Below w.heap.size w w' := by
  by_cases hk : k = 0
  · subst hk
    go_enter Tryd.func10, Tryd.ntmps10
    go_wp2
    refine wp_loop_rounds 1 ?_
    rw [rounds_succ]
    go_wp2
    refine bodyPost_ret (v := .agg #[.slice none 0 0, .int .i64 12]) (by simp [results, Tryd.results10, go_sem]) rfl ⟨rfl, ?_⟩
    exact (((Below.refl _ w).alloc (Nat.le_refl _) _).alloc (by simp) _)
  · rw [if_neg hk]
    have hk0 : (k == 0) = false := by simpa using hk
    clear hk
    go_enter Tryd.func10, Tryd.ntmps10
    go_wp2
    refine wp_loop_rounds 1 ?_
    rw [rounds_succ]
    go_wp2
    refine bodyPost_ret (v := .agg #[.slice none 0 0, .int .i64 k]) (by simp [results, Tryd.results10, go_sem]) rfl ⟨rfl, ?_⟩
    exact (((Below.refl _ w).alloc (Nat.le_refl _) _).alloc (by simp) _)

theorem lrow_any (k : Int) {v : Value} {its : List Item} (w : World) (h : ItemsAt w v its) :
    Calls Tryd.prog 10 #[v, .int .i64 k] w fun e w' => ∃ u, e = .returned (.agg #[u, .int .i64 (if k = 0 then 12 else k)]) ∧
      w'.ownsRow w.heap.size 38 2 u (cutItems its).length (icells (cutItems its)) ∧ Below w.heap.size w w' := by
  rcases h with ⟨rfl, rfl⟩ | ⟨a, cap, rfl, h1, h2, h3⟩
  · exact (lrow_nil k w).mono fun e w' ⟨he, hb⟩ => ⟨_, he, World.ownsRow_nil _ _ _ _, hb⟩
  · cases its with
    | nil => exact (lrow_zero k a cap w).mono fun e w' ⟨he, hb⟩ => ⟨_, he, World.ownsRow_nil _ _ _ _, hb⟩
    | cons x r =>
      obtain ⟨b, off, spot⟩ := a
      have hspot : spot = none := by simpa [Addr.add] using World.cell?_spot (h3 0 x rfl).1
      subst hspot
      exact (lrow_some k b off cap (x :: r) w h1 h2 (fun i y hy => by
        obtain ⟨q1, q2⟩ := h3 i y hy
        rw [Go.WideShapes.add_plain] at q1 q2
        exact ⟨q1, q2⟩)).mono fun e w' ⟨u, he, ho, hb⟩ => ⟨u, he, ownsRow_base ho (by omega), hb⟩
end Go.Proofs.YtbpihlndojnlcaaDoor
