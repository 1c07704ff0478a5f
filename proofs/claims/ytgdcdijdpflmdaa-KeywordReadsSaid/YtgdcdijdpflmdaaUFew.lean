/-
  The statements of layer 9: rows cut (Few), keywords cut (few).
-/
import Derived.Test.YtgdcdijdpflmdaaUSame
import Derived.Test.YtgdcdijdpflmdaaUPut
import Derived.Test.YtgdcdijdpflmdaaRFree
import Derived.Test.YtgdcdijdpflmdaaHFew
import Derived.Test.YtgdcdijdpflmdaaKArgs
import Derived.Deep.AppendLies
namespace Go.Proofs.Ytgdcdijdpflmdaa
open Go Go.RowKit

def cut9 (s : ByteArray) : ByteArray := if 9 < s.size then s.extract 0 9 else s
def fewT (n : Nat) (l : List ByteArray) : List ByteArray := (l.take n).map cut9
def fewX (L : KX) : KX := (L.take 5).map fun x => (cut9 x.1, fewT 3 x.2)
def fewK (k : List ByteArray × KX) : List ByteArray × KX := (fewT 5 k.1, fewX k.2)
theorem fewT_one (x : ByteArray) : fewT 1 [x] = [cut9 x] := rfl
theorem fewT_len (n : Nat) (l : List ByteArray) : (fewT n l).length ≤ n := by unfold fewT; rw [List.length_map, List.length_take]; omega
theorem cut9_size (s : ByteArray) : (cut9 s).size ≤ 9 := by
  unfold cut9
  split
  · simp; omega
  · omega
theorem fewT_size (n : Nat) (l : List ByteArray) : ∀ x ∈ fewT n l, x.size ≤ 9 := by
  intro x hx
  unfold fewT at hx
  obtain ⟨y, _, rfl⟩ := List.mem_map.1 hx
  exact cut9_size y
theorem fewX_len (L : KX) : (fewX L).length ≤ 5 := by unfold fewX; rw [List.length_map, List.length_take]; omega
theorem fewX_at (L : KX) : ∀ x ∈ fewX L, x.1.size ≤ 9 ∧ x.2.length ≤ 3 ∧ ∀ y ∈ x.2, y.size ≤ 9 := by
  intro x hx
  unfold fewX at hx
  obtain ⟨y, _, rfl⟩ := List.mem_map.1 hx
  exact ⟨cut9_size _, fewT_len _ _, fewT_size _ _⟩
theorem own_someU {w : World} {base n : Nat} {e : TypeId} {sz : Nat} {v : Value} {xs : List Value} (h : w.ownsRow base e sz v n xs) (hn : 0 < n) : ∃ g c, v = .slice (some ⟨g, 0, none⟩) n c := by
  rcases owned_cases h with ⟨_, rfl⟩ | ⟨g, c, rfl⟩
  · omega
  · exact ⟨g, c, rfl⟩
theorem rowU_one {w : World} {g : Nat} {x : ByteArray} (h : w.heap[g]? = some (.cells #[.string x] 9 (0, 0))) : RowU w (.slice (some ⟨g, 0, none⟩) 1 1) [x] := by
  refine ⟨some ⟨g, 0, none⟩, 1, rfl, fun i y hy => ⟨g, 0, rfl, ?_⟩⟩
  have hi : i < 1 := by simpa using (List.getElem?_eq_some_iff.1 hy).1
  obtain rfl : i = 0 := by omega
  simp at hy
  subst hy
  exact cell_row2 0 h rfl
theorem ExtU.of_row {W : World} {v : Value} {l : KX} (h : ExtRow W v l) : ExtU W v l := by
  obtain ⟨ao, cap, rfl, hc⟩ := h
  refine ⟨ao, cap, rfl, fun i x hx => ?_⟩
  obtain ⟨g, vs, h1, h2, h3, h4⟩ := hc i x hx
  exact ⟨g, 0, vs, h1, by rw [Nat.zero_add]; exact h2, by rw [Nat.zero_add]; exact h3, RowU.of_row h4⟩
theorem ExtO.keptK {W W' : World} {base B : Nat} {v : Value} {L : KX} {cs : Array Value} (h : ExtO W base v L) (hg : W.grownBy W' (some B)) (hB : W.heap[B]? = some (.cells cs 41 (0, 0))) : ExtO W' base v L := by
  obtain ⟨us, h1, h2, h3⟩ := h
  exact ⟨us, h1, h2.kept hg (.inr (own_not_ty h2 hB (by decide))), fun i u x hu hx => (h3 i u x hu hx).kept hg (.inr (own_not_ty (h3 i u x hu hx) hB (by decide)))⟩

set_option maxRecDepth 100000 in
set_option maxHeartbeats 2000000 in
theorem fewU_any (v : Value) (l : List ByteArray) (n : Nat) (N : Int) (hN : N = (n : Int)) (w : World) (hv : RowU w v l) (hs : ∀ x ∈ l, x.size ≤ maxLen) (hl : l.length ≤ maxLen) (hn : n ≤ 100) :
    Calls Try.prog 15 #[v, .int .i64 N] w fun e w' => ∃ u, e = .returned u ∧ w'.ownsRow w.heap.size 9 1 u (fewT n l).length (strs (fewT n l)) ∧ Below w.heap.size w w' := by
  subst hN
  obtain ⟨i0, hi, hz0, hz1, hz2⟩ := info_parts stringInfo
  obtain ⟨ao, cap, rfl, hc⟩ := hv
  have HC := Lib.hid hc
  have HS := Lib.hid hs
  unfold maxLen at hl
  clear hc hs
  go_enter Try.func15, Try.ntmps15
  go_wp2
  go_loopw [5, 6] (fun o i wr => ∃ k : Nat, k ≤ l.length ∧ k ≤ n ∧ i = .int .i64 (k : Int) ∧ Acc w (fewT k l) o wr) (fun _ i _ => 101 - (intOf i).toNat)
  case atStart => exact ⟨0, Nat.zero_le _, by omega, rfl, Acc.start w⟩
  case round =>
    obtain ⟨k, hk, hk4, rfl, HA⟩ := hrel
    have hsz := HA.2.size
    by_cases hlt : k < l.length
    · have hki : (k : Int) < (l.length : Int) := by omega
      have hd : decide ((k : Int) < (l.length : Int)) = true := decide_eq_true hki
      by_cases hlt4 : k < n
      · have hki4 : (k : Int) < (n : Int) := by omega
        have hk0 : (0 : Int) ≤ (k : Int) := by omega
        obtain ⟨x, hx⟩ : ∃ x, l[k]? = some x := ⟨_, List.getElem?_eq_getElem hlt⟩
        obtain ⟨b, o, rfl, h1⟩ := HC.out k x hx
        have h2 := HS.out x (List.mem_of_getElem? hx)
        unfold maxLen at h2
        have hcx := (HA.2.cell (p := ⟨b, o + k, none⟩) (lt_of_cellF h1)).trans h1
        have hlen : (fewT k l).length ≤ 100 := by have := fewT_len k l; omega
        have HST := Lib.hid (show fewT (k + 1) l = fewT k l ++ [cut9 x] by unfold fewT; rw [take_next hx, List.map_append]; rfl)
        by_cases h9 : 9 < x.size
        · have HE := Lib.hid (show cut9 x = x.extract 0 9 by unfold cut9; rw [if_pos h9])
          have h' : (9 : Int) < (x.size : Int) := by omega
          have h'' : (9 : Int) ≤ (x.size : Int) := by omega
          clear hx h1
          generalize fewT k l = L at *
          go_wp2_with (at_builtin; refine wpList_append_own _ rfl _ _ 26 rfl w.heap.size 9 i0 (.string ByteArray.empty) 1 16 Try.underlying26 hi hz0 hz1 hz2 rfl (by decide) _ _ _ rfl (HA.1.alloc _) ⟨_, 0, none⟩ 1 1 [.string (x.extract 0 9)] rfl rfl (cell_one_new _ _ _) (by intro u hu; simp at hu; subst hu; rfl) (by unfold maxLen; omega) (by omega) (by simp; omega) ?_; intro v' w2 hown1 hgrow _)
          go_roundw
          case rel => exact ⟨k + 1, by omega, by omega, by go_num, by rw [HST.out, HE.out]; exact HA.push hown1 hgrow⟩
          case measure => simp [intOf]; omega
        · have HE := Lib.hid (show cut9 x = x by unfold cut9; rw [if_neg h9])
          have h' : ¬ (9 : Int) < (x.size : Int) := by omega
          clear hx h1
          generalize fewT k l = L at *
          go_wp2_with (at_builtin; refine wpList_append_own _ rfl _ _ 26 rfl w.heap.size 9 i0 (.string ByteArray.empty) 1 16 Try.underlying26 hi hz0 hz1 hz2 rfl (by decide) _ _ _ rfl (HA.1.alloc _) ⟨_, 0, none⟩ 1 1 [.string x] rfl rfl (cell_one_new _ _ _) (by intro u hu; simp at hu; subst hu; rfl) (by unfold maxLen; omega) (by omega) (by simp; omega) ?_; intro v' w2 hown1 hgrow _)
          go_roundw
          case rel => exact ⟨k + 1, by omega, by omega, by go_num, by rw [HST.out, HE.out]; exact HA.push hown1 hgrow⟩
          case measure => simp [intOf]; omega
      · obtain rfl : k = n := by omega
        have hkn : ¬ (k : Int) < (k : Int) := by omega
        go_wp2
        go_ret
        exact ⟨_, rfl, HA⟩
    · have hki : ¬ (k : Int) < (l.length : Int) := by omega
      have hd : decide ((k : Int) < (l.length : Int)) = false := decide_eq_false hki
      have HR := Lib.hid (show fewT n l = fewT k l by unfold fewT; rw [List.take_of_length_le (by omega), List.take_of_length_le (by omega)])
      go_wp2
      go_ret
      exact ⟨_, rfl, by rw [HR.out]; exact HA⟩

set_option maxRecDepth 100000 in
set_option maxHeartbeats 4000000 in
theorem few_kw (va vk : Value) (A : List ByteArray) (XX : KX) (w : World) (hA : RowA w va A) (hX : ExtA w vk XX) :
    Calls Try.prog 16 #[.agg #[va, vk]] w fun e w' => ∃ u, e = .returned u ∧ KeyU w' u (fewK (A, XX)) ∧ Below w.heap.size w w' := by
  obtain ⟨W0, hW0⟩ : ∃ W0, (w.alloc (.cells #[va, vk] 41)).alloc (.cells #[.slice none 0 0, .slice none 0 0] 41) = W0 := ⟨_, rfl⟩
  have hb0 : Below w.heap.size w W0 := by rw [← hW0]; exact ((Below.refl _ w).alloc (Nat.le_refl _) _).alloc (by simp) _
  have hz0 : W0.heap.size = w.heap.size + 2 := by rw [← hW0]; simp
  have hA0 : W0.heap[w.heap.size]? = some (.cells #[va, vk] 41 (0, 0)) := by rw [← hW0]; exact (Below.heap_alloc _ _ _ (by simp)).trans (World.alloc_heap_new w _)
  have hR0 : W0.heap[w.heap.size + 1]? = some (.cells #[.slice none 0 0, .slice none 0 0] 41 (0, 0)) := by rw [← hW0]; exact heap_alloc2_new w _ _
  have FA := Lib.hid (fewU_any va A 5 5 rfl W0 ((RowU.of_arg hA).below hb0) (by obtain ⟨ao, c, _, _, hi⟩ := hA; intro x hx; obtain ⟨i, hi'⟩ := List.getElem?_of_mem hx; obtain ⟨_, _, _, _, h⟩ := hi i x hi'; exact h) (by obtain ⟨_, _, _, h, _⟩ := hA; exact h) (by decide))
  have d0 := cell_row2 0 hA0 rfl
  obtain ⟨a1, p1, rfl, -, -⟩ := hA
  have HA0 := Lib.hid hA0
  have HR0 := Lib.hid hR0
  have HB0 := Lib.hid hb0
  have HX := Lib.hid hX
  obtain ⟨i1, hii, iz0, iz1, iz2⟩ := info_parts extInfo
  clear hA0 hR0 hb0 hX
  go_enter Try.func16, Try.ntmps16
  go_upto_region 2 with (go_at_call 15; (with_reducible refine FA.out.mono ?_); rintro e w1 ⟨u, rfl, ho1, hb1⟩; obtain ⟨ua, un, uc, rfl⟩ := own_slice ho1)
  clear hW0 d0
  obtain ⟨wc, hwc⟩ : ∃ wc, w1.alloc (.cells #[.slice ua un uc, .slice none 0 0] 41) = wc := ⟨_, rfl⟩
  have hBC : wc.heap[w1.heap.size]? = some (.cells #[.slice ua un uc, .slice none 0 0] 41 (0, 0)) := by rw [← hwc]; exact World.alloc_heap_new w1 _
  have hb0c : Below W0.heap.size W0 wc := by rw [← hwc]; exact hb1.alloc hb1.size _
  have HY := Lib.hid (by rw [← hwc]; exact ho1.alloc _ : wc.ownsRow W0.heap.size 9 1 (.slice ua un uc) (fewT 5 A).length (strs (fewT 5 A)))
  have hbw : Below w.heap.size w wc := HB0.out.trans (hb0c.mono (by omega))
  obtain ⟨B, hBB⟩ : ∃ B, w1.heap.size = B := ⟨_, rfl⟩
  have hBlo : W0.heap.size ≤ B := by rw [← hBB]; exact hb1.size
  rw [hwc]
  rw [hBB] at hBC ⊢
  have hBlt := lt_of_heap hBC
  have HBC := Lib.hid hBC
  have HRES := Lib.hid ((hb0c.block (w.heap.size + 1) (by omega)).trans HR0.out)
  have HBOXC := Lib.hid ((hb0c.block w.heap.size (by omega)).trans HA0.out)
  have HBW := Lib.hid hbw
  clear hwc ho1 hb1 hb0c hbw hBC hBB FA HA0 HR0 HB0
  have hw0 : w.heap.size < wc.heap.size := by omega
  obtain ⟨ao, cap, rfl, hXl, hXe⟩ := HX.out
  clear HX
  unfold maxLen at hXl
  have HXE := Lib.hid hXe
  clear hXe
  go_wp2_with fail
  go_loopw [4] (fun i wr => ∃ (k : Nat) (v : Value), k ≤ XX.length ∧ k ≤ 5 ∧ i = .int .i64 (k : Int) ∧ ExtO wr wc.heap.size v ((XX.take k).map fun x => (cut9 x.1, fewT 3 x.2)) ∧ wr.heap[B]? = some (.cells #[.slice ua un uc, v] 41 (0, 0)) ∧ wc.grownBy wr (some B)) (fun i _ => 6 - (intOf i).toNat)
  case atStart => exact ⟨0, _, Nat.zero_le _, by omega, rfl, ExtO.nil _ _, HBC.out, World.grownBy.refl _ _⟩
  case round =>
    obtain ⟨k, v, hk, hk4, rfl, hEO, hhB, hgr⟩ := hrel
    have hboxr := (hgr.block _ (by omega) (by simp; omega)).trans HBOXC.out
    obtain ⟨d0, d1⟩ := key_cells hboxr
    by_cases hlt : k < XX.length
    · have hki : (k : Int) < (XX.length : Int) := by omega
      have hd : decide ((k : Int) < (XX.length : Int)) = true := decide_eq_true hki
      by_cases hlt4 : k < 5
      · have hki4 : (k : Int) < 5 := by omega
        have hk0 : (0 : Int) ≤ (k : Int) := by omega
        go_upto_region 5 with fail
        obtain ⟨xe, hxe⟩ : ∃ p, XX[k]? = some p := ⟨_, List.getElem?_eq_getElem hlt⟩
        obtain ⟨b, o, vs, rfl, c1, c2, hks, hra⟩ := HXE.out k xe hxe
        have hbr : Below w.heap.size w wr := HBW.out.grown hgr HBW.out.size (fun g hg => by cases hg; omega)
        have hbl : b < w.heap.size := lt_of_cellF c1
        have c1 := (hbr.cell (p := ⟨b, o + k * 2, none⟩) hbl).trans c1
        have c2 := (hbr.cell (p := ⟨b, o + k * 2 + 1, none⟩) hbl).trans c2
        obtain ⟨e0, e1⟩ := key_cells hhB
        have RW := Lib.hid (fun w5 (hb : Below w.heap.size w w5) => fewU_any vs xe.2 3 3 rfl w5 ((RowU.of_arg hra).below hb) (by obtain ⟨ao, c, _, _, hi⟩ := hra; intro x hx; obtain ⟨i, hi'⟩ := List.getElem?_of_mem hx; obtain ⟨_, _, _, _, h⟩ := hi i x hi'; exact h) (by obtain ⟨_, _, _, h, _⟩ := hra; exact h) (by decide))
        obtain ⟨us, hul, hown, hus⟩ := hEO
        have hLk : ((XX.take k).map fun x => (cut9 x.1, fewT 3 x.2)).length = k := by rw [List.length_map, List.length_take]; omega
        have HS := Lib.hid (show ((XX.take (k + 1)).map fun x => (cut9 x.1, fewT 3 x.2)) = ((XX.take k).map fun x => (cut9 x.1, fewT 3 x.2)) ++ [(cut9 xe.1, fewT 3 xe.2)] by rw [take_next hxe, List.map_append]; rfl)
        generalize ((XX.take k).map fun x => (cut9 x.1, fewT 3 x.2)) = L at *
        have hvo := hown.lt
        have hvB : some B ≠ v.ownBlock := by
          intro e
          have := (hvo B e.symm).1
          omega
        have hsb : wc.heap.size ≤ wr.heap.size := hgr.size
        have HCELL := Lib.hid (fun (w' : World) (hb : Below wc.heap.size wr w') => show w'.cell? ⟨w.heap.size, 1, none⟩ = some (.slice (some ⟨b, o, none⟩) XX.length cap) ∧ w'.cell? ⟨B, 1, none⟩ = some v ∧ w'.cell? ⟨b, o + k * 2, none⟩ = some (.string xe.1) ∧ w'.cell? ⟨b, o + k * 2 + 1, none⟩ = some vs ∧ w'.frozen? ⟨B, 1, none⟩ = false from
          ⟨(hb.cell (p := ⟨w.heap.size, 1, none⟩) (by show w.heap.size < _; omega)).trans d1, (hb.cell (p := ⟨B, 1, none⟩) hBlt).trans e1, (hb.cell (p := ⟨b, o + k * 2, none⟩) (by show b < _; have := HBW.out.size; omega)).trans c1, (hb.cell (p := ⟨b, o + k * 2 + 1, none⟩) (by show b < _; have := HBW.out.size; omega)).trans c2, (hb.frozen (p := ⟨B, 1, none⟩) hBlt).trans (cells_frozen 1 hhB)⟩)
        have HGB := Lib.hid (fun (w' : World) (hb : wr.grownBy w' v.ownBlock) => show Below wc.heap.size wr w' from (Below.refl _ _).grown hb hsb (fun g hg => (hvo g hg).1))
        have HOWN := Lib.hid (And.intro hul (And.intro hown hus))
        have HBR := Lib.hid hbr
        have HSTEP := Lib.hid (And.intro hhB hgr)
        clear hul hown hus c1 c2 hra hbr d0 d1 e0 e1 hhB hgr hboxr
        · refine wp_region_any (by kernel_rfl) ?_
          change wpAny _ _ _ _ _ _ _ (World.drew _)
          refine wp_region_free (n := 44) (z := 23) (w0 := wr.drew) v.ownBlock (V := fun j u w' => match j with
            | 0 => u = .pointer (some ⟨B, 1, none⟩)
            | 1 => u = v
            | 2 => u = .pointer (some ⟨w.heap.size, 1, none⟩)
            | 3 => u = .slice (some ⟨b, o, none⟩) XX.length cap
            | 4 => u = .int .i64 (k : Int)
            | 5 => u = .pointer (some ⟨b, o + k * 2, none⟩)
            | 6 => u = .pointer (some ⟨b, o + k * 2, none⟩)
            | 7 => u = .string xe.1
            | 8 => ∃ g, u = .slice (some ⟨g, 0, none⟩) 1 1 ∧ w'.heap[g]? = some (.cells #[.string xe.1] 9 (0, 0))
            | 9 => w'.ownsRow wc.heap.size 9 1 u 1 (strs [cut9 xe.1])
            | 10 => ∃ g, u = .pointer (some ⟨g, 0, none⟩) ∧ w'.cell? ⟨g, 0, none⟩ = some (.string (cut9 xe.1))
            | 11 => u = .string (cut9 xe.1)
            | 12 => u = .pointer (some ⟨w.heap.size, 1, none⟩)
            | 13 => u = .slice (some ⟨b, o, none⟩) XX.length cap
            | 14 => u = .int .i64 (k : Int)
            | 15 => u = .pointer (some ⟨b, o + k * 2, none⟩)
            | 16 => u = .pointer (some ⟨b, o + k * 2 + 1, none⟩)
            | 17 => u = vs
            | 18 => (w'.ownsRow wc.heap.size 9 1 u (fewT 3 xe.2).length (strs (fewT 3 xe.2)) ∧ (Value.ownBlock u = none ∨ Value.ownBlock u ≠ v.ownBlock))
            | 19 => ∃ p, u = .agg #[.string (cut9 xe.1), p] ∧ (w'.ownsRow wc.heap.size 9 1 p (fewT 3 xe.2).length (strs (fewT 3 xe.2)) ∧ (Value.ownBlock p = none ∨ Value.ownBlock p ≠ v.ownBlock))
            | 20 => ∃ g p, u = .slice (some ⟨g, 0, none⟩) 1 1 ∧ w'.heap[g]? = some (.cells #[.string (cut9 xe.1), p] 53 (0, 0)) ∧ some g ≠ v.ownBlock ∧ (w'.ownsRow wc.heap.size 9 1 p (fewT 3 xe.2).length (strs (fewT 3 xe.2)) ∧ (Value.ownBlock p = none ∨ Value.ownBlock p ≠ v.ownBlock))
            | 21 => ∃ p us, us.length = L.length ∧ w'.ownsRow wc.heap.size 53 2 u (L.length + 1) (extCells L us ++ [.string (cut9 xe.1), p]) ∧ (w'.ownsRow wc.heap.size 9 1 p (fewT 3 xe.2).length (strs (fewT 3 xe.2)) ∧ (Value.ownBlock p = none ∨ Value.ownBlock p ≠ v.ownBlock)) ∧ (∀ (i : Nat) (q : Value) (x : ByteArray × List ByteArray), us[i]? = some q → L[i]? = some x → w'.ownsRow wc.heap.size 9 1 q x.2.length (strs x.2))
            | 22 => u = .pointer (some ⟨B, 1, none⟩)
            | _ => True)
            (blk := fun _ _ => none) (by kernel_rfl) (Nat.le_refl _) 21 (fun i => i == 22) (by kernel_rfl) ?_ ?_ ?_ ?_
          case refine_1 =>
            intro j u wa wb hv hb
            match j with
            | 0 => exact hv
            | 1 => exact hv
            | 2 => exact hv
            | 3 => exact hv
            | 4 => exact hv
            | 5 => exact hv
            | 6 => exact hv
            | 7 => exact hv
            | 8 => obtain ⟨g, h0, h1⟩ := hv; exact ⟨g, h0, (hb.block _ (lt_of_heap h1) (by simp)).trans h1⟩
            | 9 => exact hv.kept hb (by cases u.ownBlock <;> simp)
            | 10 => obtain ⟨g, h0, h1⟩ := hv; exact ⟨g, h0, (World.cell?_of_block (a := ⟨g, 0, none⟩) (hb.block _ (lt_of_cellF h1) (by simp))).trans h1⟩
            | 11 => exact hv
            | 12 => exact hv
            | 13 => exact hv
            | 14 => exact hv
            | 15 => exact hv
            | 16 => exact hv
            | 17 => exact hv
            | 18 => exact ⟨hv.1.kept hb (by cases u.ownBlock <;> simp), hv.2⟩
            | 19 => obtain ⟨p, h0, h1, h2⟩ := hv; exact ⟨p, h0, h1.kept hb (by cases p.ownBlock <;> simp), h2⟩
            | 20 => obtain ⟨g, p, h0, h1, h2, h3, h4⟩ := hv; exact ⟨g, p, h0, (hb.block _ (lt_of_heap h1) (by simp)).trans h1, h2, h3.kept hb (by cases p.ownBlock <;> simp), h4⟩
            | 21 => obtain ⟨p, qs, h0, h1, h2, h3⟩ := hv; exact ⟨p, qs, h0, h1.kept hb (by cases u.ownBlock <;> simp), ⟨h2.1.kept hb (by cases p.ownBlock <;> simp), h2.2⟩, fun i q x hq hx => (h3 i q x hq hx).kept hb (by cases q.ownBlock <;> simp)⟩
            | 22 => exact hv
            | n + 23 => trivial
          case refine_2 =>
            intro j u wa wb hj hv _
            obtain rfl : j = 22 := by simpa using hj
            exact hv
          case refine_3 =>
            intro i hi vals a wr' hB hB0 hV hD hE hO K hK
            have hB : wr.grownBy wr' v.ownBlock := ⟨hB.os, hB.tape, hB.output, hB.size, hB.block⟩
            have hB5 := HGB.out _ hB
            obtain ⟨c1, c2, c3, c4, c5⟩ := HCELL.out _ hB5
            have hOl := Lib.hid hO
            have hEl := Lib.hid hE
            have hVl := Lib.hid hV
            have hKl := Lib.hid hK
            clear hO hE hV hK hD
            match i, hi with
            | 0, _ =>
              have g0 : a.tmps.getD 3 undef = .pointer (some ⟨B, 0, none⟩) := hOl.out 3 (by kernel_rfl)
              refine wpOp_step rfl ?_
              intro K' hK'
              go_simp
              exact hK' _ _ (hKl.out _ _ (fun _ => World.grownBy.refl _ _) (fun h => absurd h (by decide)) (fun _ => rfl) rfl (fun g hg => by cases hg))
            | 1, _ =>
              have g0 : a.tmps.getD 20 undef = .pointer (some ⟨B, 1, none⟩) := (hEl.out 0 20 (by kernel_rfl) rfl).trans (hVl.out 0 (by kernel_rfl) (fun h => by cases h))
              refine wpOp_step rfl ?_
              intro K' hK'
              go_simp
              exact hK' _ _ (hKl.out _ _ (fun _ => World.grownBy.refl _ _) (fun h => absurd h (by decide)) (fun _ => rfl) rfl (fun g hg => by cases hg))
            | 2, _ =>
              have g0 : a.tmps.getD 1 undef = .pointer (some ⟨w.heap.size, 0, none⟩) := hOl.out 1 (by kernel_rfl)
              refine wpOp_step rfl ?_
              intro K' hK'
              go_simp
              exact hK' _ _ (hKl.out _ _ (fun _ => World.grownBy.refl _ _) (fun h => absurd h (by decide)) (fun _ => rfl) rfl (fun g hg => by cases hg))
            | 3, _ =>
              have g0 : a.tmps.getD 22 undef = .pointer (some ⟨w.heap.size, 1, none⟩) := (hEl.out 2 22 (by kernel_rfl) rfl).trans (hVl.out 2 (by kernel_rfl) (fun h => by cases h))
              refine wpOp_step rfl ?_
              intro K' hK'
              go_simp
              exact hK' _ _ (hKl.out _ _ (fun _ => World.grownBy.refl _ _) (fun h => absurd h (by decide)) (fun _ => rfl) rfl (fun g hg => by cases hg))
            | 4, _ =>
              have g0 : a.tmps.getD 4 undef = .int .i64 (k : Int) := hOl.out 4 (by kernel_rfl)
              refine wpOp_step rfl ?_
              intro K' hK'
              go_simp
              exact hK' _ _ (hKl.out _ _ (fun _ => World.grownBy.refl _ _) (fun h => absurd h (by decide)) (fun _ => rfl) rfl (fun g hg => by cases hg))
            | 5, _ =>
              have g0 : a.tmps.getD 23 undef = .slice (some ⟨b, o, none⟩) XX.length cap := (hEl.out 3 23 (by kernel_rfl) rfl).trans (hVl.out 3 (by kernel_rfl) (fun h => by cases h))
              have g1 : a.tmps.getD 24 undef = .int .i64 (k : Int) := (hEl.out 4 24 (by kernel_rfl) rfl).trans (hVl.out 4 (by kernel_rfl) (fun h => by cases h))
              refine wpOp_step rfl ?_
              intro K' hK'
              go_simp
              exact hK' _ _ (hKl.out _ _ (fun _ => World.grownBy.refl _ _) (fun h => absurd h (by decide)) (fun _ => rfl) rfl (fun g hg => by cases hg))
            | 6, _ =>
              have g0 : a.tmps.getD 25 undef = .pointer (some ⟨b, o + k * 2, none⟩) := (hEl.out 5 25 (by kernel_rfl) rfl).trans (hVl.out 5 (by kernel_rfl) (fun h => by cases h))
              refine wpOp_step rfl ?_
              intro K' hK'
              go_simp
              exact hK' _ _ (hKl.out _ _ (fun _ => World.grownBy.refl _ _) (fun h => absurd h (by decide)) (fun _ => rfl) rfl (fun g hg => by cases hg))
            | 7, _ =>
              have g0 : a.tmps.getD 26 undef = .pointer (some ⟨b, o + k * 2, none⟩) := (hEl.out 6 26 (by kernel_rfl) rfl).trans (hVl.out 6 (by kernel_rfl) (fun h => by cases h))
              refine wpOp_step rfl ?_
              intro K' hK'
              go_simp
              exact hK' _ _ (hKl.out _ _ (fun _ => World.grownBy.refl _ _) (fun h => absurd h (by decide)) (fun _ => rfl) rfl (fun g hg => by cases hg))
            | 8, _ =>
              have g0 : a.tmps.getD 27 undef = .string xe.1 := (hEl.out 7 27 (by kernel_rfl) rfl).trans (hVl.out 7 (by kernel_rfl) (fun h => by cases h))
              rw [Array.getD_eq_getD_getElem?] at g0
              refine wpOp_step rfl ?_
              intro K' hK'
              go_simp
              exact hK' _ _ (hKl.out _ _ (fun _ => World.grownBy_alloc _ _ _) (fun h => absurd h (by decide)) (fun h => by cases h) ⟨_, rfl, World.alloc_heap_new _ _⟩ (fun g hg => by cases hg))
            | 9, _ =>
              obtain ⟨gb, hv8, hgb⟩ := hVl.out 8 (by kernel_rfl) (fun h => by cases h)
              have g0 : a.tmps.getD 28 undef = .slice (some ⟨gb, 0, none⟩) 1 1 := (hEl.out 8 28 (by kernel_rfl) rfl).trans hv8
              have FE := Lib.hid (fewU_any (.slice (some ⟨gb, 0, none⟩) 1 1) [xe.1] 1 1 rfl wr' (rowU_one hgb) (by intro x hx; simp at hx; subst hx; exact hks) (by simp [maxLen]) (by decide))
              refine wpOp_step rfl ?_
              intro K' hK'
              go_simp
              go_at_call 15; (with_reducible refine FE.out.mono ?_); rintro e w' ⟨u, rfl, ho, hb⟩
              go_simp
              exact hK' _ _ (hKl.out _ _ (fun _ => grownF_of hb) (fun h => absurd h (by decide)) (fun h => by cases h) (own_lower (by rw [fewT_one] at ho; exact ho) (by have := hB5.size; omega)) (fun g hg => by cases hg))
            | 10, _ =>
              have ho9 := hVl.out 9 (by kernel_rfl) (fun h => by cases h)
              obtain ⟨g9, c9, hv9⟩ := own_someU ho9 (by decide)
              have q9 := own_cell (by rw [hv9] at ho9; exact ho9) 0 (cut9 xe.1) rfl
              have g0 : a.tmps.getD 29 undef = .slice (some ⟨g9, 0, none⟩) 1 c9 := (hEl.out 9 29 (by kernel_rfl) rfl).trans hv9
              clear hv9 ho9
              refine wpOp_step rfl ?_
              intro K' hK'
              go_simp
              exact hK' _ _ (hKl.out _ _ (fun _ => World.grownBy.refl _ _) (fun h => absurd h (by decide)) (fun _ => rfl) ⟨_, rfl, q9⟩ (fun g hg => by cases hg))
            | 11, _ =>
              obtain ⟨g9, hv10, q9⟩ := hVl.out 10 (by kernel_rfl) (fun h => by cases h)
              have g0 : a.tmps.getD 30 undef = .pointer (some ⟨g9, 0, none⟩) := (hEl.out 10 30 (by kernel_rfl) rfl).trans hv10
              clear hv10
              refine wpOp_step rfl ?_
              intro K' hK'
              go_simp
              exact hK' _ _ (hKl.out _ _ (fun _ => World.grownBy.refl _ _) (fun h => absurd h (by decide)) (fun _ => rfl) rfl (fun g hg => by cases hg))
            | 12, _ =>
              have g0 : a.tmps.getD 1 undef = .pointer (some ⟨w.heap.size, 0, none⟩) := hOl.out 1 (by kernel_rfl)
              refine wpOp_step rfl ?_
              intro K' hK'
              go_simp
              exact hK' _ _ (hKl.out _ _ (fun _ => World.grownBy.refl _ _) (fun h => absurd h (by decide)) (fun _ => rfl) rfl (fun g hg => by cases hg))
            | 13, _ =>
              have g0 : a.tmps.getD 32 undef = .pointer (some ⟨w.heap.size, 1, none⟩) := (hEl.out 12 32 (by kernel_rfl) rfl).trans (hVl.out 12 (by kernel_rfl) (fun h => by cases h))
              refine wpOp_step rfl ?_
              intro K' hK'
              go_simp
              exact hK' _ _ (hKl.out _ _ (fun _ => World.grownBy.refl _ _) (fun h => absurd h (by decide)) (fun _ => rfl) rfl (fun g hg => by cases hg))
            | 14, _ =>
              have g0 : a.tmps.getD 4 undef = .int .i64 (k : Int) := hOl.out 4 (by kernel_rfl)
              refine wpOp_step rfl ?_
              intro K' hK'
              go_simp
              exact hK' _ _ (hKl.out _ _ (fun _ => World.grownBy.refl _ _) (fun h => absurd h (by decide)) (fun _ => rfl) rfl (fun g hg => by cases hg))
            | 15, _ =>
              have g0 : a.tmps.getD 33 undef = .slice (some ⟨b, o, none⟩) XX.length cap := (hEl.out 13 33 (by kernel_rfl) rfl).trans (hVl.out 13 (by kernel_rfl) (fun h => by cases h))
              have g1 : a.tmps.getD 34 undef = .int .i64 (k : Int) := (hEl.out 14 34 (by kernel_rfl) rfl).trans (hVl.out 14 (by kernel_rfl) (fun h => by cases h))
              refine wpOp_step rfl ?_
              intro K' hK'
              go_simp
              exact hK' _ _ (hKl.out _ _ (fun _ => World.grownBy.refl _ _) (fun h => absurd h (by decide)) (fun _ => rfl) rfl (fun g hg => by cases hg))
            | 16, _ =>
              have g0 : a.tmps.getD 35 undef = .pointer (some ⟨b, o + k * 2, none⟩) := (hEl.out 15 35 (by kernel_rfl) rfl).trans (hVl.out 15 (by kernel_rfl) (fun h => by cases h))
              refine wpOp_step rfl ?_
              intro K' hK'
              go_simp
              exact hK' _ _ (hKl.out _ _ (fun _ => World.grownBy.refl _ _) (fun h => absurd h (by decide)) (fun _ => rfl) rfl (fun g hg => by cases hg))
            | 17, _ =>
              have g0 : a.tmps.getD 36 undef = .pointer (some ⟨b, o + k * 2 + 1, none⟩) := (hEl.out 16 36 (by kernel_rfl) rfl).trans (hVl.out 16 (by kernel_rfl) (fun h => by cases h))
              refine wpOp_step rfl ?_
              intro K' hK'
              go_simp
              exact hK' _ _ (hKl.out _ _ (fun _ => World.grownBy.refl _ _) (fun h => absurd h (by decide)) (fun _ => rfl) rfl (fun g hg => by cases hg))
            | 18, _ =>
              have g0 : a.tmps.getD 37 undef = vs := (hEl.out 17 37 (by kernel_rfl) rfl).trans (hVl.out 17 (by kernel_rfl) (fun h => by cases h))
              have FR := Lib.hid (RW.out _ (HBR.out.trans (hB5.mono (by have := HBW.out.size; omega))))
              refine wpOp_step rfl ?_
              intro K' hK'
              go_simp
              go_at_call 15; (with_reducible refine FR.out.mono ?_); rintro e w' ⟨u, rfl, ho, hb⟩
              go_simp
              exact hK' _ _ (hKl.out _ _ (fun _ => grownF_of hb) (fun h => absurd h (by decide)) (fun h => by cases h) ⟨own_lower ho (by have := hB5.size; omega), (by cases hb9 : u.ownBlock with | none => exact .inl rfl | some g => right; intro e; have h1 := (ho.lt g hb9).1; have h2 := (hvo g e.symm).2; have := hB.size; omega)⟩ (fun g hg => by cases hg))
            | 19, _ =>
              have g0 : a.tmps.getD 31 undef = .string (cut9 xe.1) := (hEl.out 11 31 (by kernel_rfl) rfl).trans (hVl.out 11 (by kernel_rfl) (fun h => by cases h))
              obtain ⟨ao5, no5, co5, vo5⟩ := own_slice (hVl.out 18 (by kernel_rfl) (fun h => by cases h)).1
              have g1 : a.tmps.getD 38 undef = .slice ao5 no5 co5 := (hEl.out 18 38 (by kernel_rfl) rfl).trans vo5
              rw [Array.getD_eq_getD_getElem?] at g0 g1
              refine wpOp_step rfl ?_
              intro K' hK'
              go_simp
              exact hK' _ _ (hKl.out _ _ (fun _ => World.grownBy.refl _ _) (fun h => absurd h (by decide)) (fun _ => rfl) ⟨vals 18, (by rw [vo5]), hVl.out 18 (by kernel_rfl) (fun h => by cases h)⟩ (fun g hg => by cases hg))
            | 20, _ =>
              obtain ⟨p, vo5, ho5⟩ := hVl.out 19 (by kernel_rfl) (fun h => by cases h)
              obtain ⟨ao5, no5, co5, rfl⟩ := own_slice ho5.1
              have g0 : a.tmps.getD 39 undef = .agg #[.string (cut9 xe.1), .slice ao5 no5 co5] := (hEl.out 19 39 (by kernel_rfl) rfl).trans vo5
              rw [Array.getD_eq_getD_getElem?] at g0
              refine wpOp_step rfl ?_
              intro K' hK'
              go_simp
              exact hK' _ _ (hKl.out _ _ (fun _ => World.grownBy_alloc _ _ _) (fun h => absurd h (by decide)) (fun h => by cases h) ⟨_, _, rfl, World.alloc_heap_new _ _, (fun e => by have := (hvo _ e.symm).2; have := hB.size; omega), ho5.1.alloc _, ho5.2⟩ (fun g hg => by cases hg))
            | 21, _ =>
              obtain ⟨ng, np, hv17, hnh, hnn, hno, hnk⟩ := hVl.out 20 (by kernel_rfl) (fun h => by cases h)
              have q0 : a.tmps.getD 21 undef = v := (hEl.out 1 21 (by kernel_rfl) rfl).trans (hVl.out 1 (by kernel_rfl) (fun h => by cases h))
              have q1 : a.tmps.getD 40 undef = .slice (some ⟨ng, 0, none⟩) 1 1 := (hEl.out 20 40 (by kernel_rfl) rfl).trans hv17
              have hB0' := hB0 rfl
              have hB0 : wr.grownBy wr' none := ⟨hB0'.os, hB0'.tape, hB0'.output, hB0'.size, hB0'.block⟩
              have hownr := HOWN.out.2.1.kept hB0 (by cases v.ownBlock <;> simp)
              obtain ⟨ao7, no7, co7, rfl⟩ := own_slice hno
              refine wpOp_step rfl ?_
              intro K' hK'
              refine step_append_lies _ rfl _ _ 27 rfl wc.heap.size 53 i1 (.agg #[.string ByteArray.empty, .slice none 0 0]) 2 40 Try.underlying27 hii iz0 iz1 iz2 rfl (by decide) v L.length (extCells L us) q0 hownr ⟨ng, 0, none⟩ 1 1 [.string (cut9 xe.1), .slice ao7 no7 co7] q1 rfl (World.news_of_block hnh) (by intro u hu; simp at hu; rcases hu with rfl | rfl <;> rfl) (by decide) (by unfold maxLen; omega) (by omega) (by have := hB5.size; omega) _ rfl ?_
              intro g7 cap7 w7 hown7 hgrow7 _ _
              exact hK' _ _ (hKl.out _ _ (fun h => absurd rfl h) (fun _ => hgrow7) (fun h => by cases h) ⟨_, us, HOWN.out.1, hown7, ⟨hno.kept hgrow7 hnk, hnk⟩, fun i q x hq hx => ((HOWN.out.2.2 i q x hq hx).kept hB0 (by cases q.ownBlock <;> simp)).kept hgrow7 (own_types_ne ((HOWN.out.2.2 i q x hq hx).kept hB0 (by cases q.ownBlock <;> simp)) hownr (by decide))⟩ (fun g hg => by cases hg))
            | 22, _ =>
              have g0 : a.tmps.getD 3 undef = .pointer (some ⟨B, 0, none⟩) := hOl.out 3 (by kernel_rfl)
              refine wpOp_step rfl ?_
              intro K' hK'
              go_simp
              exact hK' _ _ (hKl.out _ _ (fun _ => World.grownBy.refl _ _) (fun h => absurd h (by decide)) (fun _ => rfl) rfl (fun g hg => by cases hg))
            | n + 23, h => exact absurd h (by omega)
          case refine_4 =>
            intro vals wr' hB hV hD hL K hK
            have hB : wr.grownBy wr' v.ownBlock := ⟨hB.os, hB.tape, hB.output, hB.size, hB.block⟩
            have hB5 := HGB.out _ hB
            obtain ⟨c1, c2, c3, c4, c5⟩ := HCELL.out _ hB5
            obtain ⟨p, us', hul', hown', hp, hus'⟩ := hV 21 (by omega) (fun _ => .inl rfl)
            have hv22 := hV 22 (by omega) (fun _ => .inr rfl)
            have hKl := Lib.hid hK
            obtain ⟨v', hv'⟩ : ∃ v', vals 21 = v' := ⟨_, rfl⟩
            rw [hv'] at hown'
            generalize hput : putL _ vals _ _ _ = aa
            obtain rfl : aa = ⟨#[.agg #[.slice a1 A.length p1, .slice (some ⟨b, o, none⟩) (List.length XX) cap], .pointer (some ⟨w.heap.size, 0, none⟩), .pointer (some ⟨w.heap.size + 1, 0, none⟩), .pointer (some ⟨B, 0, none⟩), .int .i64 (k : Int), .pointer (some ⟨w.heap.size, 0, none⟩), .slice a1 A.length p1, .slice ua un uc, .agg #[.slice ua un uc, .slice none 0 0], .int .i64 (k : Int), .pointer (some ⟨w.heap.size, 1, none⟩), .slice (some ⟨b, o, none⟩) (List.length XX) cap, .int .i64 (List.length XX : Int), .bool true, .bool true, .int .i64 (k : Int), .bool true, .bool true, u18, u19, vals 0, vals 1, vals 2, vals 3, vals 4, vals 5, vals 6, vals 7, vals 8, vals 9, vals 10, vals 11, vals 12, vals 13, vals 14, vals 15, vals 16, vals 17, vals 18, vals 19, vals 20, v', .pointer (some ⟨B, 1, none⟩), undef], []⟩ := by rw [← hv', ← hv22, ← hput]; kernel_rfl
            clear hV hD hL hK hput
            obtain ⟨va, vn, vc, rfl⟩ := own_slice hown'
            refine wpOp_step rfl ?_
            intro K' hK'
            go_simp
            refine hK' _ _ (hKl.out _ _ ?_)
            go_wp2_with fail
            go_roundw
            case rel =>
              have hEO' := ExtO.snoc (x := (cut9 xe.1, fewT 3 xe.2)) hul' hus' hp.1 hown'
              rw [← HS.out] at hEO'
              have hBl := (hB.block B (by have := lt_of_heap HSTEP.out.1; omega) hvB).trans HSTEP.out.1
              refine ⟨k + 1, _, by omega, by omega, by go_num, hEO'.keptK (grown_setF (World.grownBy.refl _ _) 1 _) hBl, cells_set hBl _, ?_⟩
              exact ⟨hB5.os.trans HSTEP.out.2.os, hB5.tape.trans HSTEP.out.2.tape, hB5.output.trans HSTEP.out.2.output, by rw [show (wr'.setCell ⟨B, 1, none⟩ (.slice va vn vc)).heap.size = wr'.heap.size by simp [World.setCell]]; exact Nat.le_trans HSTEP.out.2.size hB.size, fun j hj hne => ((Below.heap_setCell wr' ⟨B, 1, none⟩ _ j (fun e => hne (by rw [e]))).trans (hB5.block j hj)).trans (HSTEP.out.2.block j hj hne)⟩
            case measure => simp [intOf]; omega
      · obtain rfl : k = 5 := by omega
        have hX : ExtO wr wc.heap.size v (fewX XX) := by rw [show fewX XX = (XX.take 5).map fun x => (cut9 x.1, fewT 3 x.2) from rfl]; exact hEO
        obtain ⟨us, hul, hown, hus⟩ := hX
        obtain ⟨va, vn, vc, rfl⟩ := own_slice hown
        obtain ⟨e0, e1⟩ := key_cells hhB
        have hresr := (hgr.block _ (by have := lt_of_heap HRES.out; omega) (by simp; omega)).trans HRES.out
        obtain ⟨q0, q1⟩ := key_cells hresr
        have f0 := cells_frozen 0 hresr
        have f1 := cells_frozen 1 hresr
        have HFIN := Lib.hid (And.intro hul (And.intro hown (And.intro hus (And.intro hgr hresr))))
        clear hEO hul hown hus hgr hresr hhB hboxr HXE
        go_wp2_with fail
        obtain ⟨hul, hown, hus, hgr, hresr⟩ := HFIN.out
        have hEX : ExtU wr (.slice va vn vc) (fewX XX) := ExtU.of_row (ExtO.row ⟨us, hul, hown, hus⟩)
        have hRA : RowU wr (.slice ua un uc) (fewT 5 A) := RowU.of_own (HY.out.kept hgr (.inr (own_not_ty HY.out HBC.out (by decide))))
        obtain ⟨hk1, hk2⟩ := KeyU.stored (k := fewK (A, XX)) hRA hEX hresr (fun x e => by cases e) (fun x e => by cases e)
        refine bodyPost_ret (results_cell_row rfl _ _ (w.heap.size + 1) 41 _ (0, 0) _ rfl hk2 Try.underlying41 rfl keySize) rfl ?_
        exact ⟨_, rfl, hk1, ((HBW.out.grown hgr HBW.out.size (fun g hg => by cases hg; omega)).setCell (by simp) _).setCell (by simp) _⟩
    · have hki : ¬ (k : Int) < (XX.length : Int) := by omega
      have hd : decide ((k : Int) < (XX.length : Int)) = false := decide_eq_false hki
      have hX : ExtO wr wc.heap.size v (fewX XX) := by rw [show fewX XX = (XX.take k).map fun x => (cut9 x.1, fewT 3 x.2) by unfold fewX; rw [List.take_of_length_le (by omega), List.take_of_length_le (by omega)]]; exact hEO
      obtain ⟨us, hul, hown, hus⟩ := hX
      obtain ⟨va, vn, vc, rfl⟩ := own_slice hown
      obtain ⟨e0, e1⟩ := key_cells hhB
      have hresr := (hgr.block _ (by have := lt_of_heap HRES.out; omega) (by simp; omega)).trans HRES.out
      obtain ⟨q0, q1⟩ := key_cells hresr
      have f0 := cells_frozen 0 hresr
      have f1 := cells_frozen 1 hresr
      have HFIN := Lib.hid (And.intro hul (And.intro hown (And.intro hus (And.intro hgr hresr))))
      clear hEO hul hown hus hgr hresr hhB hboxr HXE
      go_wp2_with fail
      obtain ⟨hul, hown, hus, hgr, hresr⟩ := HFIN.out
      have hEX : ExtU wr (.slice va vn vc) (fewX XX) := ExtU.of_row (ExtO.row ⟨us, hul, hown, hus⟩)
      have hRA : RowU wr (.slice ua un uc) (fewT 5 A) := RowU.of_own (HY.out.kept hgr (.inr (own_not_ty HY.out HBC.out (by decide))))
      obtain ⟨hk1, hk2⟩ := KeyU.stored (k := fewK (A, XX)) hRA hEX hresr (fun x e => by cases e) (fun x e => by cases e)
      refine bodyPost_ret (results_cell_row rfl _ _ (w.heap.size + 1) 41 _ (0, 0) _ rfl hk2 Try.underlying41 rfl keySize) rfl ?_
      exact ⟨_, rfl, hk1, ((HBW.out.grown hgr HBW.out.size (fun g hg => by cases hg; omega)).setCell (by simp) _).setCell (by simp) _⟩
end Go.Proofs.Ytgdcdijdpflmdaa
