/-
  Layer 6's statements: few.
-/
import Derived.Test.YtajdfckppnedjaaGreatDoorHExt
import Derived.Test.YtajdfckppnedjaaGreatDoorRFree
import Derived.Deep.AppendLies
namespace Go.Proofs.YtajdfckppnedjaaGreatDoor
open Go Go.RowKit

/-- Extensions cut to 4, with texts of 12 bytes, and 4 subtags each. -/
def extsT (l : List (ByteArray × List ByteArray)) : List (ByteArray × List ByteArray) := (l.take 4).map fun x => (cut12 x.1, rowT x.2)
theorem tagSize : (Tryz.prog.info? 25).map (·.size) = some 8 := by kernel_rfl
theorem extInfo : (Tryz.prog.info? 55).map (fun i => (i.zero, i.size, i.bytes)) = some (some (.agg #[.string ByteArray.empty, .slice none 0 0]), 2, 40) := by kernel_rfl

set_option maxRecDepth 100000 in
set_option maxHeartbeats 4000000 in
theorem few_any (l s r g : ByteArray) (ve vv vx vp : Value) (E VV PP : List ByteArray) (XX : List (ByteArray × List ByteArray)) (w : World) (hl : l.size ≤ maxLen) (hs : s.size ≤ maxLen) (hr : r.size ≤ maxLen) (hg : g.size ≤ maxLen) (hE : RowA w ve E) (hV : RowA w vv VV) (hP : RowA w vp PP) (hX : ExtA w vx XX) :
    Calls Tryz.prog 13 #[.agg #[.string l, ve, .string s, .string r, vv, vx, vp, .string g]] w fun e w' => ∃ x y xx z, e = .returned (.agg #[.string (cut12 l), x, .string (cut12 s), .string (cut12 r), y, xx, z, .string (cut12 g)]) ∧ Below w.heap.size w w' ∧
      w'.ownsRow w.heap.size 9 1 x (rowT E).length (strs (rowT E)) ∧ w'.ownsRow w.heap.size 9 1 y (rowT VV).length (strs (rowT VV)) ∧ w'.ownsRow w.heap.size 9 1 z (rowT PP).length (strs (rowT PP)) ∧ ∃ b2, ExtO w' b2 xx (extsT XX) ∧ ∀ g, y.ownBlock = some g → g < b2 ∧ x.ownBlock ≠ some g ∧ z.ownBlock ≠ some g := by
  obtain ⟨W0, hW0⟩ : ∃ W0, w.alloc (.cells #[.string l, ve, .string s, .string r, vv, vx, vp, .string g] 25) = W0 := ⟨_, rfl⟩
  have hb0 : Below w.heap.size w W0 := by rw [← hW0]; exact (Below.refl _ w).alloc (Nat.le_refl _) _
  have hz0' : w.heap.size < W0.heap.size := by rw [← hW0]; simp
  have hh0 : W0.heap[w.heap.size]? = some (.cells #[.string l, ve, .string s, .string r, vv, vx, vp, .string g] 25 (0, 0)) := by rw [← hW0]; exact World.alloc_heap_new w _
  obtain ⟨W1, hW1⟩ : ∃ W1, (W0.alloc (.cells #[.string ByteArray.empty, .slice none 0 0, .string ByteArray.empty, .string ByteArray.empty, .slice none 0 0, .slice none 0 0, .slice none 0 0, .string ByteArray.empty] 25)).drew = W1 := ⟨_, rfl⟩
  have hb1 : Below W0.heap.size W0 W1 := by rw [← hW1]; exact Below.drew ((Below.refl _ _).alloc (Nat.le_refl _) _)
  have hz1 : W0.heap.size < W1.heap.size := by rw [← hW1]; simp [World.drew]
  have hh1 : W1.heap[w.heap.size]? = some (.cells #[.string l, ve, .string s, .string r, vv, vx, vp, .string g] 25 (0, 0)) := (hb1.block _ hz0').trans hh0
  have hr1 : W1.heap[W0.heap.size]? = some (.cells #[.string ByteArray.empty, .slice none 0 0, .string ByteArray.empty, .string ByteArray.empty, .slice none 0 0, .slice none 0 0, .slice none 0 0, .string ByteArray.empty] 25 (0, 0)) := by rw [← hW1]; exact World.alloc_heap_new W0 _
  have hz01 : w.heap.size < W1.heap.size := by omega
  have HH := Lib.hid (fun wr (hb : Below W1.heap.size W1 wr) => tag_cells ((hb.block _ hz01).trans hh1))
  have SHl := Lib.hid (fun w5 => short12_any l w5 hl)
  have SHs := Lib.hid (fun w5 => short12_any s w5 hs)
  have SHr := Lib.hid (fun w5 => short12_any r w5 hr)
  have SHg := Lib.hid (fun w5 => short12_any g w5 hg)
  have hE' := (hE.below hb0).below hb1
  have hV' := (hV.below hb0).below hb1
  have hP' := (hP.below hb0).below hb1
  have RWE := Lib.hid (fun w5 (hb : Below W1.heap.size W1 w5) => row_any ve E w5 (hE'.below hb))
  have RWVV := Lib.hid (fun w5 (hb : Below W1.heap.size W1 w5) => row_any vv VV w5 (hV'.below hb))
  have RWPP := Lib.hid (fun w5 (hb : Below W1.heap.size W1 w5) => row_any vp PP w5 (hP'.below hb))
  have HB0 := Lib.hid hb0
  have HB1 := Lib.hid hb1
  have HR1 := Lib.hid hr1
  have HX := Lib.hid hX
  have HBOX := Lib.hid hh1
  clear hX hE hE' hV hV' hP hP' hb0 hb1 hh0 hh1 hr1 hl hs hr hg
  go_enter Tryz.func13, Tryz.ntmps13
  go_upto_region 1 with fail
  clear hW0
  go_cut [3] from 5 to 27 (fun u wx => ∃ B x y z, u = .pointer (some ⟨B, 0, none⟩) ∧ W1.heap.size ≤ B ∧ wx.heap[B]? = some (.cells #[.string (cut12 l), x, .string (cut12 s), .string (cut12 r), y, .slice none 0 0, z, .string (cut12 g)] 25 (0, 0)) ∧ wx.ownsRow W1.heap.size 9 1 x (rowT E).length (strs (rowT E)) ∧ wx.ownsRow W1.heap.size 9 1 y (rowT VV).length (strs (rowT VV)) ∧ wx.ownsRow W1.heap.size 9 1 z (rowT PP).length (strs (rowT PP)) ∧ (∀ g, y.ownBlock = some g → x.ownBlock ≠ some g ∧ z.ownBlock ≠ some g) ∧ Below W1.heap.size W1 wx)
  case first =>
    rename_i J1 K1 hJ1 hK1
    refine wp_region_any (by kernel_rfl) ?_
    change wpAny _ _ _ _ _ _ _ (World.drew _)
    change wpAny _ _ _ _ _ _ _ (World.drew (World.alloc _ (.cells #[.string ByteArray.empty, .slice none 0 0, .string ByteArray.empty, .string ByteArray.empty, .slice none 0 0, .slice none 0 0, .slice none 0 0, .string ByteArray.empty] _)))
    rw [hW1]
    clear hW1
    refine wp_region_free (n := 59) (z := 23) none (V := fun j v w' => match j with
      | 0 => v = .pointer (some ⟨w.heap.size, 0, none⟩)
      | 1 => v = .string l
      | 2 => v = .string (cut12 l)
      | 3 => v = .pointer (some ⟨w.heap.size, 2, none⟩)
      | 4 => v = .string s
      | 5 => v = .string (cut12 s)
      | 6 => v = .pointer (some ⟨w.heap.size, 3, none⟩)
      | 7 => v = .string r
      | 8 => v = .string (cut12 r)
      | 9 => v = .pointer (some ⟨w.heap.size, 7, none⟩)
      | 10 => v = .string g
      | 11 => v = .string (cut12 g)
      | 12 => v = .pointer (some ⟨w.heap.size, 1, none⟩)
      | 13 => v = ve
      | 14 => w'.ownsRow W1.heap.size 9 1 v (rowT E).length (strs (rowT E))
      | 15 => v = .pointer (some ⟨w.heap.size, 4, none⟩)
      | 16 => v = vv
      | 17 => w'.ownsRow W1.heap.size 9 1 v (rowT VV).length (strs (rowT VV))
      | 18 => v = .pointer (some ⟨w.heap.size, 6, none⟩)
      | 19 => v = vp
      | 20 => w'.ownsRow W1.heap.size 9 1 v (rowT PP).length (strs (rowT PP))
      | 21 => ∃ x y z, v = .agg #[.string (cut12 l), x, .string (cut12 s), .string (cut12 r), y, .slice none 0 0, z, .string (cut12 g)] ∧ w'.ownsRow W1.heap.size 9 1 x (rowT E).length (strs (rowT E)) ∧ w'.ownsRow W1.heap.size 9 1 y (rowT VV).length (strs (rowT VV)) ∧ w'.ownsRow W1.heap.size 9 1 z (rowT PP).length (strs (rowT PP)) ∧ (∀ g, y.ownBlock = some g → x.ownBlock ≠ some g ∧ z.ownBlock ≠ some g)
      | 22 => ∃ B, v = .pointer (some ⟨B, 0, none⟩) ∧ W1.heap.size ≤ B ∧ w'.heap[B]? = some (.cells #[.string ByteArray.empty, .slice none 0 0, .string ByteArray.empty, .string ByteArray.empty, .slice none 0 0, .slice none 0 0, .slice none 0 0, .string ByteArray.empty] 25 (0, 0))
      | _ => True)
      (blk := fun j v => match j with | 14 => v.ownBlock | 17 => v.ownBlock | 20 => v.ownBlock | _ => none) (by kernel_rfl) (Nat.le_refl _) 24 (fun _ => false) (by kernel_rfl) ?_ (fun _ _ _ _ h => by cases h) ?_ ?_
    case refine_1 =>
      intro j v wa wb hv hb
      have hb := belowF_of hb
      match j with
      | 0 => exact hv
      | 1 => exact hv
      | 2 => exact hv
      | 3 => exact hv
      | 4 => exact hv
      | 5 => exact hv
      | 6 => exact hv
      | 7 => exact hv
      | 8 => exact hv
      | 9 => exact hv
      | 10 => exact hv
      | 11 => exact hv
      | 12 => exact hv
      | 13 => exact hv
      | 14 => exact ownsRow_belowF hv hb
      | 15 => exact hv
      | 16 => exact hv
      | 17 => exact ownsRow_belowF hv hb
      | 18 => exact hv
      | 19 => exact hv
      | 20 => exact ownsRow_belowF hv hb
      | 21 => obtain ⟨x, y, z, h0, h1, h2, h3, h4⟩ := hv; exact ⟨x, y, z, h0, ownsRow_belowF h1 hb, ownsRow_belowF h2 hb, ownsRow_belowF h3 hb, h4⟩
      | 22 => obtain ⟨B, h0, h1, h2⟩ := hv; exact ⟨B, h0, h1, (hb.block _ (lt_of_heap h2)).trans h2⟩
      | n + 23 => trivial
    case refine_2 =>
      intro i hi vals a wr hB _ hV hD hE hO K hK
      have hB := belowF_of hB
      obtain ⟨d0, d1, d2, d3, d4, d5, d6, d7⟩ := HH.out _ hB
      have hOl := Lib.hid hO
      have hEl := Lib.hid hE
      have hVl := Lib.hid hV
      have hDl := Lib.hid hD
      have hKl := Lib.hid hK
      clear hO hE hV hD hK HH
      match i, hi with
      | 0, _ =>
        have e0 : a.tmps.getD 1 undef = .pointer (some ⟨w.heap.size, 0, none⟩) := hOl.out 1 (by kernel_rfl)
        refine wpOp_step rfl ?_
        intro K' hK'
        go_simp
        exact hK' _ _ (hKl.out _ _ (fun _ => World.grownBy.refl _ _) (fun h => absurd h (by decide)) (fun _ => rfl) rfl (fun g hg => by cases hg))
      | 1, _ =>
        have e0 : a.tmps.getD 5 undef = .pointer (some ⟨w.heap.size, 0, none⟩) := (hEl.out 0 5 (by kernel_rfl) rfl).trans (hVl.out 0 (by kernel_rfl) (fun h => by cases h))
        refine wpOp_step rfl ?_
        intro K' hK'
        go_simp
        exact hK' _ _ (hKl.out _ _ (fun _ => World.grownBy.refl _ _) (fun h => absurd h (by decide)) (fun _ => rfl) rfl (fun g hg => by cases hg))
      | 2, _ =>
        have e0 : a.tmps.getD 6 undef = .string l := (hEl.out 1 6 (by kernel_rfl) rfl).trans (hVl.out 1 (by kernel_rfl) (fun h => by cases h))
        refine wpOp_step rfl ?_
        intro K' hK'
        go_simp
        go_at_call 42; (with_reducible refine (SHl.out _).mono ?_); rintro e w' ⟨rfl, rfl⟩
        go_simp
        exact hK' _ _ (hKl.out _ _ (fun _ => World.grownBy.refl _ _) (fun h => absurd h (by decide)) (fun _ => rfl) rfl (fun g hg => by cases hg))
      | 3, _ =>
        have e0 : a.tmps.getD 1 undef = .pointer (some ⟨w.heap.size, 0, none⟩) := hOl.out 1 (by kernel_rfl)
        refine wpOp_step rfl ?_
        intro K' hK'
        go_simp
        exact hK' _ _ (hKl.out _ _ (fun _ => World.grownBy.refl _ _) (fun h => absurd h (by decide)) (fun _ => rfl) rfl (fun g hg => by cases hg))
      | 4, _ =>
        have e0 : a.tmps.getD 8 undef = .pointer (some ⟨w.heap.size, 2, none⟩) := (hEl.out 3 8 (by kernel_rfl) rfl).trans (hVl.out 3 (by kernel_rfl) (fun h => by cases h))
        refine wpOp_step rfl ?_
        intro K' hK'
        go_simp
        exact hK' _ _ (hKl.out _ _ (fun _ => World.grownBy.refl _ _) (fun h => absurd h (by decide)) (fun _ => rfl) rfl (fun g hg => by cases hg))
      | 5, _ =>
        have e0 : a.tmps.getD 9 undef = .string s := (hEl.out 4 9 (by kernel_rfl) rfl).trans (hVl.out 4 (by kernel_rfl) (fun h => by cases h))
        refine wpOp_step rfl ?_
        intro K' hK'
        go_simp
        go_at_call 42; (with_reducible refine (SHs.out _).mono ?_); rintro e w' ⟨rfl, rfl⟩
        go_simp
        exact hK' _ _ (hKl.out _ _ (fun _ => World.grownBy.refl _ _) (fun h => absurd h (by decide)) (fun _ => rfl) rfl (fun g hg => by cases hg))
      | 6, _ =>
        have e0 : a.tmps.getD 1 undef = .pointer (some ⟨w.heap.size, 0, none⟩) := hOl.out 1 (by kernel_rfl)
        refine wpOp_step rfl ?_
        intro K' hK'
        go_simp
        exact hK' _ _ (hKl.out _ _ (fun _ => World.grownBy.refl _ _) (fun h => absurd h (by decide)) (fun _ => rfl) rfl (fun g hg => by cases hg))
      | 7, _ =>
        have e0 : a.tmps.getD 11 undef = .pointer (some ⟨w.heap.size, 3, none⟩) := (hEl.out 6 11 (by kernel_rfl) rfl).trans (hVl.out 6 (by kernel_rfl) (fun h => by cases h))
        refine wpOp_step rfl ?_
        intro K' hK'
        go_simp
        exact hK' _ _ (hKl.out _ _ (fun _ => World.grownBy.refl _ _) (fun h => absurd h (by decide)) (fun _ => rfl) rfl (fun g hg => by cases hg))
      | 8, _ =>
        have e0 : a.tmps.getD 12 undef = .string r := (hEl.out 7 12 (by kernel_rfl) rfl).trans (hVl.out 7 (by kernel_rfl) (fun h => by cases h))
        refine wpOp_step rfl ?_
        intro K' hK'
        go_simp
        go_at_call 42; (with_reducible refine (SHr.out _).mono ?_); rintro e w' ⟨rfl, rfl⟩
        go_simp
        exact hK' _ _ (hKl.out _ _ (fun _ => World.grownBy.refl _ _) (fun h => absurd h (by decide)) (fun _ => rfl) rfl (fun g hg => by cases hg))
      | 9, _ =>
        have e0 : a.tmps.getD 1 undef = .pointer (some ⟨w.heap.size, 0, none⟩) := hOl.out 1 (by kernel_rfl)
        refine wpOp_step rfl ?_
        intro K' hK'
        go_simp
        exact hK' _ _ (hKl.out _ _ (fun _ => World.grownBy.refl _ _) (fun h => absurd h (by decide)) (fun _ => rfl) rfl (fun g hg => by cases hg))
      | 10, _ =>
        have e0 : a.tmps.getD 14 undef = .pointer (some ⟨w.heap.size, 7, none⟩) := (hEl.out 9 14 (by kernel_rfl) rfl).trans (hVl.out 9 (by kernel_rfl) (fun h => by cases h))
        refine wpOp_step rfl ?_
        intro K' hK'
        go_simp
        exact hK' _ _ (hKl.out _ _ (fun _ => World.grownBy.refl _ _) (fun h => absurd h (by decide)) (fun _ => rfl) rfl (fun g hg => by cases hg))
      | 11, _ =>
        have e0 : a.tmps.getD 15 undef = .string g := (hEl.out 10 15 (by kernel_rfl) rfl).trans (hVl.out 10 (by kernel_rfl) (fun h => by cases h))
        refine wpOp_step rfl ?_
        intro K' hK'
        go_simp
        go_at_call 42; (with_reducible refine (SHg.out _).mono ?_); rintro e w' ⟨rfl, rfl⟩
        go_simp
        exact hK' _ _ (hKl.out _ _ (fun _ => World.grownBy.refl _ _) (fun h => absurd h (by decide)) (fun _ => rfl) rfl (fun g hg => by cases hg))
      | 12, _ =>
        have e0 : a.tmps.getD 1 undef = .pointer (some ⟨w.heap.size, 0, none⟩) := hOl.out 1 (by kernel_rfl)
        refine wpOp_step rfl ?_
        intro K' hK'
        go_simp
        exact hK' _ _ (hKl.out _ _ (fun _ => World.grownBy.refl _ _) (fun h => absurd h (by decide)) (fun _ => rfl) rfl (fun g hg => by cases hg))
      | 13, _ =>
        have e0 : a.tmps.getD 17 undef = .pointer (some ⟨w.heap.size, 1, none⟩) := (hEl.out 12 17 (by kernel_rfl) rfl).trans (hVl.out 12 (by kernel_rfl) (fun h => by cases h))
        refine wpOp_step rfl ?_
        intro K' hK'
        go_simp
        exact hK' _ _ (hKl.out _ _ (fun _ => World.grownBy.refl _ _) (fun h => absurd h (by decide)) (fun _ => rfl) rfl (fun g hg => by cases hg))
      | 14, _ =>
        have e0 : a.tmps.getD 18 undef = ve := (hEl.out 13 18 (by kernel_rfl) rfl).trans (hVl.out 13 (by kernel_rfl) (fun h => by cases h))
        refine wpOp_step rfl ?_
        intro K' hK'
        go_simp
        go_at_call 43; (with_reducible refine (RWE.out _ hB).mono ?_); rintro e w' ⟨u, rfl, ho, hb⟩
        go_simp
        exact hK' _ _ (hKl.out _ _ (fun _ => grownF_of hb) (fun h => absurd h (by decide)) (fun h => by cases h) (own_lower ho hB.size) (fun g hg => ho.lt g hg))
      | 15, _ =>
        have e0 : a.tmps.getD 1 undef = .pointer (some ⟨w.heap.size, 0, none⟩) := hOl.out 1 (by kernel_rfl)
        refine wpOp_step rfl ?_
        intro K' hK'
        go_simp
        exact hK' _ _ (hKl.out _ _ (fun _ => World.grownBy.refl _ _) (fun h => absurd h (by decide)) (fun _ => rfl) rfl (fun g hg => by cases hg))
      | 16, _ =>
        have e0 : a.tmps.getD 20 undef = .pointer (some ⟨w.heap.size, 4, none⟩) := (hEl.out 15 20 (by kernel_rfl) rfl).trans (hVl.out 15 (by kernel_rfl) (fun h => by cases h))
        refine wpOp_step rfl ?_
        intro K' hK'
        go_simp
        exact hK' _ _ (hKl.out _ _ (fun _ => World.grownBy.refl _ _) (fun h => absurd h (by decide)) (fun _ => rfl) rfl (fun g hg => by cases hg))
      | 17, _ =>
        have e0 : a.tmps.getD 21 undef = vv := (hEl.out 16 21 (by kernel_rfl) rfl).trans (hVl.out 16 (by kernel_rfl) (fun h => by cases h))
        refine wpOp_step rfl ?_
        intro K' hK'
        go_simp
        go_at_call 43; (with_reducible refine (RWVV.out _ hB).mono ?_); rintro e w' ⟨u, rfl, ho, hb⟩
        go_simp
        exact hK' _ _ (hKl.out _ _ (fun _ => grownF_of hb) (fun h => absurd h (by decide)) (fun h => by cases h) (own_lower ho hB.size) (fun g hg => ho.lt g hg))
      | 18, _ =>
        have e0 : a.tmps.getD 1 undef = .pointer (some ⟨w.heap.size, 0, none⟩) := hOl.out 1 (by kernel_rfl)
        refine wpOp_step rfl ?_
        intro K' hK'
        go_simp
        exact hK' _ _ (hKl.out _ _ (fun _ => World.grownBy.refl _ _) (fun h => absurd h (by decide)) (fun _ => rfl) rfl (fun g hg => by cases hg))
      | 19, _ =>
        have e0 : a.tmps.getD 23 undef = .pointer (some ⟨w.heap.size, 6, none⟩) := (hEl.out 18 23 (by kernel_rfl) rfl).trans (hVl.out 18 (by kernel_rfl) (fun h => by cases h))
        refine wpOp_step rfl ?_
        intro K' hK'
        go_simp
        exact hK' _ _ (hKl.out _ _ (fun _ => World.grownBy.refl _ _) (fun h => absurd h (by decide)) (fun _ => rfl) rfl (fun g hg => by cases hg))
      | 20, _ =>
        have e0 : a.tmps.getD 24 undef = vp := (hEl.out 19 24 (by kernel_rfl) rfl).trans (hVl.out 19 (by kernel_rfl) (fun h => by cases h))
        refine wpOp_step rfl ?_
        intro K' hK'
        go_simp
        go_at_call 43; (with_reducible refine (RWPP.out _ hB).mono ?_); rintro e w' ⟨u, rfl, ho, hb⟩
        go_simp
        exact hK' _ _ (hKl.out _ _ (fun _ => grownF_of hb) (fun h => absurd h (by decide)) (fun h => by cases h) (own_lower ho hB.size) (fun g hg => ho.lt g hg))
      | 21, _ =>
        have e0 : a.tmps.getD 7 undef = .string (cut12 l) := (hEl.out 2 7 (by kernel_rfl) rfl).trans (hVl.out 2 (by kernel_rfl) (fun h => by cases h))
        have e1 : a.tmps.getD 10 undef = .string (cut12 s) := (hEl.out 5 10 (by kernel_rfl) rfl).trans (hVl.out 5 (by kernel_rfl) (fun h => by cases h))
        have e2 : a.tmps.getD 13 undef = .string (cut12 r) := (hEl.out 8 13 (by kernel_rfl) rfl).trans (hVl.out 8 (by kernel_rfl) (fun h => by cases h))
        have e3 : a.tmps.getD 16 undef = .string (cut12 g) := (hEl.out 11 16 (by kernel_rfl) rfl).trans (hVl.out 11 (by kernel_rfl) (fun h => by cases h))
        obtain ⟨ao0, no0, co0, vo0⟩ := own_slice (hVl.out 14 (by kernel_rfl) (fun h => by cases h))
        have e4 : a.tmps.getD 19 undef = .slice ao0 no0 co0 := (hEl.out 14 19 (by kernel_rfl) rfl).trans vo0
        obtain ⟨ao1, no1, co1, vo1⟩ := own_slice (hVl.out 17 (by kernel_rfl) (fun h => by cases h))
        have e5 : a.tmps.getD 22 undef = .slice ao1 no1 co1 := (hEl.out 17 22 (by kernel_rfl) rfl).trans vo1
        obtain ⟨ao2, no2, co2, vo2⟩ := own_slice (hVl.out 20 (by kernel_rfl) (fun h => by cases h))
        have e6 : a.tmps.getD 25 undef = .slice ao2 no2 co2 := (hEl.out 20 25 (by kernel_rfl) rfl).trans vo2
        rw [Array.getD_eq_getD_getElem?] at e0 e1 e2 e3 e4 e5 e6
        refine wpOp_step rfl ?_
        intro K' hK'
        go_simp
        exact hK' _ _ (hKl.out _ _ (fun _ => World.grownBy.refl _ _) (fun h => absurd h (by decide)) (fun _ => rfl) ⟨vals 14, vals 17, vals 20, (by rw [vo0, vo1, vo2]), hVl.out 14 (by kernel_rfl) (fun h => by cases h), hVl.out 17 (by kernel_rfl) (fun h => by cases h), hVl.out 20 (by kernel_rfl) (fun h => by cases h), fun g hg => ⟨hDl.out 17 14 (by decide) (by kernel_rfl) (by kernel_rfl) g hg, hDl.out 17 20 (by decide) (by kernel_rfl) (by kernel_rfl) g hg⟩⟩ (fun g hg => by cases hg))
      | 22, _ =>
        refine wpOp_step rfl ?_
        intro K' hK'
        go_simp
        exact hK' _ _ (hKl.out _ _ (fun _ => World.grownBy_alloc _ _ _) (fun h => absurd h (by decide)) (fun h => by cases h) ⟨_, rfl, hB.size, World.alloc_heap_new _ _⟩ (fun g hg => by cases hg))
      | n + 23, h => exact absurd h (by omega)
    case refine_3 =>
      intro vals wr hB hV hD hL K hK
      have hB := belowF_of hB
      obtain ⟨B, hv22, hB22, hh22⟩ := hV 22 (by omega) (fun h => absurd h (by decide))
      obtain ⟨x, y, z, hv21, hx, hy, hz, hne⟩ := hV 21 (by omega) (fun h => absurd h (by decide))
      have hKl := Lib.hid hK
      generalize hput : putL _ vals _ _ _ = aa
      obtain rfl : aa = ⟨#[.agg #[.string l, ve, .string s, .string r, vv, vx, vp, .string g], .pointer (some ⟨w.heap.size, 0, none⟩), .pointer (some ⟨W0.heap.size, 0, none⟩), .pointer (some ⟨B, 0, none⟩), undef, vals 0, vals 1, vals 2, vals 3, vals 4, vals 5, vals 6, vals 7, vals 8, vals 9, vals 10, vals 11, vals 12, vals 13, vals 14, vals 15, vals 16, vals 17, vals 18, vals 19, vals 20, .agg #[.string (cut12 l), x, .string (cut12 s), .string (cut12 r), y, .slice none 0 0, z, .string (cut12 g)], undef, undef, undef, undef, undef, undef, undef, undef, undef, undef, undef, undef, undef, undef, undef, undef, undef, undef, undef, undef, undef, undef, undef, undef, undef, undef, undef, undef, undef, undef, undef, undef], []⟩ := by rw [← hv21, ← hv22, ← hput]; kernel_rfl
      clear hV hD hL hK HH hput
      obtain ⟨xa, xn, xc, rfl⟩ := own_slice hx
      obtain ⟨ya, yn, yc, rfl⟩ := own_slice hy
      obtain ⟨za, zn, zc, rfl⟩ := own_slice hz
      obtain ⟨d0, d1, d2, d3, d4, d5, d6, d7⟩ := tag_cells hh22
      have f0 := cells_frozen 0 hh22
      have f1 := cells_frozen 1 hh22
      have f2 := cells_frozen 2 hh22
      have f3 := cells_frozen 3 hh22
      have f4 := cells_frozen 4 hh22
      have f5 := cells_frozen 5 hh22
      have f6 := cells_frozen 6 hh22
      have f7 := cells_frozen 7 hh22
      refine wpOp_step rfl ?_
      intro K' hK'
      go_simp
      refine hK' _ _ (hKl.out _ _ (hK1 _ _ (Met.intro (hJ1 _ _ ?_))))
      obtain ⟨hw1, hw2⟩ := tag_store hh22 (.string (cut12 l)) (.slice xa xn xc) (.string (cut12 s)) (.string (cut12 r)) (.slice ya yn yc) (.slice none 0 0) (.slice za zn zc) (.string (cut12 g))
      generalize (((((((wr.setCell _ _).setCell _ _).setCell _ _).setCell _ _).setCell _ _).setCell _ _).setCell _ _).setCell _ _ = wz at *
      have nx := own_not_tag hx hh22
      have ny := own_not_tag hy hh22
      have nz := own_not_tag hz hh22
      (repeat apply Exists.intro)
      refine ⟨?rel, rfl⟩
      case rel =>
        exact ⟨B, _, _, _, rfl, hB22, hw1, hx.kept hw2 (.inr nx), hy.kept hw2 (.inr ny), hz.kept hw2 (.inr nz), hne, hB.grown hw2 hB.size (fun k hk => by cases hk; exact hB22)⟩
  case rest =>
    obtain ⟨B, x, y, z, rfl, hB22, hw1, hx, hy, hz, hne, hB⟩ := hcut
    obtain ⟨i1, hii, iz0, iz1, iz2⟩ := info_parts extInfo
    have hbw : Below w.heap.size w wc := HB0.out.trans ((HB1.out.mono (by omega)).trans (hB.mono (by omega)))
    have hbx := hx.lt
    have hby := hy.lt
    have hBlt := lt_of_heap hw1
    have hXw := HX.out
    have hXc := hXw
    have HY := Lib.hid (And.intro hx (And.intro hy (And.intro hz hne)))
    have HZ := Lib.hid hB
    have HYL := Lib.hid (fun g hg => (hy.lt g hg).2)
    have hres : wc.heap[W0.heap.size]? = some (.cells #[.string ByteArray.empty, .slice none 0 0, .string ByteArray.empty, .string ByteArray.empty, .slice none 0 0, .slice none 0 0, .slice none 0 0, .string ByteArray.empty] 25 (0, 0)) := (hB.block _ hz1).trans HR1.out
    have HRES := Lib.hid hres
    have HBX := Lib.hid ((HH.out _ hB))
    have hboxc : wc.heap[w.heap.size]? = some (.cells #[.string l, ve, .string s, .string r, vv, vx, vp, .string g] 25 (0, 0)) := (hB.block _ hz01).trans HBOX.out
    have HBOXC := Lib.hid hboxc
    have hwb : w.heap.size < B := by omega
    have hrb : W0.heap.size < B := by omega
    have HBW := Lib.hid hbw
    clear hx hy hz hne hB hbx hby hres hboxc hbw hXw HX HB0 HB1 HR1 HH SHl SHs SHr SHg RWE RWVV RWPP HBOX
    obtain ⟨ao, cap, rfl, hXl, hXe⟩ := hXc
    unfold maxLen at hXl
    have HXE := Lib.hid hXe
    clear hXe
    go_wp2_with fail
    go_loopw [4] (fun i wr => ∃ (k : Nat) (v : Value), k ≤ XX.length ∧ k ≤ 4 ∧ i = .int .i64 (k : Int) ∧ ExtO wr wc.heap.size v ((XX.take k).map fun x => (cut12 x.1, rowT x.2)) ∧ wr.heap[B]? = some (.cells #[.string (cut12 l), x, .string (cut12 s), .string (cut12 r), y, v, z, .string (cut12 g)] 25 (0, 0)) ∧ wc.grownBy wr (some B)) (fun i _ => 5 - (intOf i).toNat)
    case atStart => exact ⟨0, _, Nat.zero_le _, by omega, rfl, ExtO.nil _ _, hw1, World.grownBy.refl _ _⟩
    case round =>
      obtain ⟨k, v, hk, hk4, rfl, hEO, hhB, hgr⟩ := hrel
      have hboxr := (hgr.block _ (by omega) (by simp; omega)).trans HBOXC.out
      obtain ⟨d0, d1, d2, d3, d4, d5, d6, d7⟩ := tag_cells hboxr
      by_cases hlt : k < XX.length
      · have hki : (k : Int) < (XX.length : Int) := by omega
        have hd : decide ((k : Int) < (XX.length : Int)) = true := decide_eq_true hki
        by_cases hlt4 : k < 4
        · have hki4 : (k : Int) < 4 := by omega
          have hk0 : (0 : Int) ≤ (k : Int) := by omega
          go_upto_region 5 with fail
          obtain ⟨xe, hxe⟩ : ∃ p, XX[k]? = some p := ⟨_, List.getElem?_eq_getElem hlt⟩
          obtain ⟨b, o, vs, rfl, c1, c2, hks, hra⟩ := HXE.out k xe hxe
          have hbr : Below w.heap.size w wr := HBW.out.grown hgr HBW.out.size (fun g hg => by cases hg; omega)
          have SH := Lib.hid (fun w5 => short12_any xe.1 w5 hks)
          have hbl : b < w.heap.size := lt_of_cellF c1
          have c1 := (hbr.cell (p := ⟨b, o + k * 2, none⟩) hbl).trans c1
          have c2 := (hbr.cell (p := ⟨b, o + k * 2 + 1, none⟩) hbl).trans c2
          obtain ⟨e0, e1, e2, e3, e4, e5, e6, e7⟩ := tag_cells hhB
          have RW := Lib.hid (fun w5 (hb : Below w.heap.size w w5) => row_any vs xe.2 w5 (hra.below hb))
          obtain ⟨us, hul, hown, hus⟩ := hEO
          have hLk : ((XX.take k).map fun x => (cut12 x.1, rowT x.2)).length = k := by rw [List.length_map, List.length_take]; omega
          have HS := Lib.hid (show ((XX.take (k + 1)).map fun x => (cut12 x.1, rowT x.2)) = ((XX.take k).map fun x => (cut12 x.1, rowT x.2)) ++ [(cut12 xe.1, rowT xe.2)] by rw [take_next hxe, List.map_append]; rfl)
          generalize ((XX.take k).map fun x => (cut12 x.1, rowT x.2)) = L at *
          have hvo := hown.lt
          have hvB : some B ≠ v.ownBlock := by
            intro e
            have := (hvo B e.symm).1
            omega
          have hsb : wc.heap.size ≤ wr.heap.size := hgr.size
          have HCELL := Lib.hid (fun (w' : World) (hb : Below wc.heap.size wr w') => show w'.cell? ⟨w.heap.size, 5, none⟩ = some (.slice (some ⟨b, o, none⟩) XX.length cap) ∧ w'.cell? ⟨B, 5, none⟩ = some v ∧ w'.cell? ⟨b, o + k * 2, none⟩ = some (.string xe.1) ∧ w'.cell? ⟨b, o + k * 2 + 1, none⟩ = some vs ∧ w'.frozen? ⟨B, 5, none⟩ = false from
            ⟨(hb.cell (p := ⟨w.heap.size, 5, none⟩) (by show w.heap.size < _; omega)).trans d5, (hb.cell (p := ⟨B, 5, none⟩) hBlt).trans e5, (hb.cell (p := ⟨b, o + k * 2, none⟩) (by show b < _; have := HBW.out.size; omega)).trans c1, (hb.cell (p := ⟨b, o + k * 2 + 1, none⟩) (by show b < _; have := HBW.out.size; omega)).trans c2, (hb.frozen (p := ⟨B, 5, none⟩) hBlt).trans (cells_frozen 5 hhB)⟩)
          have HGB := Lib.hid (fun (w' : World) (hb : wr.grownBy w' v.ownBlock) => show Below wc.heap.size wr w' from (Below.refl _ _).grown hb hsb (fun g hg => (hvo g hg).1))
          have HOWN := Lib.hid (And.intro hul (And.intro hown hus))
          have HBR := Lib.hid hbr
          have HSTEP := Lib.hid (And.intro hhB hgr)
          clear hul hown hus c1 c2 hra hbr d0 d1 d2 d3 d4 d5 d6 d7 e0 e1 e2 e3 e4 e5 e6 e7 hhB hgr hboxr
          refine wp_region_any (by kernel_rfl) ?_
          change wpAny _ _ _ _ _ _ _ (World.drew _)
          refine wp_region_free (n := 59) (z := 20) (w0 := wr.drew) v.ownBlock (V := fun j u w' => match j with
            | 0 => u = .pointer (some ⟨B, 5, none⟩)
            | 1 => u = v
            | 2 => u = .pointer (some ⟨w.heap.size, 5, none⟩)
            | 3 => u = .slice (some ⟨b, o, none⟩) XX.length cap
            | 4 => u = .int .i64 (k : Int)
            | 5 => u = .pointer (some ⟨b, o + k * 2, none⟩)
            | 6 => u = .pointer (some ⟨b, o + k * 2, none⟩)
            | 7 => u = .string xe.1
            | 8 => u = .string (cut12 xe.1)
            | 9 => u = .pointer (some ⟨w.heap.size, 5, none⟩)
            | 10 => u = .slice (some ⟨b, o, none⟩) XX.length cap
            | 11 => u = .int .i64 (k : Int)
            | 12 => u = .pointer (some ⟨b, o + k * 2, none⟩)
            | 13 => u = .pointer (some ⟨b, o + k * 2 + 1, none⟩)
            | 14 => u = vs
            | 15 => (w'.ownsRow wc.heap.size 9 1 u (rowT xe.2).length (strs (rowT xe.2)) ∧ (Value.ownBlock u = none ∨ Value.ownBlock u ≠ v.ownBlock))
            | 16 => ∃ p, u = .agg #[.string (cut12 xe.1), p] ∧ (w'.ownsRow wc.heap.size 9 1 p (rowT xe.2).length (strs (rowT xe.2)) ∧ (Value.ownBlock p = none ∨ Value.ownBlock p ≠ v.ownBlock))
            | 17 => ∃ g p, u = .slice (some ⟨g, 0, none⟩) 1 1 ∧ w'.heap[g]? = some (.cells #[.string (cut12 xe.1), p] 55 (0, 0)) ∧ some g ≠ v.ownBlock ∧ (w'.ownsRow wc.heap.size 9 1 p (rowT xe.2).length (strs (rowT xe.2)) ∧ (Value.ownBlock p = none ∨ Value.ownBlock p ≠ v.ownBlock))
            | 18 => ∃ p us, us.length = L.length ∧ w'.ownsRow wc.heap.size 55 2 u (L.length + 1) (extCells L us ++ [.string (cut12 xe.1), p]) ∧ (w'.ownsRow wc.heap.size 9 1 p (rowT xe.2).length (strs (rowT xe.2)) ∧ (Value.ownBlock p = none ∨ Value.ownBlock p ≠ v.ownBlock)) ∧ (∀ (i : Nat) (q : Value) (x : ByteArray × List ByteArray), us[i]? = some q → L[i]? = some x → w'.ownsRow wc.heap.size 9 1 q x.2.length (strs x.2))
            | 19 => u = .pointer (some ⟨B, 5, none⟩)
            | _ => True)
            (blk := fun _ _ => none) (by kernel_rfl) (Nat.le_refl _) 18 (fun i => i == 19) (by kernel_rfl) ?_ ?_ ?_ ?_
          case refine_1 =>
            intro j u wa wb hv hb
            match j with
            | 0 => exact hv
            | 1 => exact hv
            | 2 => exact hv
            | 3 => exact hv
            | 4 => exact hv
            | 5 => exact hv
            | 6 => exact hv
            | 7 => exact hv
            | 8 => exact hv
            | 9 => exact hv
            | 10 => exact hv
            | 11 => exact hv
            | 12 => exact hv
            | 13 => exact hv
            | 14 => exact hv
            | 15 => exact ⟨hv.1.kept hb (by cases u.ownBlock <;> simp), hv.2⟩
            | 16 => obtain ⟨p, h0, h1, h2⟩ := hv; exact ⟨p, h0, h1.kept hb (by cases p.ownBlock <;> simp), h2⟩
            | 17 => obtain ⟨g, p, h0, h1, h2, h3, h4⟩ := hv; exact ⟨g, p, h0, (hb.block _ (lt_of_heap h1) (by simp)).trans h1, h2, h3.kept hb (by cases p.ownBlock <;> simp), h4⟩
            | 18 => obtain ⟨p, qs, h0, h1, h2, h3⟩ := hv; exact ⟨p, qs, h0, h1.kept hb (by cases u.ownBlock <;> simp), ⟨h2.1.kept hb (by cases p.ownBlock <;> simp), h2.2⟩, fun i q x hq hx => (h3 i q x hq hx).kept hb (by cases q.ownBlock <;> simp)⟩
            | 19 => exact hv
            | n + 20 => trivial
          case refine_2 =>
            intro j u wa wb hj hv _
            obtain rfl : j = 19 := by simpa using hj
            exact hv
          case refine_3 =>
            intro i hi vals a wr' hB hB0 hV hD hE hO K hK
            have hB : wr.grownBy wr' v.ownBlock := ⟨hB.os, hB.tape, hB.output, hB.size, hB.block⟩
            have hB5 := HGB.out _ hB
            obtain ⟨c1, c2, c3, c4, c5⟩ := HCELL.out _ hB5
            have hOl := Lib.hid hO
            have hEl := Lib.hid hE
            have hVl := Lib.hid hV
            have hKl := Lib.hid hK
            clear hO hE hV hK hD
            match i, hi with
            | 0, _ =>
              have g0 : a.tmps.getD 3 undef = .pointer (some ⟨B, 0, none⟩) := hOl.out 3 (by kernel_rfl)
              refine wpOp_step rfl ?_
              intro K' hK'
              go_simp
              exact hK' _ _ (hKl.out _ _ (fun _ => World.grownBy.refl _ _) (fun h => absurd h (by decide)) (fun _ => rfl) rfl (fun g hg => by cases hg))
            | 1, _ =>
              have g0 : a.tmps.getD 38 undef = .pointer (some ⟨B, 5, none⟩) := (hEl.out 0 38 (by kernel_rfl) rfl).trans (hVl.out 0 (by kernel_rfl) (fun h => by cases h))
              refine wpOp_step rfl ?_
              intro K' hK'
              go_simp
              exact hK' _ _ (hKl.out _ _ (fun _ => World.grownBy.refl _ _) (fun h => absurd h (by decide)) (fun _ => rfl) rfl (fun g hg => by cases hg))
            | 2, _ =>
              have g0 : a.tmps.getD 1 undef = .pointer (some ⟨w.heap.size, 0, none⟩) := hOl.out 1 (by kernel_rfl)
              refine wpOp_step rfl ?_
              intro K' hK'
              go_simp
              exact hK' _ _ (hKl.out _ _ (fun _ => World.grownBy.refl _ _) (fun h => absurd h (by decide)) (fun _ => rfl) rfl (fun g hg => by cases hg))
            | 3, _ =>
              have g0 : a.tmps.getD 40 undef = .pointer (some ⟨w.heap.size, 5, none⟩) := (hEl.out 2 40 (by kernel_rfl) rfl).trans (hVl.out 2 (by kernel_rfl) (fun h => by cases h))
              refine wpOp_step rfl ?_
              intro K' hK'
              go_simp
              exact hK' _ _ (hKl.out _ _ (fun _ => World.grownBy.refl _ _) (fun h => absurd h (by decide)) (fun _ => rfl) rfl (fun g hg => by cases hg))
            | 4, _ =>
              have g0 : a.tmps.getD 4 undef = .int .i64 (k : Int) := hOl.out 4 (by kernel_rfl)
              refine wpOp_step rfl ?_
              intro K' hK'
              go_simp
              exact hK' _ _ (hKl.out _ _ (fun _ => World.grownBy.refl _ _) (fun h => absurd h (by decide)) (fun _ => rfl) rfl (fun g hg => by cases hg))
            | 5, _ =>
              have g0 : a.tmps.getD 41 undef = .slice (some ⟨b, o, none⟩) XX.length cap := (hEl.out 3 41 (by kernel_rfl) rfl).trans (hVl.out 3 (by kernel_rfl) (fun h => by cases h))
              have g1 : a.tmps.getD 42 undef = .int .i64 (k : Int) := (hEl.out 4 42 (by kernel_rfl) rfl).trans (hVl.out 4 (by kernel_rfl) (fun h => by cases h))
              refine wpOp_step rfl ?_
              intro K' hK'
              go_simp
              exact hK' _ _ (hKl.out _ _ (fun _ => World.grownBy.refl _ _) (fun h => absurd h (by decide)) (fun _ => rfl) rfl (fun g hg => by cases hg))
            | 6, _ =>
              have g0 : a.tmps.getD 43 undef = .pointer (some ⟨b, o + k * 2, none⟩) := (hEl.out 5 43 (by kernel_rfl) rfl).trans (hVl.out 5 (by kernel_rfl) (fun h => by cases h))
              refine wpOp_step rfl ?_
              intro K' hK'
              go_simp
              exact hK' _ _ (hKl.out _ _ (fun _ => World.grownBy.refl _ _) (fun h => absurd h (by decide)) (fun _ => rfl) rfl (fun g hg => by cases hg))
            | 7, _ =>
              have g0 : a.tmps.getD 44 undef = .pointer (some ⟨b, o + k * 2, none⟩) := (hEl.out 6 44 (by kernel_rfl) rfl).trans (hVl.out 6 (by kernel_rfl) (fun h => by cases h))
              refine wpOp_step rfl ?_
              intro K' hK'
              go_simp
              exact hK' _ _ (hKl.out _ _ (fun _ => World.grownBy.refl _ _) (fun h => absurd h (by decide)) (fun _ => rfl) rfl (fun g hg => by cases hg))
            | 8, _ =>
              have g0 : a.tmps.getD 45 undef = .string xe.1 := (hEl.out 7 45 (by kernel_rfl) rfl).trans (hVl.out 7 (by kernel_rfl) (fun h => by cases h))
              refine wpOp_step rfl ?_
              intro K' hK'
              go_simp
              go_at_call 42; (with_reducible refine (SH.out _).mono ?_); rintro e w' ⟨rfl, rfl⟩
              go_simp
              exact hK' _ _ (hKl.out _ _ (fun _ => World.grownBy.refl _ _) (fun h => absurd h (by decide)) (fun _ => rfl) rfl (fun g hg => by cases hg))
            | 9, _ =>
              have g0 : a.tmps.getD 1 undef = .pointer (some ⟨w.heap.size, 0, none⟩) := hOl.out 1 (by kernel_rfl)
              refine wpOp_step rfl ?_
              intro K' hK'
              go_simp
              exact hK' _ _ (hKl.out _ _ (fun _ => World.grownBy.refl _ _) (fun h => absurd h (by decide)) (fun _ => rfl) rfl (fun g hg => by cases hg))
            | 10, _ =>
              have g0 : a.tmps.getD 47 undef = .pointer (some ⟨w.heap.size, 5, none⟩) := (hEl.out 9 47 (by kernel_rfl) rfl).trans (hVl.out 9 (by kernel_rfl) (fun h => by cases h))
              refine wpOp_step rfl ?_
              intro K' hK'
              go_simp
              exact hK' _ _ (hKl.out _ _ (fun _ => World.grownBy.refl _ _) (fun h => absurd h (by decide)) (fun _ => rfl) rfl (fun g hg => by cases hg))
            | 11, _ =>
              have g0 : a.tmps.getD 4 undef = .int .i64 (k : Int) := hOl.out 4 (by kernel_rfl)
              refine wpOp_step rfl ?_
              intro K' hK'
              go_simp
              exact hK' _ _ (hKl.out _ _ (fun _ => World.grownBy.refl _ _) (fun h => absurd h (by decide)) (fun _ => rfl) rfl (fun g hg => by cases hg))
            | 12, _ =>
              have g0 : a.tmps.getD 48 undef = .slice (some ⟨b, o, none⟩) XX.length cap := (hEl.out 10 48 (by kernel_rfl) rfl).trans (hVl.out 10 (by kernel_rfl) (fun h => by cases h))
              have g1 : a.tmps.getD 49 undef = .int .i64 (k : Int) := (hEl.out 11 49 (by kernel_rfl) rfl).trans (hVl.out 11 (by kernel_rfl) (fun h => by cases h))
              refine wpOp_step rfl ?_
              intro K' hK'
              go_simp
              exact hK' _ _ (hKl.out _ _ (fun _ => World.grownBy.refl _ _) (fun h => absurd h (by decide)) (fun _ => rfl) rfl (fun g hg => by cases hg))
            | 13, _ =>
              have g0 : a.tmps.getD 50 undef = .pointer (some ⟨b, o + k * 2, none⟩) := (hEl.out 12 50 (by kernel_rfl) rfl).trans (hVl.out 12 (by kernel_rfl) (fun h => by cases h))
              refine wpOp_step rfl ?_
              intro K' hK'
              go_simp
              exact hK' _ _ (hKl.out _ _ (fun _ => World.grownBy.refl _ _) (fun h => absurd h (by decide)) (fun _ => rfl) rfl (fun g hg => by cases hg))
            | 14, _ =>
              have g0 : a.tmps.getD 51 undef = .pointer (some ⟨b, o + k * 2 + 1, none⟩) := (hEl.out 13 51 (by kernel_rfl) rfl).trans (hVl.out 13 (by kernel_rfl) (fun h => by cases h))
              refine wpOp_step rfl ?_
              intro K' hK'
              go_simp
              exact hK' _ _ (hKl.out _ _ (fun _ => World.grownBy.refl _ _) (fun h => absurd h (by decide)) (fun _ => rfl) rfl (fun g hg => by cases hg))
            | 15, _ =>
              have g0 : a.tmps.getD 52 undef = vs := (hEl.out 14 52 (by kernel_rfl) rfl).trans (hVl.out 14 (by kernel_rfl) (fun h => by cases h))
              refine wpOp_step rfl ?_
              intro K' hK'
              go_simp
              go_at_call 43; (with_reducible refine (RW.out _ (HBR.out.trans (hB5.mono (by have := HBW.out.size; omega)))).mono ?_); rintro e w' ⟨u, rfl, ho, hb⟩
              go_simp
              exact hK' _ _ (hKl.out _ _ (fun _ => grownF_of hb) (fun h => absurd h (by decide)) (fun h => by cases h) ⟨own_lower ho (by have := hB5.size; omega), (by cases hb9 : u.ownBlock with | none => exact .inl rfl | some g => right; intro e; have h1 := (ho.lt g hb9).1; have h2 := (hvo g e.symm).2; have := hB.size; omega)⟩ (fun g hg => by cases hg))
            | 16, _ =>
              have g0 : a.tmps.getD 46 undef = .string (cut12 xe.1) := (hEl.out 8 46 (by kernel_rfl) rfl).trans (hVl.out 8 (by kernel_rfl) (fun h => by cases h))
              obtain ⟨ao5, no5, co5, vo5⟩ := own_slice (hVl.out 15 (by kernel_rfl) (fun h => by cases h)).1
              have g1 : a.tmps.getD 53 undef = .slice ao5 no5 co5 := (hEl.out 15 53 (by kernel_rfl) rfl).trans vo5
              rw [Array.getD_eq_getD_getElem?] at g0 g1
              refine wpOp_step rfl ?_
              intro K' hK'
              go_simp
              exact hK' _ _ (hKl.out _ _ (fun _ => World.grownBy.refl _ _) (fun h => absurd h (by decide)) (fun _ => rfl) ⟨vals 15, (by rw [vo5]), hVl.out 15 (by kernel_rfl) (fun h => by cases h)⟩ (fun g hg => by cases hg))
            | 17, _ =>
              obtain ⟨p, vo5, ho5⟩ := hVl.out 16 (by kernel_rfl) (fun h => by cases h)
              obtain ⟨ao5, no5, co5, rfl⟩ := own_slice ho5.1
              have g0 : a.tmps.getD 54 undef = .agg #[.string (cut12 xe.1), .slice ao5 no5 co5] := (hEl.out 16 54 (by kernel_rfl) rfl).trans vo5
              rw [Array.getD_eq_getD_getElem?] at g0
              refine wpOp_step rfl ?_
              intro K' hK'
              go_simp
              exact hK' _ _ (hKl.out _ _ (fun _ => World.grownBy_alloc _ _ _) (fun h => absurd h (by decide)) (fun h => by cases h) ⟨_, _, rfl, World.alloc_heap_new _ _, (fun e => by have := (hvo _ e.symm).2; have := hB.size; omega), ho5.1.alloc _, ho5.2⟩ (fun g hg => by cases hg))
            | 18, _ =>
              obtain ⟨ng, np, hv17, hnh, hnn, hno, hnk⟩ := hVl.out 17 (by kernel_rfl) (fun h => by cases h)
              have q0 : a.tmps.getD 39 undef = v := (hEl.out 1 39 (by kernel_rfl) rfl).trans (hVl.out 1 (by kernel_rfl) (fun h => by cases h))
              have q1 : a.tmps.getD 55 undef = .slice (some ⟨ng, 0, none⟩) 1 1 := (hEl.out 17 55 (by kernel_rfl) rfl).trans hv17
              have hB0' := hB0 rfl
              have hB0 : wr.grownBy wr' none := ⟨hB0'.os, hB0'.tape, hB0'.output, hB0'.size, hB0'.block⟩
              have hownr := HOWN.out.2.1.kept hB0 (by cases v.ownBlock <;> simp)
              obtain ⟨ao7, no7, co7, rfl⟩ := own_slice hno
              refine wpOp_step rfl ?_
              intro K' hK'
              refine step_append_lies _ rfl _ _ 23 rfl wc.heap.size 55 i1 (.agg #[.string ByteArray.empty, .slice none 0 0]) 2 40 Tryz.underlying23 hii iz0 iz1 iz2 rfl (by decide) v L.length (extCells L us) q0 hownr ⟨ng, 0, none⟩ 1 1 [.string (cut12 xe.1), .slice ao7 no7 co7] q1 rfl (World.news_of_block hnh) (by intro u hu; simp at hu; rcases hu with rfl | rfl <;> rfl) (by decide) (by unfold maxLen; omega) (by omega) (by have := hB5.size; omega) _ rfl ?_
              intro g7 cap7 w7 hown7 hgrow7 _ _
              exact hK' _ _ (hKl.out _ _ (fun h => absurd rfl h) (fun _ => hgrow7) (fun h => by cases h) ⟨_, us, HOWN.out.1, hown7, ⟨hno.kept hgrow7 hnk, hnk⟩, fun i q x hq hx => ((HOWN.out.2.2 i q x hq hx).kept hB0 (by cases q.ownBlock <;> simp)).kept hgrow7 (own_types_ne ((HOWN.out.2.2 i q x hq hx).kept hB0 (by cases q.ownBlock <;> simp)) hownr (by decide))⟩ (fun g hg => by cases hg))
            | 19, _ =>
              have g0 : a.tmps.getD 3 undef = .pointer (some ⟨B, 0, none⟩) := hOl.out 3 (by kernel_rfl)
              refine wpOp_step rfl ?_
              intro K' hK'
              go_simp
              exact hK' _ _ (hKl.out _ _ (fun _ => World.grownBy.refl _ _) (fun h => absurd h (by decide)) (fun _ => rfl) rfl (fun g hg => by cases hg))
            | n + 20, h => exact absurd h (by omega)
          case refine_4 =>
            intro vals wr' hB hV hD hL K hK
            have hB : wr.grownBy wr' v.ownBlock := ⟨hB.os, hB.tape, hB.output, hB.size, hB.block⟩
            have hB5 := HGB.out _ hB
            obtain ⟨c1, c2, c3, c4, c5⟩ := HCELL.out _ hB5
            obtain ⟨p, us', hul', hown', hp, hus'⟩ := hV 18 (by omega) (fun _ => .inl rfl)
            have hv19 := hV 19 (by omega) (fun _ => .inr rfl)
            have hKl := Lib.hid hK
            obtain ⟨v', hv'⟩ : ∃ v', vals 18 = v' := ⟨_, rfl⟩
            rw [hv'] at hown'
            generalize hput : putL _ vals _ _ _ = aa
            obtain rfl : aa = ⟨#[.agg #[.string l, ve, .string s, .string r, vv, .slice (some ⟨b, o, none⟩) XX.length cap, vp, .string g], .pointer (some ⟨w.heap.size, 0, none⟩), .pointer (some ⟨W0.heap.size, 0, none⟩), .pointer (some ⟨B, 0, none⟩), .int .i64 (k : Int), u5, u6, u7, u8, u9, u10, u11, u12, u13, u14, u15, u16, u17, u18, u19, u20, u21, u22, u23, u24, u25, u26, .int .i64 (k : Int), .pointer (some ⟨w.heap.size, 5, none⟩), .slice (some ⟨b, o, none⟩) XX.length cap, .int .i64 (XX.length : Int), .bool true, .bool true, .int .i64 (k : Int), .bool true, .bool true, u36, u37, vals 0, vals 1, vals 2, vals 3, vals 4, vals 5, vals 6, vals 7, vals 8, vals 9, vals 10, vals 11, vals 12, vals 13, vals 14, vals 15, vals 16, vals 17, v', .pointer (some ⟨B, 5, none⟩), undef], []⟩ := by rw [← hv', ← hv19, ← hput]; kernel_rfl
            clear hV hD hL hK hput
            obtain ⟨va, vn, vc, rfl⟩ := own_slice hown'
            refine wpOp_step rfl ?_
            intro K' hK'
            go_simp
            refine hK' _ _ (hKl.out _ _ ?_)
            go_wp2_with fail
            go_roundw
            case rel =>
              have hEO' := ExtO.snoc (x := (cut12 xe.1, rowT xe.2)) hul' hus' hp.1 hown'
              rw [← HS.out] at hEO'
              have hBl := (hB.block B (by have := lt_of_heap HSTEP.out.1; omega) hvB).trans HSTEP.out.1
              refine ⟨k + 1, _, by omega, by omega, by go_num, hEO'.kept (grown_setF (World.grownBy.refl _ _) 5 _) (fun g hg => by cases hg; exact .inr ⟨_, hBl⟩), cells_set hBl _, ?_⟩
              exact ⟨hB5.os.trans HSTEP.out.2.os, hB5.tape.trans HSTEP.out.2.tape, hB5.output.trans HSTEP.out.2.output, by rw [show (wr'.setCell ⟨B, 5, none⟩ (.slice va vn vc)).heap.size = wr'.heap.size by simp [World.setCell]]; exact Nat.le_trans HSTEP.out.2.size hB.size, fun j hj hne => ((Below.heap_setCell wr' ⟨B, 5, none⟩ _ j (fun e => hne (by rw [e]))).trans (hB5.block j hj)).trans (HSTEP.out.2.block j hj hne)⟩
            case measure => simp [intOf]; omega
        · obtain rfl : k = 4 := by omega
          have hEOF : ExtO wr wc.heap.size v (extsT XX) := by rw [show extsT XX = (XX.take 4).map fun x => (cut12 x.1, rowT x.2) from rfl]; exact hEO
          obtain ⟨us, hul, hown, hus⟩ := hEOF
          obtain ⟨va, vn, vc, rfl⟩ := own_slice hown
          obtain ⟨hx, hy, hz, hne⟩ := HY.out
          obtain ⟨xa, xn, xc, rfl⟩ := own_slice hx
          obtain ⟨ya, yn, yc, rfl⟩ := own_slice hy
          obtain ⟨za, zn, zc, rfl⟩ := own_slice hz
          obtain ⟨e0, e1, e2, e3, e4, e5, e6, e7⟩ := tag_cells hhB
          have hresr := (hgr.block _ (by have := HRES.out; exact lt_of_heap this) (by simp; omega)).trans HRES.out
          obtain ⟨q0, q1, q2, q3, q4, q5, q6, q7⟩ := tag_cells hresr
          have f0 := cells_frozen 0 hresr
          have f1 := cells_frozen 1 hresr
          have f2 := cells_frozen 2 hresr
          have f3 := cells_frozen 3 hresr
          have f4 := cells_frozen 4 hresr
          have f5 := cells_frozen 5 hresr
          have f6 := cells_frozen 6 hresr
          have f7 := cells_frozen 7 hresr
          have HFIN := Lib.hid (And.intro hul (And.intro hown (And.intro hus (And.intro hx (And.intro hy (And.intro hz (And.intro hne (And.intro hgr hresr))))))))
          clear hEO hul hown hus hx hy hz hne hgr hresr hhB hboxr HXE
          go_wp2_with fail
          obtain ⟨hul, hown, hus, hx, hy, hz, hne, hgr, hresr⟩ := HFIN.out
          obtain ⟨hk1, hk2⟩ := tag_store hresr (.string (cut12 l)) (.slice xa xn xc) (.string (cut12 s)) (.string (cut12 r)) (.slice ya yn yc) (.slice va vn vc) (.slice za zn zc) (.string (cut12 g))
          refine bodyPost_ret (results_cell_row rfl _ _ W0.heap.size 25 _ (0, 0) _ rfl hk1 Tryz.underlying25 rfl tagSize) rfl ?_
          generalize (((((((wr.setCell _ _).setCell _ _).setCell _ _).setCell _ _).setCell _ _).setCell _ _).setCell _ _).setCell _ _ = wz at *
          have hEOF : ExtO wr wc.heap.size (.slice va vn vc) (extsT XX) := ⟨us, hul, hown, hus⟩
          have nx := own_not_tag hx hw1
          have ny := own_not_tag hy hw1
          have nz := own_not_tag hz hw1
          have hx := hx.kept hgr (.inr nx)
          have hy' := hy.kept hgr (.inr ny)
          have hz := hz.kept hgr (.inr nz)
          refine ⟨_, _, _, _, rfl, (HBW.out.grown hgr HBW.out.size (fun g hg => by cases hg; omega)).grown hk2 (by have := HBW.out.size; have := hgr.size; omega) (fun g hg => by cases hg; omega), own_lower (hx.kept hk2 (.inr (own_not_tag hx hresr))) (by omega), own_lower (hy'.kept hk2 (.inr (own_not_tag hy' hresr))) (by omega), own_lower (hz.kept hk2 (.inr (own_not_tag hz hresr))) (by omega), wc.heap.size, hEOF.kept hk2 (fun g hg => by cases hg; exact .inr ⟨_, hresr⟩), fun g hg => ⟨(hy.lt g hg).2, (hne g hg).1, (hne g hg).2⟩⟩
      · have hki : ¬ (k : Int) < (XX.length : Int) := by omega
        have hd : decide ((k : Int) < (XX.length : Int)) = false := decide_eq_false hki
        have hEOF : ExtO wr wc.heap.size v (extsT XX) := by rw [show extsT XX = (XX.take k).map fun x => (cut12 x.1, rowT x.2) by unfold extsT; rw [List.take_of_length_le (by omega), List.take_of_length_le (by omega)]]; exact hEO
        obtain ⟨us, hul, hown, hus⟩ := hEOF
        obtain ⟨va, vn, vc, rfl⟩ := own_slice hown
        obtain ⟨hx, hy, hz, hne⟩ := HY.out
        obtain ⟨xa, xn, xc, rfl⟩ := own_slice hx
        obtain ⟨ya, yn, yc, rfl⟩ := own_slice hy
        obtain ⟨za, zn, zc, rfl⟩ := own_slice hz
        obtain ⟨e0, e1, e2, e3, e4, e5, e6, e7⟩ := tag_cells hhB
        have hresr := (hgr.block _ (by have := HRES.out; exact lt_of_heap this) (by simp; omega)).trans HRES.out
        obtain ⟨q0, q1, q2, q3, q4, q5, q6, q7⟩ := tag_cells hresr
        have f0 := cells_frozen 0 hresr
        have f1 := cells_frozen 1 hresr
        have f2 := cells_frozen 2 hresr
        have f3 := cells_frozen 3 hresr
        have f4 := cells_frozen 4 hresr
        have f5 := cells_frozen 5 hresr
        have f6 := cells_frozen 6 hresr
        have f7 := cells_frozen 7 hresr
        have HFIN := Lib.hid (And.intro hul (And.intro hown (And.intro hus (And.intro hx (And.intro hy (And.intro hz (And.intro hne (And.intro hgr hresr))))))))
        clear hEO hul hown hus hx hy hz hne hgr hresr hhB hboxr HXE
        go_wp2_with fail
        obtain ⟨hul, hown, hus, hx, hy, hz, hne, hgr, hresr⟩ := HFIN.out
        obtain ⟨hk1, hk2⟩ := tag_store hresr (.string (cut12 l)) (.slice xa xn xc) (.string (cut12 s)) (.string (cut12 r)) (.slice ya yn yc) (.slice va vn vc) (.slice za zn zc) (.string (cut12 g))
        refine bodyPost_ret (results_cell_row rfl _ _ W0.heap.size 25 _ (0, 0) _ rfl hk1 Tryz.underlying25 rfl tagSize) rfl ?_
        generalize (((((((wr.setCell _ _).setCell _ _).setCell _ _).setCell _ _).setCell _ _).setCell _ _).setCell _ _).setCell _ _ = wz at *
        have hEOF : ExtO wr wc.heap.size (.slice va vn vc) (extsT XX) := ⟨us, hul, hown, hus⟩
        have nx := own_not_tag hx hw1
        have ny := own_not_tag hy hw1
        have nz := own_not_tag hz hw1
        have hx := hx.kept hgr (.inr nx)
        have hy' := hy.kept hgr (.inr ny)
        have hz := hz.kept hgr (.inr nz)
        refine ⟨_, _, _, _, rfl, (HBW.out.grown hgr HBW.out.size (fun g hg => by cases hg; omega)).grown hk2 (by have := HBW.out.size; have := hgr.size; omega) (fun g hg => by cases hg; omega), own_lower (hx.kept hk2 (.inr (own_not_tag hx hresr))) (by omega), own_lower (hy'.kept hk2 (.inr (own_not_tag hy' hresr))) (by omega), own_lower (hz.kept hk2 (.inr (own_not_tag hz hresr))) (by omega), wc.heap.size, hEOF.kept hk2 (fun g hg => by cases hg; exact .inr ⟨_, hresr⟩), fun g hg => ⟨(hy.lt g hg).2, (hne g hg).1, (hne g hg).2⟩⟩
end Go.Proofs.YtajdfckppnedjaaGreatDoor
