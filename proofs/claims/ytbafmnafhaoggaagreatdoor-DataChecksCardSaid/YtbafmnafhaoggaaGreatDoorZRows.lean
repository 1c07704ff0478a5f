/-
  Package image: rows[T] at the four kinds of things. (Printed by wip/gen_zrows.py.)
-/
import Derived.Test.YtbafmnafhaoggaaGreatDoorZPacks
import Derived.Test.YtbafmnafhaoggaaGreatDoorZLik
import Derived.Test.YtbafmnafhaoggaaGreatDoorYCode
namespace Go.Proofs.YtbafmnafhaoggaaGreatDoor
open Go Go.RowKit

theorem heap_setsZ {w : World} {B j : Nat} (h : j ≠ B) (b0 b1 b2 b3 b4 : Value) : (((((w.setCell ⟨B, 0, none⟩ b0).setCell ⟨B, 1, none⟩ b1).setCell ⟨B, 2, none⟩ b2).setCell ⟨B, 3, none⟩ b3).setCell ⟨B, 4, none⟩ b4).heap[j]? = w.heap[j]? := by
  rw [heap_setCellZ h, heap_setCellZ h, heap_setCellZ h, heap_setCellZ h, heap_setCellZ h]
theorem own_setsZ {w : World} {B : Nat} {e : TypeId} {sz : Nat} {v : Value} {n : Nat} {xs : List Value} (h : w.ownsRow (B + 2) e sz v n xs) (b0 b1 b2 b3 b4 : Value) :
    (((((w.setCell ⟨B + 1, 0, none⟩ b0).setCell ⟨B + 1, 1, none⟩ b1).setCell ⟨B + 1, 2, none⟩ b2).setCell ⟨B + 1, 3, none⟩ b3).setCell ⟨B + 1, 4, none⟩ b4).ownsRow (B + 2) e sz v n xs := by
  have one : ∀ (w : World) k b, w.ownsRow (B + 2) e sz v n xs → (w.setCell ⟨B + 1, k, none⟩ b).ownsRow (B + 2) e sz v n xs := fun w k b h =>
    ownsRow_setCell_below h (a := ⟨B + 1, k, none⟩) (Nat.lt_succ_self _) b
  exact one _ _ _ (one _ _ _ (one _ _ _ (one _ _ _ (one _ _ _ h))))

set_option maxRecDepth 100000 in
set_option maxHeartbeats 8000000 in
theorem rows_al (v : Value) (l : List Al) (w : World) (wh : ByteArray) (wd ky : Int) (hv : RowC w v 6 (l.map alC)) (hl : l.length ≤ 4000) (hs : ∀ x ∈ l, AlS x) (hg : GL w) :
    Calls Tryz.prog 38 #[.agg #[.string wh, .int .i64 wd, .int .i64 ky, .slice none 0 0, .nilIface], v, .func (.func 39) #[] #[]] w fun e w' => ∃ u er, e = .returned (.agg #[.string wh, .int .i64 wd, .int .i64 ky, u, er]) ∧ PartZ w' u er wh (l.map rowB) (badL rightA l) ∧ Below w.heap.size w w' := by
  obtain ⟨i0, hi, hz0, hz1, hz2⟩ := info_parts stringInfo
  have HS := PaI.start w wh wd ky
  obtain ⟨W1, hW1⟩ : ∃ W1, (w.alloc (.cells #[.string wh, .int .i64 wd, .int .i64 ky, .slice none 0 0, .nilIface] 54)).alloc (.cells #[.string ⟨#[]⟩, .int .i64 0, .int .i64 0, .slice none 0 0, .nilIface] 54) = W1 := ⟨_, rfl⟩
  rw [hW1] at HS
  have HW1 := Lib.hid hW1
  obtain ⟨ao, cap, rfl, hc⟩ := hv
  rw [List.length_map]
  have HCL := Lib.hid (fun k x (hx : l[k]? = some x) => hc k (alC x) (by rw [List.getElem?_map, hx]; rfl))
  have HF := Lib.hid (fun x (hm : x ∈ l) w5 (hb : Below w.heap.size w w5) => show Calls Tryz.prog 39 #[.agg #[.int .i64 x.k, .string x.a, .string x.b, .string x.l, .string x.s, .string x.r]] w5 fun e w6 => ∃ t, e = .returned (.tuple #[.string t, .bool (rightA x)]) ∧ (rightA x = true → t = rowB x) ∧ Below w5.heap.size w5 w6 from by
    have hx := hs x hm
    exact (encode_al x w5 hx (hg.below hb hg.size)).mono fun e w6 ⟨p, q⟩ => ⟨_, p, (fun h => by unfold encS; rw [if_pos h]), q⟩)
  clear hW1 hc hs
  go_enter Tryz.func38, Tryz.ntmps38
  go_upto_region 1 with fail
  rw [HW1.out]
  go_wp2_with fail
  go_loopw [7, 8, 9, 10, 13] (fun _ _ _ _ i wr => ∃ (k : Nat) (u : Value), k ≤ l.length ∧ i = .int .i64 (k : Int) ∧ badL rightA (l.take k) = none ∧ PaI w wr wh wd ky u ((l.take k).map rowB)) (fun _ _ _ _ i _ => l.length - (intOf i).toNat)
  case atStart => exact ⟨0, _, Nat.zero_le _, rfl, rfl, HS⟩
  case round =>
    obtain ⟨k, u, hk, rfl, hbad, hP⟩ := hrel
    clear HS HW1
    by_cases hlt : k < l.length
    · have hki : (k : Int) < (l.length : Int) := by omega
      have hk0 : (0 : Int) ≤ (k : Int) := by omega
      obtain ⟨x, hx⟩ : ∃ x, l[k]? = some x := ⟨_, List.getElem?_eq_getElem hlt⟩
      obtain ⟨g, o, rfl, hcc⟩ := HCL.out k x hx
      have c0 := (hP.bel.cell (p := ⟨g, o + k * 6, none⟩) (lt_cellZ (hcc 0 _ rfl))).trans (hcc 0 _ rfl)
      have c1 := (hP.bel.cell (p := ⟨g, o + k * 6 + 1, none⟩) (lt_cellZ (hcc 1 _ rfl))).trans (hcc 1 _ rfl)
      have c2 := (hP.bel.cell (p := ⟨g, o + k * 6 + 2, none⟩) (lt_cellZ (hcc 2 _ rfl))).trans (hcc 2 _ rfl)
      have c3 := (hP.bel.cell (p := ⟨g, o + k * 6 + 3, none⟩) (lt_cellZ (hcc 3 _ rfl))).trans (hcc 3 _ rfl)
      have c4 := (hP.bel.cell (p := ⟨g, o + k * 6 + 4, none⟩) (lt_cellZ (hcc 4 _ rfl))).trans (hcc 4 _ rfl)
      have c5 := (hP.bel.cell (p := ⟨g, o + k * 6 + 5, none⟩) (lt_cellZ (hcc 5 _ rfl))).trans (hcc 5 _ rfl)
      have HC := Lib.hid (HF.out x (List.mem_of_getElem? hx))
      have HBAD := Lib.hid (badL_at (p := rightA) hbad hx)
      have HNXT := Lib.hid (badL_next (p := rightA) hbad hx)
      have HLN := Lib.hid (show (l.take (k + 1)).map rowB = (l.take k).map rowB ++ [rowB x] by rw [take_nextW hx, List.map_append]; rfl)
      have hlen : ((l.take k).map rowB).length ≤ 4000 := by rw [List.length_map, List.length_take]; omega
      clear hcc hx hbad HF HCL
      generalize (l.take k).map rowB = L at *
      generalize rowB x = fx at *
      generalize rightA x = r at *
      go_upto_region 4 with fail
      obtain ⟨we, hwe⟩ : ∃ we, wr.alloc (.cells #[.int .i64 x.k, .string x.a, .string x.b, .string x.l, .string x.s, .string x.r] 42) = we := ⟨_, rfl⟩
      have hE : we.heap[wr.heap.size]? = some (.cells #[.int .i64 x.k, .string x.a, .string x.b, .string x.l, .string x.s, .string x.r] 42 (0, 0)) := by rw [← hwe]; exact World.alloc_heap_new wr _
      have hPe : PaI w we wh wd ky u L := by rw [← hwe]; exact hP.below ((Below.refl _ wr).alloc (Nat.le_refl _) _)
      rw [hwe]
      clear c0 c1 c2 c3 c4 c5 hwe hP
      obtain ⟨e0, e1, e2, e3, e4, e5⟩ := cells6 hE
      obtain ⟨u1, u2, u3, rfl⟩ := own_sliceZ hPe.own
      cases r with
      | false =>
        have HB := Lib.hid (HBAD.out rfl)
        have HN := Lib.hid (fun w' => newZ_any 12 (k : Int) wh w' (by decide))
        clear HBAD HNXT HLN hE
        go_upto_region 7 with (first
          | (go_at_call 39; refine (HC.out _ hPe.bel).mono ?_; rintro e w5 ⟨t5, rfl, -, hb5⟩; have hP5 := hPe.below hb5; obtain ⟨⟨p0, p1, p2, p3, p4⟩, -⟩ := cells5 hP5.blk)
          | (go_at_call 26; (with_reducible refine (HN.out _).mono ?_); rintro e w6 ⟨er, rfl, hf6, hb6⟩; have hP6 := hP5.below hb6; obtain ⟨bf, rfl, hf7⟩ := hf6; obtain ⟨⟨q0, q1, q2, q3, q4⟩, ⟨f0, f1, f2, f3, f4⟩⟩ := cells5 hP6.blk))
        have hY : (w6.setCell ⟨w.heap.size, 4, none⟩ (.iface 126 (.pointer (some ⟨bf, 0, none⟩)))).heap[w.heap.size]? = some (.cells #[.string wh, .int .i64 wd, .int .i64 ky, .slice u1 u2 u3, .iface 126 (.pointer (some ⟨bf, 0, none⟩))] 54 (0, 0)) := setY hP6.blk _
        have hYr : (w6.setCell ⟨w.heap.size, 4, none⟩ (.iface 126 (.pointer (some ⟨bf, 0, none⟩)))).heap[w.heap.size + 1]? = _ := (heap_setCellZ (by omega)).trans hP6.res
        have hYb : Below w.heap.size w (w6.setCell ⟨w.heap.size, 4, none⟩ (.iface 126 (.pointer (some ⟨bf, 0, none⟩)))) := hP6.bel.setCell (p := ⟨w.heap.size, 4, none⟩) (Nat.le_refl _) _
        have hYf : FaultZ (w6.setCell ⟨w.heap.size, 4, none⟩ (.iface 126 (.pointer (some ⟨bf, 0, none⟩)))) (.iface 126 (.pointer (some ⟨bf, 0, none⟩))) 12 (k : Int) wh := ⟨bf, rfl, (heap_setCellZ (fun e => by subst e; have h := hP6.blk; rw [hf7] at h; simp [faultObj] at h)).trans hf7⟩
        generalize w6.setCell ⟨w.heap.size, 4, none⟩ (.iface 126 (.pointer (some ⟨bf, 0, none⟩))) = Y at *
        have HY5 := Lib.hid (store5 hYr (.string wh) (.int .i64 wd) (.int .i64 ky) (.slice u1 u2 u3) (.iface 126 (.pointer (some ⟨bf, 0, none⟩))))
        have HYB := Lib.hid hYb
        have HYF := Lib.hid hYf
        have HYR := Lib.hid hYr
        obtain ⟨⟨a0, a1, a2, a3, a4⟩, -⟩ := cells5 hY
        obtain ⟨⟨b0, b1, b2, b3, b4⟩, ⟨d0, d1, d2, d3, d4⟩⟩ := cells5 hYr
        clear hY hYr hYb hYf hf7 hP6 hP5 hPe p0 p1 p2 p3 p4 q0 q1 q2 q3 q4 f0 f1 f2 f3 f4 hb5 hb6 HC HN
        go_wp2
        refine bodyPost_ret (results_cell_row rfl _ _ (w.heap.size + 1) 54 _ (0, 0) _ rfl HY5.out.1 Tryz.underlying54 rfl sizePart) rfl ?_
        refine ⟨_, _, rfl, ?_, HYB.out.trans (HY5.out.2 w.heap.size (by omega))⟩
        rw [HB.out]
        obtain ⟨bf', he, hbf⟩ := HYF.out
        cases he
        refine ⟨⟨bf, rfl, ?_⟩, _, _, _, rfl⟩
        exact (heap_setsZ (fun e => by subst e; have h := HYR.out; rw [hbf] at h; simp [faultObj] at h) _ _ _ _ _).trans hbf
      | true =>
        clear HBAD hE
        go_wp2_with (first
          | (go_at_call 39; refine (HC.out _ hPe.bel).mono ?_; rintro e w5 ⟨t5, rfl, ht5, hb5⟩; obtain rfl := ht5 (by trivial); have hP5 := hPe.below hb5; have hs5 := hP5.siz; obtain ⟨⟨p0, p1, p2, p3, p4⟩, -⟩ := cells5 hP5.blk)
          | (at_builtin; refine wpList_append_own _ rfl _ _ 52 rfl (w.heap.size + 2) 9 i0 (.string ByteArray.empty) 1 16 Tryz.underlying52 hi hz0 hz1 hz2 rfl (by decide) _ _ _ rfl (hP5.own.alloc _) ⟨_, 0, none⟩ 1 1 [.string t5] rfl rfl (cell_oneW _ _ _) (by intro u hu; simp at hu; subst hu; rfl) (by unfold maxLen; omega) (by omega) (by simp; omega) ?_; intro v' w7 hown7 hgrow7 _; have HP7 := Lib.hid (hP5.push hgrow7 hown7); obtain ⟨h70, -, -⟩ := hP5.grown hgrow7; obtain ⟨⟨q0, q1, q2, q3, q4⟩, ⟨f0, f1, f2, f3, f4⟩⟩ := cells5 h70; obtain ⟨va, vn, vc, rfl⟩ := own_sliceZ hown7))
        go_roundw
        case rel => exact ⟨k + 1, _, by omega, by go_num, HNXT.out (by trivial), by rw [HLN.out]; exact HP7.out⟩
        case measure => simp [intOf]; omega
    · obtain rfl : k = l.length := by omega
      have hki : ¬ (l.length : Int) < (l.length : Int) := by omega
      rw [List.take_length] at hbad hP
      have HBAD := Lib.hid hbad
      obtain ⟨u1, u2, u3, rfl⟩ := own_sliceZ hP.own
      have HY5 := Lib.hid (store5 hP.res (.string wh) (.int .i64 wd) (.int .i64 ky) (.slice u1 u2 u3) .nilIface)
      have HOWN := Lib.hid hP.own
      have HBL := Lib.hid hP.bel
      obtain ⟨⟨a0, a1, a2, a3, a4⟩, -⟩ := cells5 hP.blk
      obtain ⟨⟨b0, b1, b2, b3, b4⟩, ⟨d0, d1, d2, d3, d4⟩⟩ := cells5 hP.res
      have hsz := hP.siz
      clear hbad hP HF HCL
      go_wp2
      refine bodyPost_ret (results_cell_row rfl _ _ (w.heap.size + 1) 54 _ (0, 0) _ rfl HY5.out.1 Tryz.underlying54 rfl sizePart) rfl ?_
      refine ⟨_, _, rfl, ?_, HBL.out.trans (HY5.out.2 w.heap.size (by omega))⟩
      rw [HBAD.out]
      exact ⟨rfl, own_lowW (own_setsZ HOWN.out _ _ _ _ _) (Nat.zero_le _)⟩

set_option maxRecDepth 100000 in
set_option maxHeartbeats 8000000 in
theorem rows_lk (v : Value) (l : List Lk) (w : World) (wh : ByteArray) (wd ky : Int) (hv : RowC w v 6 (l.map lkC)) (hl : l.length ≤ 4000) (hs : ∀ x ∈ l, LkS x) :
    Calls Tryz.prog 40 #[.agg #[.string wh, .int .i64 wd, .int .i64 ky, .slice none 0 0, .nilIface], v, .func (.func 41) #[] #[]] w fun e w' => ∃ u er, e = .returned (.agg #[.string wh, .int .i64 wd, .int .i64 ky, u, er]) ∧ PartZ w' u er wh (l.map rowLk) (badL rightLk l) ∧ Below w.heap.size w w' := by
  obtain ⟨i0, hi, hz0, hz1, hz2⟩ := info_parts stringInfo
  have HS := PaI.start w wh wd ky
  obtain ⟨W1, hW1⟩ : ∃ W1, (w.alloc (.cells #[.string wh, .int .i64 wd, .int .i64 ky, .slice none 0 0, .nilIface] 54)).alloc (.cells #[.string ⟨#[]⟩, .int .i64 0, .int .i64 0, .slice none 0 0, .nilIface] 54) = W1 := ⟨_, rfl⟩
  rw [hW1] at HS
  have HW1 := Lib.hid hW1
  obtain ⟨ao, cap, rfl, hc⟩ := hv
  rw [List.length_map]
  have HCL := Lib.hid (fun k x (hx : l[k]? = some x) => hc k (lkC x) (by rw [List.getElem?_map, hx]; rfl))
  have HF := Lib.hid (fun x (hm : x ∈ l) w5 (hb : Below w.heap.size w w5) => show Calls Tryz.prog 41 #[.agg #[.string x.l, .string x.s, .string x.r, .string x.tl, .string x.ts, .string x.tr]] w5 fun e w6 => ∃ t, e = .returned (.tuple #[.string t, .bool (rightLk x)]) ∧ (rightLk x = true → t = rowLk x) ∧ Below w5.heap.size w5 w6 from by
    have hx := hs x hm
    exact (parts1_any x w5 hx).mono fun e w6 ⟨p, q⟩ => ⟨_, p, (fun _ => rfl), q⟩)
  clear hW1 hc hs
  go_enter Tryz.func40, Tryz.ntmps40
  go_upto_region 1 with fail
  rw [HW1.out]
  go_wp2_with fail
  go_loopw [7, 8, 9, 10, 13] (fun _ _ _ _ i wr => ∃ (k : Nat) (u : Value), k ≤ l.length ∧ i = .int .i64 (k : Int) ∧ badL rightLk (l.take k) = none ∧ PaI w wr wh wd ky u ((l.take k).map rowLk)) (fun _ _ _ _ i _ => l.length - (intOf i).toNat)
  case atStart => exact ⟨0, _, Nat.zero_le _, rfl, rfl, HS⟩
  case round =>
    obtain ⟨k, u, hk, rfl, hbad, hP⟩ := hrel
    clear HS HW1
    by_cases hlt : k < l.length
    · have hki : (k : Int) < (l.length : Int) := by omega
      have hk0 : (0 : Int) ≤ (k : Int) := by omega
      obtain ⟨x, hx⟩ : ∃ x, l[k]? = some x := ⟨_, List.getElem?_eq_getElem hlt⟩
      obtain ⟨g, o, rfl, hcc⟩ := HCL.out k x hx
      have c0 := (hP.bel.cell (p := ⟨g, o + k * 6, none⟩) (lt_cellZ (hcc 0 _ rfl))).trans (hcc 0 _ rfl)
      have c1 := (hP.bel.cell (p := ⟨g, o + k * 6 + 1, none⟩) (lt_cellZ (hcc 1 _ rfl))).trans (hcc 1 _ rfl)
      have c2 := (hP.bel.cell (p := ⟨g, o + k * 6 + 2, none⟩) (lt_cellZ (hcc 2 _ rfl))).trans (hcc 2 _ rfl)
      have c3 := (hP.bel.cell (p := ⟨g, o + k * 6 + 3, none⟩) (lt_cellZ (hcc 3 _ rfl))).trans (hcc 3 _ rfl)
      have c4 := (hP.bel.cell (p := ⟨g, o + k * 6 + 4, none⟩) (lt_cellZ (hcc 4 _ rfl))).trans (hcc 4 _ rfl)
      have c5 := (hP.bel.cell (p := ⟨g, o + k * 6 + 5, none⟩) (lt_cellZ (hcc 5 _ rfl))).trans (hcc 5 _ rfl)
      have HC := Lib.hid (HF.out x (List.mem_of_getElem? hx))
      have HBAD := Lib.hid (badL_at (p := rightLk) hbad hx)
      have HNXT := Lib.hid (badL_next (p := rightLk) hbad hx)
      have HLN := Lib.hid (show (l.take (k + 1)).map rowLk = (l.take k).map rowLk ++ [rowLk x] by rw [take_nextW hx, List.map_append]; rfl)
      have hlen : ((l.take k).map rowLk).length ≤ 4000 := by rw [List.length_map, List.length_take]; omega
      clear hcc hx hbad HF HCL
      generalize (l.take k).map rowLk = L at *
      generalize rowLk x = fx at *
      generalize rightLk x = r at *
      go_upto_region 4 with fail
      obtain ⟨we, hwe⟩ : ∃ we, wr.alloc (.cells #[.string x.l, .string x.s, .string x.r, .string x.tl, .string x.ts, .string x.tr] 75) = we := ⟨_, rfl⟩
      have hE : we.heap[wr.heap.size]? = some (.cells #[.string x.l, .string x.s, .string x.r, .string x.tl, .string x.ts, .string x.tr] 75 (0, 0)) := by rw [← hwe]; exact World.alloc_heap_new wr _
      have hPe : PaI w we wh wd ky u L := by rw [← hwe]; exact hP.below ((Below.refl _ wr).alloc (Nat.le_refl _) _)
      rw [hwe]
      clear c0 c1 c2 c3 c4 c5 hwe hP
      obtain ⟨e0, e1, e2, e3, e4, e5⟩ := cells6 hE
      obtain ⟨u1, u2, u3, rfl⟩ := own_sliceZ hPe.own
      cases r with
      | false =>
        have HB := Lib.hid (HBAD.out rfl)
        have HN := Lib.hid (fun w' => newZ_any 12 (k : Int) wh w' (by decide))
        clear HBAD HNXT HLN hE
        go_upto_region 7 with (first
          | (go_at_call 41; refine (HC.out _ hPe.bel).mono ?_; rintro e w5 ⟨t5, rfl, -, hb5⟩; have hP5 := hPe.below hb5; obtain ⟨⟨p0, p1, p2, p3, p4⟩, -⟩ := cells5 hP5.blk)
          | (go_at_call 26; (with_reducible refine (HN.out _).mono ?_); rintro e w6 ⟨er, rfl, hf6, hb6⟩; have hP6 := hP5.below hb6; obtain ⟨bf, rfl, hf7⟩ := hf6; obtain ⟨⟨q0, q1, q2, q3, q4⟩, ⟨f0, f1, f2, f3, f4⟩⟩ := cells5 hP6.blk))
        have hY : (w6.setCell ⟨w.heap.size, 4, none⟩ (.iface 126 (.pointer (some ⟨bf, 0, none⟩)))).heap[w.heap.size]? = some (.cells #[.string wh, .int .i64 wd, .int .i64 ky, .slice u1 u2 u3, .iface 126 (.pointer (some ⟨bf, 0, none⟩))] 54 (0, 0)) := setY hP6.blk _
        have hYr : (w6.setCell ⟨w.heap.size, 4, none⟩ (.iface 126 (.pointer (some ⟨bf, 0, none⟩)))).heap[w.heap.size + 1]? = _ := (heap_setCellZ (by omega)).trans hP6.res
        have hYb : Below w.heap.size w (w6.setCell ⟨w.heap.size, 4, none⟩ (.iface 126 (.pointer (some ⟨bf, 0, none⟩)))) := hP6.bel.setCell (p := ⟨w.heap.size, 4, none⟩) (Nat.le_refl _) _
        have hYf : FaultZ (w6.setCell ⟨w.heap.size, 4, none⟩ (.iface 126 (.pointer (some ⟨bf, 0, none⟩)))) (.iface 126 (.pointer (some ⟨bf, 0, none⟩))) 12 (k : Int) wh := ⟨bf, rfl, (heap_setCellZ (fun e => by subst e; have h := hP6.blk; rw [hf7] at h; simp [faultObj] at h)).trans hf7⟩
        generalize w6.setCell ⟨w.heap.size, 4, none⟩ (.iface 126 (.pointer (some ⟨bf, 0, none⟩))) = Y at *
        have HY5 := Lib.hid (store5 hYr (.string wh) (.int .i64 wd) (.int .i64 ky) (.slice u1 u2 u3) (.iface 126 (.pointer (some ⟨bf, 0, none⟩))))
        have HYB := Lib.hid hYb
        have HYF := Lib.hid hYf
        have HYR := Lib.hid hYr
        obtain ⟨⟨a0, a1, a2, a3, a4⟩, -⟩ := cells5 hY
        obtain ⟨⟨b0, b1, b2, b3, b4⟩, ⟨d0, d1, d2, d3, d4⟩⟩ := cells5 hYr
        clear hY hYr hYb hYf hf7 hP6 hP5 hPe p0 p1 p2 p3 p4 q0 q1 q2 q3 q4 f0 f1 f2 f3 f4 hb5 hb6 HC HN
        go_wp2
        refine bodyPost_ret (results_cell_row rfl _ _ (w.heap.size + 1) 54 _ (0, 0) _ rfl HY5.out.1 Tryz.underlying54 rfl sizePart) rfl ?_
        refine ⟨_, _, rfl, ?_, HYB.out.trans (HY5.out.2 w.heap.size (by omega))⟩
        rw [HB.out]
        obtain ⟨bf', he, hbf⟩ := HYF.out
        cases he
        refine ⟨⟨bf, rfl, ?_⟩, _, _, _, rfl⟩
        exact (heap_setsZ (fun e => by subst e; have h := HYR.out; rw [hbf] at h; simp [faultObj] at h) _ _ _ _ _).trans hbf
      | true =>
        clear HBAD hE
        go_wp2_with (first
          | (go_at_call 41; refine (HC.out _ hPe.bel).mono ?_; rintro e w5 ⟨t5, rfl, ht5, hb5⟩; obtain rfl := ht5 (by trivial); have hP5 := hPe.below hb5; have hs5 := hP5.siz; obtain ⟨⟨p0, p1, p2, p3, p4⟩, -⟩ := cells5 hP5.blk)
          | (at_builtin; refine wpList_append_own _ rfl _ _ 52 rfl (w.heap.size + 2) 9 i0 (.string ByteArray.empty) 1 16 Tryz.underlying52 hi hz0 hz1 hz2 rfl (by decide) _ _ _ rfl (hP5.own.alloc _) ⟨_, 0, none⟩ 1 1 [.string t5] rfl rfl (cell_oneW _ _ _) (by intro u hu; simp at hu; subst hu; rfl) (by unfold maxLen; omega) (by omega) (by simp; omega) ?_; intro v' w7 hown7 hgrow7 _; have HP7 := Lib.hid (hP5.push hgrow7 hown7); obtain ⟨h70, -, -⟩ := hP5.grown hgrow7; obtain ⟨⟨q0, q1, q2, q3, q4⟩, ⟨f0, f1, f2, f3, f4⟩⟩ := cells5 h70; obtain ⟨va, vn, vc, rfl⟩ := own_sliceZ hown7))
        go_roundw
        case rel => exact ⟨k + 1, _, by omega, by go_num, HNXT.out (by trivial), by rw [HLN.out]; exact HP7.out⟩
        case measure => simp [intOf]; omega
    · obtain rfl : k = l.length := by omega
      have hki : ¬ (l.length : Int) < (l.length : Int) := by omega
      rw [List.take_length] at hbad hP
      have HBAD := Lib.hid hbad
      obtain ⟨u1, u2, u3, rfl⟩ := own_sliceZ hP.own
      have HY5 := Lib.hid (store5 hP.res (.string wh) (.int .i64 wd) (.int .i64 ky) (.slice u1 u2 u3) .nilIface)
      have HOWN := Lib.hid hP.own
      have HBL := Lib.hid hP.bel
      obtain ⟨⟨a0, a1, a2, a3, a4⟩, -⟩ := cells5 hP.blk
      obtain ⟨⟨b0, b1, b2, b3, b4⟩, ⟨d0, d1, d2, d3, d4⟩⟩ := cells5 hP.res
      have hsz := hP.siz
      clear hbad hP HF HCL
      go_wp2
      refine bodyPost_ret (results_cell_row rfl _ _ (w.heap.size + 1) 54 _ (0, 0) _ rfl HY5.out.1 Tryz.underlying54 rfl sizePart) rfl ?_
      refine ⟨_, _, rfl, ?_, HBL.out.trans (HY5.out.2 w.heap.size (by omega))⟩
      rw [HBAD.out]
      exact ⟨rfl, own_lowW (own_setsZ HOWN.out _ _ _ _ _) (Nat.zero_le _)⟩

set_option maxRecDepth 100000 in
set_option maxHeartbeats 8000000 in
theorem rows_rl (v : Value) (l : List Rl) (w : World) (wh : ByteArray) (wd ky : Int) (hv : RowC w v 9 (l.map rlC)) (hl : l.length ≤ 4000) (hs : ∀ x ∈ l, RlS x) :
    Calls Tryz.prog 45 #[.agg #[.string wh, .int .i64 wd, .int .i64 ky, .slice none 0 0, .nilIface], v, .func (.func 46) #[] #[]] w fun e w' => ∃ u er, e = .returned (.agg #[.string wh, .int .i64 wd, .int .i64 ky, u, er]) ∧ PartZ w' u er wh (l.map rowRl) (badL rightRl l) ∧ Below w.heap.size w w' := by
  obtain ⟨i0, hi, hz0, hz1, hz2⟩ := info_parts stringInfo
  have HS := PaI.start w wh wd ky
  obtain ⟨W1, hW1⟩ : ∃ W1, (w.alloc (.cells #[.string wh, .int .i64 wd, .int .i64 ky, .slice none 0 0, .nilIface] 54)).alloc (.cells #[.string ⟨#[]⟩, .int .i64 0, .int .i64 0, .slice none 0 0, .nilIface] 54) = W1 := ⟨_, rfl⟩
  rw [hW1] at HS
  have HW1 := Lib.hid hW1
  obtain ⟨ao, cap, rfl, hc⟩ := hv
  rw [List.length_map]
  have HCL := Lib.hid (fun k x (hx : l[k]? = some x) => hc k (rlC x) (by rw [List.getElem?_map, hx]; rfl))
  have HF := Lib.hid (fun x (hm : x ∈ l) w5 (hb : Below w.heap.size w w5) => show Calls Tryz.prog 46 #[.agg #[.int .i64 x.lv, .int .i64 x.co, .bool x.ow, .string x.d0, .string x.d1, .string x.d2, .string x.s0, .string x.s1, .string x.s2]] w5 fun e w6 => ∃ t, e = .returned (.tuple #[.string t, .bool (rightRl x)]) ∧ (rightRl x = true → t = rowRl x) ∧ Below w5.heap.size w5 w6 from by
    have hx := hs x hm
    exact (parts2_any x w5 hx).mono fun e w6 ⟨p, q⟩ => ⟨_, p, (fun _ => rfl), q⟩)
  clear hW1 hc hs
  go_enter Tryz.func45, Tryz.ntmps45
  go_upto_region 1 with fail
  rw [HW1.out]
  go_wp2_with fail
  go_loopw [7, 8, 9, 10, 13] (fun _ _ _ _ i wr => ∃ (k : Nat) (u : Value), k ≤ l.length ∧ i = .int .i64 (k : Int) ∧ badL rightRl (l.take k) = none ∧ PaI w wr wh wd ky u ((l.take k).map rowRl)) (fun _ _ _ _ i _ => l.length - (intOf i).toNat)
  case atStart => exact ⟨0, _, Nat.zero_le _, rfl, rfl, HS⟩
  case round =>
    obtain ⟨k, u, hk, rfl, hbad, hP⟩ := hrel
    clear HS HW1
    by_cases hlt : k < l.length
    · have hki : (k : Int) < (l.length : Int) := by omega
      have hk0 : (0 : Int) ≤ (k : Int) := by omega
      obtain ⟨x, hx⟩ : ∃ x, l[k]? = some x := ⟨_, List.getElem?_eq_getElem hlt⟩
      obtain ⟨g, o, rfl, hcc⟩ := HCL.out k x hx
      have c0 := (hP.bel.cell (p := ⟨g, o + k * 9, none⟩) (lt_cellZ (hcc 0 _ rfl))).trans (hcc 0 _ rfl)
      have c1 := (hP.bel.cell (p := ⟨g, o + k * 9 + 1, none⟩) (lt_cellZ (hcc 1 _ rfl))).trans (hcc 1 _ rfl)
      have c2 := (hP.bel.cell (p := ⟨g, o + k * 9 + 2, none⟩) (lt_cellZ (hcc 2 _ rfl))).trans (hcc 2 _ rfl)
      have c3 := (hP.bel.cell (p := ⟨g, o + k * 9 + 3, none⟩) (lt_cellZ (hcc 3 _ rfl))).trans (hcc 3 _ rfl)
      have c4 := (hP.bel.cell (p := ⟨g, o + k * 9 + 4, none⟩) (lt_cellZ (hcc 4 _ rfl))).trans (hcc 4 _ rfl)
      have c5 := (hP.bel.cell (p := ⟨g, o + k * 9 + 5, none⟩) (lt_cellZ (hcc 5 _ rfl))).trans (hcc 5 _ rfl)
      have c6 := (hP.bel.cell (p := ⟨g, o + k * 9 + 6, none⟩) (lt_cellZ (hcc 6 _ rfl))).trans (hcc 6 _ rfl)
      have c7 := (hP.bel.cell (p := ⟨g, o + k * 9 + 7, none⟩) (lt_cellZ (hcc 7 _ rfl))).trans (hcc 7 _ rfl)
      have c8 := (hP.bel.cell (p := ⟨g, o + k * 9 + 8, none⟩) (lt_cellZ (hcc 8 _ rfl))).trans (hcc 8 _ rfl)
      have HC := Lib.hid (HF.out x (List.mem_of_getElem? hx))
      have HBAD := Lib.hid (badL_at (p := rightRl) hbad hx)
      have HNXT := Lib.hid (badL_next (p := rightRl) hbad hx)
      have HLN := Lib.hid (show (l.take (k + 1)).map rowRl = (l.take k).map rowRl ++ [rowRl x] by rw [take_nextW hx, List.map_append]; rfl)
      have hlen : ((l.take k).map rowRl).length ≤ 4000 := by rw [List.length_map, List.length_take]; omega
      clear hcc hx hbad HF HCL
      generalize (l.take k).map rowRl = L at *
      generalize rowRl x = fx at *
      generalize rightRl x = r at *
      go_upto_region 4 with fail
      obtain ⟨we, hwe⟩ : ∃ we, wr.alloc (.cells #[.int .i64 x.lv, .int .i64 x.co, .bool x.ow, .string x.d0, .string x.d1, .string x.d2, .string x.s0, .string x.s1, .string x.s2] 79) = we := ⟨_, rfl⟩
      have hE : we.heap[wr.heap.size]? = some (.cells #[.int .i64 x.lv, .int .i64 x.co, .bool x.ow, .string x.d0, .string x.d1, .string x.d2, .string x.s0, .string x.s1, .string x.s2] 79 (0, 0)) := by rw [← hwe]; exact World.alloc_heap_new wr _
      have hPe : PaI w we wh wd ky u L := by rw [← hwe]; exact hP.below ((Below.refl _ wr).alloc (Nat.le_refl _) _)
      rw [hwe]
      clear c0 c1 c2 c3 c4 c5 c6 c7 c8 hwe hP
      obtain ⟨e0, e1, e2, e3, e4, e5, e6, e7, e8⟩ := cells9Z hE
      obtain ⟨u1, u2, u3, rfl⟩ := own_sliceZ hPe.own
      cases r with
      | false =>
        have HB := Lib.hid (HBAD.out rfl)
        have HN := Lib.hid (fun w' => newZ_any 12 (k : Int) wh w' (by decide))
        clear HBAD HNXT HLN hE
        go_upto_region 7 with (first
          | (go_at_call 46; refine (HC.out _ hPe.bel).mono ?_; rintro e w5 ⟨t5, rfl, -, hb5⟩; have hP5 := hPe.below hb5; obtain ⟨⟨p0, p1, p2, p3, p4⟩, -⟩ := cells5 hP5.blk)
          | (go_at_call 26; (with_reducible refine (HN.out _).mono ?_); rintro e w6 ⟨er, rfl, hf6, hb6⟩; have hP6 := hP5.below hb6; obtain ⟨bf, rfl, hf7⟩ := hf6; obtain ⟨⟨q0, q1, q2, q3, q4⟩, ⟨f0, f1, f2, f3, f4⟩⟩ := cells5 hP6.blk))
        have hY : (w6.setCell ⟨w.heap.size, 4, none⟩ (.iface 126 (.pointer (some ⟨bf, 0, none⟩)))).heap[w.heap.size]? = some (.cells #[.string wh, .int .i64 wd, .int .i64 ky, .slice u1 u2 u3, .iface 126 (.pointer (some ⟨bf, 0, none⟩))] 54 (0, 0)) := setY hP6.blk _
        have hYr : (w6.setCell ⟨w.heap.size, 4, none⟩ (.iface 126 (.pointer (some ⟨bf, 0, none⟩)))).heap[w.heap.size + 1]? = _ := (heap_setCellZ (by omega)).trans hP6.res
        have hYb : Below w.heap.size w (w6.setCell ⟨w.heap.size, 4, none⟩ (.iface 126 (.pointer (some ⟨bf, 0, none⟩)))) := hP6.bel.setCell (p := ⟨w.heap.size, 4, none⟩) (Nat.le_refl _) _
        have hYf : FaultZ (w6.setCell ⟨w.heap.size, 4, none⟩ (.iface 126 (.pointer (some ⟨bf, 0, none⟩)))) (.iface 126 (.pointer (some ⟨bf, 0, none⟩))) 12 (k : Int) wh := ⟨bf, rfl, (heap_setCellZ (fun e => by subst e; have h := hP6.blk; rw [hf7] at h; simp [faultObj] at h)).trans hf7⟩
        generalize w6.setCell ⟨w.heap.size, 4, none⟩ (.iface 126 (.pointer (some ⟨bf, 0, none⟩))) = Y at *
        have HY5 := Lib.hid (store5 hYr (.string wh) (.int .i64 wd) (.int .i64 ky) (.slice u1 u2 u3) (.iface 126 (.pointer (some ⟨bf, 0, none⟩))))
        have HYB := Lib.hid hYb
        have HYF := Lib.hid hYf
        have HYR := Lib.hid hYr
        obtain ⟨⟨a0, a1, a2, a3, a4⟩, -⟩ := cells5 hY
        obtain ⟨⟨b0, b1, b2, b3, b4⟩, ⟨d0, d1, d2, d3, d4⟩⟩ := cells5 hYr
        clear hY hYr hYb hYf hf7 hP6 hP5 hPe p0 p1 p2 p3 p4 q0 q1 q2 q3 q4 f0 f1 f2 f3 f4 hb5 hb6 HC HN
        go_wp2
        refine bodyPost_ret (results_cell_row rfl _ _ (w.heap.size + 1) 54 _ (0, 0) _ rfl HY5.out.1 Tryz.underlying54 rfl sizePart) rfl ?_
        refine ⟨_, _, rfl, ?_, HYB.out.trans (HY5.out.2 w.heap.size (by omega))⟩
        rw [HB.out]
        obtain ⟨bf', he, hbf⟩ := HYF.out
        cases he
        refine ⟨⟨bf, rfl, ?_⟩, _, _, _, rfl⟩
        exact (heap_setsZ (fun e => by subst e; have h := HYR.out; rw [hbf] at h; simp [faultObj] at h) _ _ _ _ _).trans hbf
      | true =>
        clear HBAD hE
        go_wp2_with (first
          | (go_at_call 46; refine (HC.out _ hPe.bel).mono ?_; rintro e w5 ⟨t5, rfl, ht5, hb5⟩; obtain rfl := ht5 (by trivial); have hP5 := hPe.below hb5; have hs5 := hP5.siz; obtain ⟨⟨p0, p1, p2, p3, p4⟩, -⟩ := cells5 hP5.blk)
          | (at_builtin; refine wpList_append_own _ rfl _ _ 52 rfl (w.heap.size + 2) 9 i0 (.string ByteArray.empty) 1 16 Tryz.underlying52 hi hz0 hz1 hz2 rfl (by decide) _ _ _ rfl (hP5.own.alloc _) ⟨_, 0, none⟩ 1 1 [.string t5] rfl rfl (cell_oneW _ _ _) (by intro u hu; simp at hu; subst hu; rfl) (by unfold maxLen; omega) (by omega) (by simp; omega) ?_; intro v' w7 hown7 hgrow7 _; have HP7 := Lib.hid (hP5.push hgrow7 hown7); obtain ⟨h70, -, -⟩ := hP5.grown hgrow7; obtain ⟨⟨q0, q1, q2, q3, q4⟩, ⟨f0, f1, f2, f3, f4⟩⟩ := cells5 h70; obtain ⟨va, vn, vc, rfl⟩ := own_sliceZ hown7))
        go_roundw
        case rel => exact ⟨k + 1, _, by omega, by go_num, HNXT.out (by trivial), by rw [HLN.out]; exact HP7.out⟩
        case measure => simp [intOf]; omega
    · obtain rfl : k = l.length := by omega
      have hki : ¬ (l.length : Int) < (l.length : Int) := by omega
      rw [List.take_length] at hbad hP
      have HBAD := Lib.hid hbad
      obtain ⟨u1, u2, u3, rfl⟩ := own_sliceZ hP.own
      have HY5 := Lib.hid (store5 hP.res (.string wh) (.int .i64 wd) (.int .i64 ky) (.slice u1 u2 u3) .nilIface)
      have HOWN := Lib.hid hP.own
      have HBL := Lib.hid hP.bel
      obtain ⟨⟨a0, a1, a2, a3, a4⟩, -⟩ := cells5 hP.blk
      obtain ⟨⟨b0, b1, b2, b3, b4⟩, ⟨d0, d1, d2, d3, d4⟩⟩ := cells5 hP.res
      have hsz := hP.siz
      clear hbad hP HF HCL
      go_wp2
      refine bodyPost_ret (results_cell_row rfl _ _ (w.heap.size + 1) 54 _ (0, 0) _ rfl HY5.out.1 Tryz.underlying54 rfl sizePart) rfl ?_
      refine ⟨_, _, rfl, ?_, HBL.out.trans (HY5.out.2 w.heap.size (by omega))⟩
      rw [HBAD.out]
      exact ⟨rfl, own_lowW (own_setsZ HOWN.out _ _ _ _ _) (Nat.zero_le _)⟩

set_option maxRecDepth 100000 in
set_option maxHeartbeats 8000000 in
theorem rows_mb (v : Value) (l : List Mb) (w : World) (wh : ByteArray) (wd ky : Int) (hv : RowC w v 2 (l.map mbC)) (hl : l.length ≤ 4000) (hs : ∀ x ∈ l, MbS x) :
    Calls Tryz.prog 51 #[.agg #[.string wh, .int .i64 wd, .int .i64 ky, .slice none 0 0, .nilIface], v, .func (.func 52) #[] #[]] w fun e w' => ∃ u er, e = .returned (.agg #[.string wh, .int .i64 wd, .int .i64 ky, u, er]) ∧ PartZ w' u er wh (l.map rowMb) (badL rightMb l) ∧ Below w.heap.size w w' := by
  obtain ⟨i0, hi, hz0, hz1, hz2⟩ := info_parts stringInfo
  have HS := PaI.start w wh wd ky
  obtain ⟨W1, hW1⟩ : ∃ W1, (w.alloc (.cells #[.string wh, .int .i64 wd, .int .i64 ky, .slice none 0 0, .nilIface] 54)).alloc (.cells #[.string ⟨#[]⟩, .int .i64 0, .int .i64 0, .slice none 0 0, .nilIface] 54) = W1 := ⟨_, rfl⟩
  rw [hW1] at HS
  have HW1 := Lib.hid hW1
  obtain ⟨ao, cap, rfl, hc⟩ := hv
  rw [List.length_map]
  have HCL := Lib.hid (fun k x (hx : l[k]? = some x) => hc k (mbC x) (by rw [List.getElem?_map, hx]; rfl))
  have HF := Lib.hid (fun x (hm : x ∈ l) w5 (hb : Below w.heap.size w w5) => show Calls Tryz.prog 52 #[.agg #[.string x.st, .string x.rg]] w5 fun e w6 => ∃ t, e = .returned (.tuple #[.string t, .bool (rightMb x)]) ∧ (rightMb x = true → t = rowMb x) ∧ Below w5.heap.size w5 w6 from by
    have hx := hs x hm
    exact (parts3_any x w5 hx).mono fun e w6 ⟨p, q⟩ => ⟨_, p, (fun _ => rfl), q⟩)
  clear hW1 hc hs
  go_enter Tryz.func51, Tryz.ntmps51
  go_upto_region 1 with fail
  rw [HW1.out]
  go_wp2_with fail
  go_loopw [7, 8, 9, 10, 13] (fun _ _ _ _ i wr => ∃ (k : Nat) (u : Value), k ≤ l.length ∧ i = .int .i64 (k : Int) ∧ badL rightMb (l.take k) = none ∧ PaI w wr wh wd ky u ((l.take k).map rowMb)) (fun _ _ _ _ i _ => l.length - (intOf i).toNat)
  case atStart => exact ⟨0, _, Nat.zero_le _, rfl, rfl, HS⟩
  case round =>
    obtain ⟨k, u, hk, rfl, hbad, hP⟩ := hrel
    clear HS HW1
    by_cases hlt : k < l.length
    · have hki : (k : Int) < (l.length : Int) := by omega
      have hk0 : (0 : Int) ≤ (k : Int) := by omega
      obtain ⟨x, hx⟩ : ∃ x, l[k]? = some x := ⟨_, List.getElem?_eq_getElem hlt⟩
      obtain ⟨g, o, rfl, hcc⟩ := HCL.out k x hx
      have c0 := (hP.bel.cell (p := ⟨g, o + k * 2, none⟩) (lt_cellZ (hcc 0 _ rfl))).trans (hcc 0 _ rfl)
      have c1 := (hP.bel.cell (p := ⟨g, o + k * 2 + 1, none⟩) (lt_cellZ (hcc 1 _ rfl))).trans (hcc 1 _ rfl)
      have HC := Lib.hid (HF.out x (List.mem_of_getElem? hx))
      have HBAD := Lib.hid (badL_at (p := rightMb) hbad hx)
      have HNXT := Lib.hid (badL_next (p := rightMb) hbad hx)
      have HLN := Lib.hid (show (l.take (k + 1)).map rowMb = (l.take k).map rowMb ++ [rowMb x] by rw [take_nextW hx, List.map_append]; rfl)
      have hlen : ((l.take k).map rowMb).length ≤ 4000 := by rw [List.length_map, List.length_take]; omega
      clear hcc hx hbad HF HCL
      generalize (l.take k).map rowMb = L at *
      generalize rowMb x = fx at *
      generalize rightMb x = r at *
      go_upto_region 4 with fail
      obtain ⟨we, hwe⟩ : ∃ we, wr.alloc (.cells #[.string x.st, .string x.rg] 82) = we := ⟨_, rfl⟩
      have hE : we.heap[wr.heap.size]? = some (.cells #[.string x.st, .string x.rg] 82 (0, 0)) := by rw [← hwe]; exact World.alloc_heap_new wr _
      have hPe : PaI w we wh wd ky u L := by rw [← hwe]; exact hP.below ((Below.refl _ wr).alloc (Nat.le_refl _) _)
      rw [hwe]
      clear c0 c1 hwe hP
      obtain ⟨e0, e1⟩ := cells2Z hE
      obtain ⟨u1, u2, u3, rfl⟩ := own_sliceZ hPe.own
      cases r with
      | false =>
        have HB := Lib.hid (HBAD.out rfl)
        have HN := Lib.hid (fun w' => newZ_any 12 (k : Int) wh w' (by decide))
        clear HBAD HNXT HLN hE
        go_upto_region 7 with (first
          | (go_at_call 52; refine (HC.out _ hPe.bel).mono ?_; rintro e w5 ⟨t5, rfl, -, hb5⟩; have hP5 := hPe.below hb5; obtain ⟨⟨p0, p1, p2, p3, p4⟩, -⟩ := cells5 hP5.blk)
          | (go_at_call 26; (with_reducible refine (HN.out _).mono ?_); rintro e w6 ⟨er, rfl, hf6, hb6⟩; have hP6 := hP5.below hb6; obtain ⟨bf, rfl, hf7⟩ := hf6; obtain ⟨⟨q0, q1, q2, q3, q4⟩, ⟨f0, f1, f2, f3, f4⟩⟩ := cells5 hP6.blk))
        have hY : (w6.setCell ⟨w.heap.size, 4, none⟩ (.iface 126 (.pointer (some ⟨bf, 0, none⟩)))).heap[w.heap.size]? = some (.cells #[.string wh, .int .i64 wd, .int .i64 ky, .slice u1 u2 u3, .iface 126 (.pointer (some ⟨bf, 0, none⟩))] 54 (0, 0)) := setY hP6.blk _
        have hYr : (w6.setCell ⟨w.heap.size, 4, none⟩ (.iface 126 (.pointer (some ⟨bf, 0, none⟩)))).heap[w.heap.size + 1]? = _ := (heap_setCellZ (by omega)).trans hP6.res
        have hYb : Below w.heap.size w (w6.setCell ⟨w.heap.size, 4, none⟩ (.iface 126 (.pointer (some ⟨bf, 0, none⟩)))) := hP6.bel.setCell (p := ⟨w.heap.size, 4, none⟩) (Nat.le_refl _) _
        have hYf : FaultZ (w6.setCell ⟨w.heap.size, 4, none⟩ (.iface 126 (.pointer (some ⟨bf, 0, none⟩)))) (.iface 126 (.pointer (some ⟨bf, 0, none⟩))) 12 (k : Int) wh := ⟨bf, rfl, (heap_setCellZ (fun e => by subst e; have h := hP6.blk; rw [hf7] at h; simp [faultObj] at h)).trans hf7⟩
        generalize w6.setCell ⟨w.heap.size, 4, none⟩ (.iface 126 (.pointer (some ⟨bf, 0, none⟩))) = Y at *
        have HY5 := Lib.hid (store5 hYr (.string wh) (.int .i64 wd) (.int .i64 ky) (.slice u1 u2 u3) (.iface 126 (.pointer (some ⟨bf, 0, none⟩))))
        have HYB := Lib.hid hYb
        have HYF := Lib.hid hYf
        have HYR := Lib.hid hYr
        obtain ⟨⟨a0, a1, a2, a3, a4⟩, -⟩ := cells5 hY
        obtain ⟨⟨b0, b1, b2, b3, b4⟩, ⟨d0, d1, d2, d3, d4⟩⟩ := cells5 hYr
        clear hY hYr hYb hYf hf7 hP6 hP5 hPe p0 p1 p2 p3 p4 q0 q1 q2 q3 q4 f0 f1 f2 f3 f4 hb5 hb6 HC HN
        go_wp2
        refine bodyPost_ret (results_cell_row rfl _ _ (w.heap.size + 1) 54 _ (0, 0) _ rfl HY5.out.1 Tryz.underlying54 rfl sizePart) rfl ?_
        refine ⟨_, _, rfl, ?_, HYB.out.trans (HY5.out.2 w.heap.size (by omega))⟩
        rw [HB.out]
        obtain ⟨bf', he, hbf⟩ := HYF.out
        cases he
        refine ⟨⟨bf, rfl, ?_⟩, _, _, _, rfl⟩
        exact (heap_setsZ (fun e => by subst e; have h := HYR.out; rw [hbf] at h; simp [faultObj] at h) _ _ _ _ _).trans hbf
      | true =>
        clear HBAD hE
        go_wp2_with (first
          | (go_at_call 52; refine (HC.out _ hPe.bel).mono ?_; rintro e w5 ⟨t5, rfl, ht5, hb5⟩; obtain rfl := ht5 (by trivial); have hP5 := hPe.below hb5; have hs5 := hP5.siz; obtain ⟨⟨p0, p1, p2, p3, p4⟩, -⟩ := cells5 hP5.blk)
          | (at_builtin; refine wpList_append_own _ rfl _ _ 52 rfl (w.heap.size + 2) 9 i0 (.string ByteArray.empty) 1 16 Tryz.underlying52 hi hz0 hz1 hz2 rfl (by decide) _ _ _ rfl (hP5.own.alloc _) ⟨_, 0, none⟩ 1 1 [.string t5] rfl rfl (cell_oneW _ _ _) (by intro u hu; simp at hu; subst hu; rfl) (by unfold maxLen; omega) (by omega) (by simp; omega) ?_; intro v' w7 hown7 hgrow7 _; have HP7 := Lib.hid (hP5.push hgrow7 hown7); obtain ⟨h70, -, -⟩ := hP5.grown hgrow7; obtain ⟨⟨q0, q1, q2, q3, q4⟩, ⟨f0, f1, f2, f3, f4⟩⟩ := cells5 h70; obtain ⟨va, vn, vc, rfl⟩ := own_sliceZ hown7))
        go_roundw
        case rel => exact ⟨k + 1, _, by omega, by go_num, HNXT.out (by trivial), by rw [HLN.out]; exact HP7.out⟩
        case measure => simp [intOf]; omega
    · obtain rfl : k = l.length := by omega
      have hki : ¬ (l.length : Int) < (l.length : Int) := by omega
      rw [List.take_length] at hbad hP
      have HBAD := Lib.hid hbad
      obtain ⟨u1, u2, u3, rfl⟩ := own_sliceZ hP.own
      have HY5 := Lib.hid (store5 hP.res (.string wh) (.int .i64 wd) (.int .i64 ky) (.slice u1 u2 u3) .nilIface)
      have HOWN := Lib.hid hP.own
      have HBL := Lib.hid hP.bel
      obtain ⟨⟨a0, a1, a2, a3, a4⟩, -⟩ := cells5 hP.blk
      obtain ⟨⟨b0, b1, b2, b3, b4⟩, ⟨d0, d1, d2, d3, d4⟩⟩ := cells5 hP.res
      have hsz := hP.siz
      clear hbad hP HF HCL
      go_wp2
      refine bodyPost_ret (results_cell_row rfl _ _ (w.heap.size + 1) 54 _ (0, 0) _ rfl HY5.out.1 Tryz.underlying54 rfl sizePart) rfl ?_
      refine ⟨_, _, rfl, ?_, HBL.out.trans (HY5.out.2 w.heap.size (by omega))⟩
      rw [HBAD.out]
      exact ⟨rfl, own_lowW (own_setsZ HOWN.out _ _ _ _ _) (Nat.zero_le _)⟩
end Go.Proofs.YtbafmnafhaoggaaGreatDoor
