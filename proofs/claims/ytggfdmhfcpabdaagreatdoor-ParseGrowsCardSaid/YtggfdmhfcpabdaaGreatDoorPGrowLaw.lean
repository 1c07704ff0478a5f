/-
  ParseGrows: the walk of the law.
-/
import Derived.Test.YtggfdmhfcpabdaaGreatDoorPGrowB
import Derived.Test.YtggfdmhfcpabdaaGreatDoorPBackLaw
namespace Go.Proofs.YtggfdmhfcpabdaaGreatDoor
open Go Go.RowKit

theorem cell_pair8 (w : World) (o : Obj) (x y : Value) (t : TypeId) : ∀ j u, [x, y][j]? = some u → ((w.alloc o).alloc (.cells #[x, y] t)).cell? ((⟨w.heap.size + 1, 0, none⟩ : Addr).add j) = some u := by
  have := cell_pair (w.alloc o) x y t
  rwa [World.size_alloc] at this
/-- A tag's rows, each by its value. -/
theorem tag_rows {W : World} {T : TagM} {a b c d : Value} (h : TagIs W (.agg #[.string T.lang, a, .string T.script, .string T.region, b, c, d, .string T.grand]) T) : Row W a T.extl ∧ Row W b T.vars ∧ ExtRow W c T.exts ∧ Row W d T.priv := by
  obtain ⟨x1, x2, x3, x4, e, h1, h2, h3, h4⟩ := h
  obtain ⟨rfl, rfl, rfl, rfl⟩ := few_inj e
  exact ⟨h1, h2, h3, h4⟩
set_option maxRecDepth 100000 in
set_option maxHeartbeats 8000000 in
theorem parseGrows_law (SA : SeedM) (va ka pa : Value) (how : Int) (w : World)
    (a1 : IntsA w va SA.vars) (a2 : IntsA w ka SA.keys) (a3 : IntsA w pa SA.priv) (a4 : -9223372036854775808 ≤ SA.extl) (a5 : SA.extl ≤ 9223372036854775807) (_hn : (Lit.int .i64 how).wf = true) (hl : ParseLaid w) :
    Calls Tryz.prog 7 #[.agg #[.int .i64 SA.lang, .int .i64 SA.extl, .int .i64 SA.script, .int .i64 SA.region, va, ka, pa, .int .i64 SA.odd], .int .i64 how] w fun e w' => e = .returned (.bool true) ∧ Below w.heap.size w w' := by
  obtain ⟨i0, hii, iz0, iz1, iz2⟩ := info_parts stringInfo
  obtain ⟨W2, hW2⟩ : ∃ W2, w.alloc (.cells #[.int .i64 SA.lang, .int .i64 SA.extl, .int .i64 SA.script, .int .i64 SA.region, va, ka, pa, .int .i64 SA.odd] 24) = W2 := ⟨_, rfl⟩
  have hb2 : Below w.heap.size w W2 := by rw [← hW2]; exact (Below.refl _ w).alloc (Nat.le_refl _) _
  have hA : W2.heap[w.heap.size]? = some (.cells #[.int .i64 SA.lang, .int .i64 SA.extl, .int .i64 SA.script, .int .i64 SA.region, va, ka, pa, .int .i64 SA.odd] 24 (0, 0)) := by rw [← hW2]; exact World.alloc_heap_new w _
  have hlA := lt_of_heap hA
  have AW := Lib.hid ((awakeP_law W2 (hl.below hb2)).mono (R' := fun e w6 => e = .returned (.bool true) ∧ Below w.heap.size w w6 ∧ w6.heap[w.heap.size]? = some (.cells #[.int .i64 SA.lang, .int .i64 SA.extl, .int .i64 SA.script, .int .i64 SA.region, va, ka, pa, .int .i64 SA.odd] 24 (0, 0))) fun e w6 ⟨p, q⟩ => ⟨p, hb2.trans (q.mono hb2.size), (q.block _ hlA).trans hA⟩)
  have MZ := Lib.hid (fun w5 (hb : Below w.heap.size w w5) => (show Calls Tryz.prog 11 #[.agg #[.int .i64 SA.lang, .int .i64 SA.extl, .int .i64 SA.script, .int .i64 SA.region, va, ka, pa, .int .i64 0]] w5 _ from made_any { SA with odd := 0 } va ka pa w5 (a1.below hb) (a2.below hb) (a3.below hb) a4 a5).mono (R' := fun e w7 => ∃ f1 f2 f3 f4 f5 f6 f7 f8, e = .returned (.agg #[.string (madeT { SA with odd := 0 }).lang, .slice f1 (madeT { SA with odd := 0 }).extl.length f2, .string (madeT { SA with odd := 0 }).script, .string (madeT { SA with odd := 0 }).region, .slice f3 (madeT { SA with odd := 0 }).vars.length f4, .slice f5 (madeT { SA with odd := 0 }).exts.length f6, .slice f7 (madeT { SA with odd := 0 }).priv.length f8, .string (madeT { SA with odd := 0 }).grand]) ∧ TagIs w7 (.agg #[.string (madeT { SA with odd := 0 }).lang, .slice f1 (madeT { SA with odd := 0 }).extl.length f2, .string (madeT { SA with odd := 0 }).script, .string (madeT { SA with odd := 0 }).region, .slice f3 (madeT { SA with odd := 0 }).vars.length f4, .slice f5 (madeT { SA with odd := 0 }).exts.length f6, .slice f7 (madeT { SA with odd := 0 }).priv.length f8, .string (madeT { SA with odd := 0 }).grand]) (madeT { SA with odd := 0 }) ∧ Below w.heap.size w w7) fun e w7 ⟨u, p, q, r⟩ => by
    obtain ⟨ae, ac, av, vc, ax, xc, ap, pc, rfl⟩ := tag_shape q
    exact ⟨ae, ac, av, vc, ax, xc, ap, pc, p, q, hb.trans (r.mono hb.size)⟩)
  have MO := made_ok { SA with odd := 0 } rfl
  have HL := Lib.hid hl
  have RS := Lib.hid (fun w5 => show Calls Tryz.prog 14 #[.int .i64 how, .int .i64 3] w5 _ from rest7_any how 3 w5 (by decide) (by decide))
  have hr := (pick_facts 3 how (by decide)).2.2.2
  generalize pickI 3 how = pk at *
  clear a1 a2 a3 a4 a5 hA hlA hb2 hl
  generalize (madeT { SA with odd := 0 }) = TA at *
  go_enter Tryz.func7, Tryz.ntmps7
  go_upto_region 2 with (go_at_call 9; (with_reducible refine AW.out.mono ?_); rintro e w5 ⟨rfl, hb5, hA5⟩)
  clear hW2
  have c7 := rd_cell 7 hA5 (v := .int .i64 SA.odd) rfl
  have z7 := cells_frozen 7 hA5
  have hA6 := cells_set hA5 (k := 7) (.int .i64 0)
  have hb6 := hb5.setCell (p := ⟨w.heap.size, 7, none⟩) (Nat.le_refl _) (.int .i64 0)
  obtain ⟨q0, q1, q2, q3, q4, q5, q6, q7⟩ := tag_cells hA6
  go_upto_region 5 with (go_at_call 11; (with_reducible refine (MZ.out _ hb6).mono ?_); rintro e w8 ⟨f1, f2, f3, f4, f5, f6, f7, f8, rfl, hI8, hb8⟩)
  obtain ⟨WU, hWU⟩ : ∃ W, (w8.alloc (.cells #[.string TA.lang, .slice f1 TA.extl.length f2, .string TA.script, .string TA.region, .slice f3 TA.vars.length f4, .slice f5 TA.exts.length f6, .slice f7 TA.priv.length f8, .string TA.grand] 31)).alloc (.cells #[.string TA.lang, .slice f1 TA.extl.length f2, .string TA.script, .string TA.region, .slice f3 TA.vars.length f4, .slice f5 TA.exts.length f6, .slice f7 TA.priv.length f8, .string TA.grand] 31) = W := ⟨_, rfl⟩
  have hbT : Below w8.heap.size w8 WU := by rw [← hWU]; exact ((Below.refl _ _).alloc (Nat.le_refl _) _).alloc (by simp) _
  have hT : WU.heap[w8.heap.size]? = some (.cells #[.string TA.lang, .slice f1 TA.extl.length f2, .string TA.script, .string TA.region, .slice f3 TA.vars.length f4, .slice f5 TA.exts.length f6, .slice f7 TA.priv.length f8, .string TA.grand] 31 (0, 0)) := by rw [← hWU, Below.heap_alloc _ _ _ (by simp)]; exact World.alloc_heap_new w8 _
  have hU : WU.heap[w8.heap.size + 1]? = some (.cells #[.string TA.lang, .slice f1 TA.extl.length f2, .string TA.script, .string TA.region, .slice f3 TA.vars.length f4, .slice f5 TA.exts.length f6, .slice f7 TA.priv.length f8, .string TA.grand] 31 (0, 0)) := by rw [← hWU]; exact heap_alloc2_new w8 _ _
  have hlT := lt_of_heap hT
  have hlU := lt_of_heap hU
  have hBU : Below w.heap.size w WU := hb8.trans (hbT.mono hb8.size)
  have hIT := hI8.below hbT
  have HCT := Lib.hid (fun (w' : World) (hb : Below WU.heap.size WU w') => tag_cells ((hb.block _ hlT).trans hT))
  have HHU := Lib.hid hU
  have HBU := Lib.hid hBU
  rw [hWU]
  have HBT := Lib.hid hbT
  have HI8 := Lib.hid hI8
  have HB8 := Lib.hid hb8
  have hs8 := hbT.size
  have hsU : w8.heap.size + 2 ≤ WU.heap.size := by rw [← hWU]; simp
  clear hI8 hb8 hbT hT hU hBU q0 q1 q2 q3 q4 q5 q6 q7 c7 z7 hA6 hb6 hA5 hb5 hWU
  have hcs : pk = 0 ∨ pk = 1 ∨ pk = 2 := by omega
  clear hr
  have hvl := MO.vl
  have hxl := MO.xl
  have hpl := MO.pl
  rcases hcs with rfl | rfl | rfl
  · go_upto_region 8 with (go_at_call 14; (with_reducible refine (RS.out _).mono ?_); rintro e w9 ⟨rfl, rfl⟩)
    have hBe : Below WU.heap.size WU (WU.alloc (.cells #[] 9)) := (Below.refl _ _).alloc (Nat.le_refl _) _
    obtain ⟨s0, s1, s2, s3, s4, s5, s6, s7⟩ := HCT.out _ hBe
    have hRV := ((tag_rows hIT).2.1).below hBe
    obtain ⟨hnn, hnc⟩ := hRV.news
    have HNN := Lib.hid hnn
    have HNC := Lib.hid hnc
    clear hRV hnn hnc
    go_upto_region 11 with (first
      | (refine wpList_build_none _ rfl rfl ?_)
      | (at_builtin; refine wpList_append_any _ rfl _ _ 28 rfl WU.heap.size 9 i0 (.string ByteArray.empty) 1 16 Tryz.underlying28 hii iz0 iz1 iz2 rfl (by decide) _ 0 [] rfl (own_empty WU _ _) f3 TA.vars.length f4 (strs TA.vars) rfl (by rw [strs_length, Nat.mul_one]) HNN.out HNC.out (strs_one _) (by unfold maxLen; omega) (by omega) (by simp) ?_; intro v1 w1 ho1 hg1; have hb1 := hBe.grown hg1 (by simp) (fun r e => by have := (own_empty WU 9 1).lt r e; omega))
      | (at_builtin; refine wpList_append_own _ rfl _ _ 28 rfl WU.heap.size 9 i0 (.string ByteArray.empty) 1 16 Tryz.underlying28 hii iz0 iz1 iz2 rfl (by decide) _ (0 + TA.vars.length) _ rfl (ho1.alloc _) ⟨w1.heap.size, 0, none⟩ 1 1 [.string ⟨#[122, 121, 120, 119, 118]⟩] rfl rfl (cell_one_new _ _ _) (by intro u hu; simp at hu; subst hu; rfl) (by unfold maxLen; omega) (by omega) (by have := hb1.size; simp; omega) ?_; intro v2 w2 ho2 hg2 _; have hb2' := (hb1.alloc hb1.size (.cells #[.string ⟨#[122, 121, 120, 119, 118]⟩] 9)).grown hg2 (by have := hb1.size; simp; omega) (fun r e => (ho1.lt r e).1); have hU2 := (hb2'.block _ hlU).trans HHU.out; have c4 := rd_cell 4 hU2 (v := .slice f3 TA.vars.length f4) rfl; have z4 := cells_frozen 4 hU2; obtain ⟨g2, cap2, rfl⟩ := ownsRow_succ ho2))
    obtain ⟨W9, hW9⟩ : ∃ W, w2.setCell ⟨w8.heap.size + 1, 4, none⟩ (.slice (some ⟨g2, 0, none⟩) (TA.vars.length + 1) cap2) = W := ⟨_, rfl⟩
    have hg2' := (ho2.lt g2 rfl).1
    have hU9 : W9.heap[w8.heap.size + 1]? = some (.cells #[.string TA.lang, .slice f1 TA.extl.length f2, .string TA.script, .string TA.region, .slice (some ⟨g2, 0, none⟩) (TA.vars.length + 1) cap2, .slice f5 TA.exts.length f6, .slice f7 TA.priv.length f8, .string TA.grand] 31 (0, 0)) := by rw [← hW9]; exact cells_set hU2 (k := 4) (.slice (some ⟨g2, 0, none⟩) (TA.vars.length + 1) cap2)
    have hB89 : Below w8.heap.size w8 W9 := by rw [← hW9]; exact (HBT.out.trans (hb2'.mono hs8)).setCell (p := ⟨w8.heap.size + 1, 4, none⟩) (by show w8.heap.size ≤ w8.heap.size + 1; omega) _
    have ho3 := ownsRow_setCell_other (a := ⟨w8.heap.size + 1, 4, none⟩) ho2 (by simp [Value.ownBlock]; omega) (.slice (some ⟨g2, 0, none⟩) (TA.vars.length + 1) cap2)
    have e3 : (TA.vars ++ [(⟨#[122, 121, 120, 119, 118]⟩ : ByteArray)]).length = 0 + TA.vars.length + 1 := by simp
    have hRow : Row W9 (.slice (some ⟨g2, 0, none⟩) (TA.vars.length + 1) cap2) (TA.vars ++ [⟨#[122, 121, 120, 119, 118]⟩]) := by
      rw [← hW9]
      refine Row.of_own (base := WU.heap.size) ?_
      rw [e3, strs_append]
      rw [Nat.zero_add] at ho3 ⊢
      exact ho3
    obtain ⟨r1, r2, r3, r4⟩ := tag_rows HI8.out
    have hI9 : TagIs W9 (.agg #[.string TA.lang, .slice f1 TA.extl.length f2, .string TA.script, .string TA.region, .slice (some ⟨g2, 0, none⟩) (TA.vars.length + 1) cap2, .slice f5 TA.exts.length f6, .slice f7 TA.priv.length f8, .string TA.grand]) (grownT TA 0) := (show TagIs W9 (.agg #[.string TA.lang, .slice f1 TA.extl.length f2, .string TA.script, .string TA.region, .slice (some ⟨g2, 0, none⟩) (TA.vars.length + 1) cap2, .slice f5 TA.exts.length f6, .slice f7 TA.priv.length f8, .string TA.grand]) { TA with vars := TA.vars ++ [⟨#[122, 121, 120, 119, 118]⟩] } from ⟨_, _, _, _, rfl, r1.below hB89, hRow, r3.below hB89, r4.below hB89⟩)
    obtain ⟨hGp, hGr⟩ := grown_ok MO 0
    have hGt := grown_tiny MO 0
    rw [hW9]
    generalize grownT TA 0 = G at *
    have hB9w := HB8.out.trans (hB89.mono HB8.out.size)
    clear hW9 hU2 hb2' hb1 hBe c4 z4 ho1 ho2 ho3 hg1 hg2 e3 hRow hB89 r1 r2 r3 r4 s0 s1 s2 s3 s4 s5 s6 s7 HNN HNC hIT HCT HHU HI8 MO
    generalize (Value.slice f1 TA.extl.length f2) = ve at *
    generalize (Value.slice f5 TA.exts.length f6) = vx at *
    generalize (Value.slice f7 TA.priv.length f8) = vp at *
    generalize (Value.slice (some ⟨g2, 0, none⟩) (TA.vars.length + 1) cap2) = vv at *
    have hlU9 := lt_of_heap hU9
    have HCU := Lib.hid (fun (w' : World) (hb : Below W9.heap.size W9 w') => tag_cells ((hb.block _ hlU9).trans hU9))
    have htx := text_size2 hGt
    have hl9 := HL.out.below hB9w
    have TZ := Lib.hid (fun w5 (hb : Below W9.heap.size W9 w5) => (text_ref (.agg #[.string TA.lang, ve, .string TA.script, .string TA.region, vv, vx, vp, .string TA.grand]) G w5 (hI9.below hb) hGt).mono (R' := fun e w7 => e = .returned (.string (joinS (subtagsT G))) ∧ Below W9.heap.size W9 w7) fun e w7 ⟨p, q⟩ => ⟨p, hb.trans (q.mono hb.size)⟩)
    have PA := Lib.hid (fun w5 (hb : Below W9.heap.size W9 w5) => (parse_own (joinS (subtagsT G)) w5 (by omega) (hl9.below hb).g).mono (R' := fun e w7 => ∃ h1 h2 h3 h4 h5 h6 h7 h8, e = .returned (.tuple #[.agg #[.string G.lang, .slice h1 G.extl.length h2, .string G.script, .string G.region, .slice h3 G.vars.length h4, .slice h5 G.exts.length h6, .slice h7 G.priv.length h8, .string G.grand], .nilIface]) ∧ TagIs w7 (.agg #[.string G.lang, .slice h1 G.extl.length h2, .string G.script, .string G.region, .slice h3 G.vars.length h4, .slice h5 G.exts.length h6, .slice h7 G.priv.length h8, .string G.grand]) G ∧ Below W9.heap.size W9 w7) fun e w7 ⟨tv, ev, p, q, r, o⟩ => by
      rw [hGp] at q r
      obtain rfl := errP_none r
      obtain ⟨ae, ac, av, vc, ax, xc, ap, pc, rfl⟩ := tag_shape q
      exact ⟨ae, ac, av, vc, ax, xc, ap, pc, p, q, hb.trans (o.mono hb.size)⟩)
    have RT := Lib.hid (fun w5 (hb : Below W9.heap.size W9 w5) => (right_ref2 (.agg #[.string TA.lang, ve, .string TA.script, .string TA.region, vv, vx, vp, .string TA.grand]) G w5 (hI9.below hb) hGt).mono (R' := fun e w7 => e = .returned (.bool true) ∧ Below W9.heap.size W9 w7) fun e w7 ⟨p, q⟩ => ⟨by rw [p, hGr], hb.trans (q.mono hb.size)⟩)
    have hwide : TagWide G := by have := hGt.fits; obtain ⟨x1, x2, x3, x4, x5, x6⟩ := this; exact ⟨by omega, by omega, by omega, fun x hx => by have := x4 x hx; omega, by omega, by omega⟩
    have SM := Lib.hid (fun w5 (v : Value) (hv : TagIs w5 v G) (hb : Below W9.heap.size W9 w5) => (same_wide v (.agg #[.string TA.lang, ve, .string TA.script, .string TA.region, vv, vx, vp, .string TA.grand]) G G w5 hv (hI9.below hb) hwide).mono (R' := fun e w7 => e = .returned (.bool true) ∧ Below W9.heap.size W9 w7) fun e w7 ⟨p, q⟩ => ⟨by rw [p, sameT_self], hb.trans (q.mono hb.size)⟩)
    have HB9 := Lib.hid hB9w
    have hs9 := hB9w.size
    clear hU9 hI9 hGp hGr hGt htx hl9 hwide hB9w
    generalize joinS (subtagsT G) = S at *
    have hBW : Below W9.heap.size W9 W9 := Below.refl _ _
    obtain ⟨q0, q1, q2, q3, q4, q5, q6, q7⟩ := HCU.out _ hBW
    go_upto_region 12 with (first
      | (go_at_call 10; (with_reducible refine (TZ.out _ (by assumption)).mono ?_); rintro e w10 ⟨rfl, hB10⟩)
      | (go_at_call 19; (with_reducible refine (PA.out _ (by assumption)).mono ?_); rintro e w12 ⟨h1, h2, h3, h4, h5, h6, h7, h8, rfl, hI12, hB12⟩))
    obtain ⟨WX, hWX⟩ : ∃ W, w12.alloc (.cells #[.string G.lang, .slice h1 G.extl.length h2, .string G.script, .string G.region, .slice h3 G.vars.length h4, .slice h5 G.exts.length h6, .slice h7 G.priv.length h8, .string G.grand] 31) = W := ⟨_, rfl⟩
    have hbX : Below w12.heap.size w12 WX := by rw [← hWX]; exact (Below.refl _ _).alloc (Nat.le_refl _) _
    have hX : WX.heap[w12.heap.size]? = some (.cells #[.string G.lang, .slice h1 G.extl.length h2, .string G.script, .string G.region, .slice h3 G.vars.length h4, .slice h5 G.exts.length h6, .slice h7 G.priv.length h8, .string G.grand] 31 (0, 0)) := by rw [← hWX]; exact World.alloc_heap_new w12 _
    have hBX := hB12.trans (hbX.mono hB12.size)
    have hIX := hI12.below hbX
    obtain ⟨x0, x1, x2, x3, x4, x5, x6, x7⟩ := tag_cells hX
    clear hI12 hbX hX q0 q1 q2 q3 q4 q5 q6 q7 hBW hB10
    obtain ⟨q0, q1, q2, q3, q4, q5, q6, q7⟩ := HCU.out _ hBX
    rw [hWX]
    clear hWX
    go_upto_region 13 with (go_at_call 21; (with_reducible refine (SM.out _ _ hIX hBX).mono ?_); rintro e w14 ⟨rfl, hB14⟩)
    clear q0 q1 q2 q3 q4 q5 q6 q7 x0 x1 x2 x3 x4 x5 x6 x7 hIX hBX hB12
    have hBd : Below W9.heap.size W9 w14.drew := hB14.drew
    obtain ⟨q0, q1, q2, q3, q4, q5, q6, q7⟩ := HCU.out _ hBd
    go_region_held3 (fun w' => Below W9.heap.size W9 w' ∧ w'.cell? ⟨w8.heap.size + 1, 0, none⟩ = some (.string TA.lang) ∧ w'.cell? ⟨w8.heap.size + 1, 1, none⟩ = some (ve) ∧ w'.cell? ⟨w8.heap.size + 1, 2, none⟩ = some (.string TA.script) ∧ w'.cell? ⟨w8.heap.size + 1, 3, none⟩ = some (.string TA.region) ∧ w'.cell? ⟨w8.heap.size + 1, 4, none⟩ = some (vv) ∧ w'.cell? ⟨w8.heap.size + 1, 5, none⟩ = some (vx) ∧ w'.cell? ⟨w8.heap.size + 1, 6, none⟩ = some (vp) ∧ w'.cell? ⟨w8.heap.size + 1, 7, none⟩ = some (.string TA.grand))
      (first | exact ⟨by assumption, by assumption, by assumption, by assumption, by assumption, by assumption, by assumption, by assumption, by assumption⟩ | exact ⟨by assumption, HCU.out _ (by assumption)⟩)
      (first | (go_at_call 20; (with_reducible refine (RT.out _ (by assumption)).mono ?_); rintro e w15 ⟨rfl, hB15⟩))
    all_goals
      (try go_wp2_with fail)
      go_ret
      exact ⟨rfl, HB9.out.trans (hB15.mono hs9)⟩
  · go_upto_region 10 with (go_at_call 14; (with_reducible refine (RS.out _).mono ?_); rintro e w9 ⟨rfl, rfl⟩)
    obtain ⟨i1, xii, xz0, xz1, xz2⟩ := info_parts extInfo
    have hBe : Below WU.heap.size WU (WU.alloc (.cells #[] 48)) := (Below.refl _ _).alloc (Nat.le_refl _) _
    obtain ⟨s0, s1, s2, s3, s4, s5, s6, s7⟩ := HCT.out _ hBe
    obtain ⟨us, hus, hur, hnn, hnc⟩ := open_ext (tag_rows HI8.out).2.2.1
    have HNN := Lib.hid hnn
    have h8e := HBT.out.trans (hBe.mono hs8)
    have HNC := Lib.hid (show ∀ ad, f5 = some ad → ∀ j u, (extCells TA.exts us)[j]? = some u → (WU.alloc (.cells #[] 48)).cell? (ad.add j) = some u from fun ad had j u hj => (h8e.cell (lt_of_cellF (hnc ad had j u hj))).trans (hnc ad had j u hj))
    have h1c : ∀ u ∈ extCells TA.exts us, u.oneCell' = true := by
      intro u hu
      unfold extCells at hu
      obtain ⟨q, hq, hu⟩ := List.mem_flatMap.1 hu
      simp at hu
      rcases hu with rfl | rfl
      · rfl
      · obtain ⟨k, hk⟩ := List.getElem?_of_mem hq
        rw [List.getElem?_zip_eq_some] at hk
        obtain ⟨ao, c, e, _⟩ := hur k q.1 q.2 hk.1 hk.2
        rw [e]; rfl
    clear hnn hnc
    go_upto_region 11 with (first
      | (refine wpList_build_noneX _ rfl rfl ?_)
      | (at_builtin; refine wpList_append_any _ rfl _ _ 29 rfl WU.heap.size 48 i1 (.agg #[.string ByteArray.empty, .slice none 0 0]) 2 40 Tryz.underlying29 xii xz0 xz1 xz2 rfl (by decide) _ 0 [] rfl (own_empty WU _ _) f5 TA.exts.length f6 (extCells TA.exts us) rfl (extCells_length hus) HNN.out HNC.out h1c (by unfold maxLen; omega) (by omega) (by simp) ?_; intro v1 w1 ho1 hg1; have hb1 := hBe.grown hg1 (by simp) (fun r e => by have := (own_empty WU 48 2).lt r e; omega); have HCP := Lib.hid (cell_pair8 w1 (.cells #[.string ⟨#[97, 98]⟩, .string ⟨#[99, 100]⟩] 9) (.string ⟨#[122]⟩) (.slice (some ⟨w1.heap.size, 0, none⟩) 2 2) 48))
      | (at_builtin; refine wpList_append_own _ rfl _ _ 29 rfl WU.heap.size 48 i1 (.agg #[.string ByteArray.empty, .slice none 0 0]) 2 40 Tryz.underlying29 xii xz0 xz1 xz2 rfl (by decide) _ (0 + TA.exts.length) _ rfl ((ho1.alloc _).alloc _) ⟨w1.heap.size + 1, 0, none⟩ 1 1 [.string ⟨#[122]⟩, .slice (some ⟨w1.heap.size, 0, none⟩) 2 2] rfl rfl HCP.out (by intro u hu; simp at hu; rcases hu with rfl | rfl <;> rfl) (by unfold maxLen; omega) (by omega) (by have := hb1.size; simp; omega) ?_; intro v2 w2 ho2 hg2 _; have hba := (hb1.alloc hb1.size (.cells #[.string ⟨#[97, 98]⟩, .string ⟨#[99, 100]⟩] 9)).alloc (by have := hb1.size; simp; omega) (.cells #[.string ⟨#[122]⟩, .slice (some ⟨w1.heap.size, 0, none⟩) 2 2] 48); have hb2' := hba.grown hg2 (by have := hb1.size; simp; omega) (fun r e => (ho1.lt r e).1); have hU2 := (hb2'.block _ hlU).trans HHU.out; have c4 := rd_cell 5 hU2 (v := .slice f5 TA.exts.length f6) rfl; have z4 := cells_frozen 5 hU2; obtain ⟨g2, cap2, rfl⟩ := ownsRow_succ ho2))
    have hsubs : w2.heap[w1.heap.size]? = some (.cells #[.string ⟨#[97, 98]⟩, .string ⟨#[99, 100]⟩] 9 (0, 0)) := by
      refine (hg2.block _ (by simp; omega) (fun e => ?_)).trans ?_
      · have := (ho1.lt _ e.symm).2; omega
      · rw [Below.heap_alloc _ _ _ (by simp)]; exact World.alloc_heap_new w1 _
    obtain ⟨W9, hW9⟩ : ∃ W, w2.setCell ⟨w8.heap.size + 1, 5, none⟩ (.slice (some ⟨g2, 0, none⟩) (TA.exts.length + 1) cap2) = W := ⟨_, rfl⟩
    have hg2' := (ho2.lt g2 rfl).1
    have hw1s := hb1.size
    have hU9 : W9.heap[w8.heap.size + 1]? = some (.cells #[.string TA.lang, .slice f1 TA.extl.length f2, .string TA.script, .string TA.region, .slice f3 TA.vars.length f4, .slice (some ⟨g2, 0, none⟩) (TA.exts.length + 1) cap2, .slice f7 TA.priv.length f8, .string TA.grand] 31 (0, 0)) := by rw [← hW9]; exact cells_set hU2 (k := 5) (.slice (some ⟨g2, 0, none⟩) (TA.exts.length + 1) cap2)
    have hB89 : Below w8.heap.size w8 W9 := by rw [← hW9]; exact (HBT.out.trans (hb2'.mono hs8)).setCell (p := ⟨w8.heap.size + 1, 5, none⟩) (by show w8.heap.size ≤ w8.heap.size + 1; omega) _
    have hsub9 : Row W9 (.slice (some ⟨w1.heap.size, 0, none⟩) 2 2) [(⟨#[97, 98]⟩ : ByteArray), ⟨#[99, 100]⟩] := by
      rw [← hW9]
      exact Row.of_block _ _ _ rfl ((Below.heap_setCell w2 ⟨w8.heap.size + 1, 5, none⟩ _ _ (by show w1.heap.size ≠ w8.heap.size + 1; omega)).trans hsubs)
    have ho3 := ownsRow_setCell_other (a := ⟨w8.heap.size + 1, 5, none⟩) ho2 (by simp [Value.ownBlock]; omega) (.slice (some ⟨g2, 0, none⟩) (TA.exts.length + 1) cap2)
    have e3 : (TA.exts ++ [((⟨#[122]⟩ : ByteArray), [(⟨#[97, 98]⟩ : ByteArray), ⟨#[99, 100]⟩])]).length = 0 + TA.exts.length + 1 := by simp
    have hRow : ExtRow W9 (.slice (some ⟨g2, 0, none⟩) (TA.exts.length + 1) cap2) (TA.exts ++ [((⟨#[122]⟩ : ByteArray), [(⟨#[97, 98]⟩ : ByteArray), ⟨#[99, 100]⟩])]) := by
      refine ext_row_of (base := WU.heap.size) (us := us ++ [.slice (some ⟨w1.heap.size, 0, none⟩) 2 2]) (by simp [hus]) ?_ (fun i x u hx hu => ?_)
      · rw [← hW9, e3, ext_snoc hus]
        rw [Nat.zero_add] at ho3 ⊢
        exact ho3
      · rcases Nat.lt_or_ge i TA.exts.length with hi | hi
        · rw [List.getElem?_append_left hi] at hx
          rw [List.getElem?_append_left (by omega)] at hu
          exact (hur i x u hx hu).below hB89
        · rw [List.getElem?_append_right hi] at hx
          rw [List.getElem?_append_right (by omega), hus] at hu
          rcases Nat.eq_zero_or_pos (i - TA.exts.length) with h0 | h0
          · rw [h0] at hx hu
            simp at hx hu
            subst hx hu
            exact hsub9
          · rw [List.getElem?_eq_none (by simp; omega)] at hx; cases hx
    obtain ⟨r1, r2, r3, r4⟩ := tag_rows HI8.out
    have hI9 : TagIs W9 (.agg #[.string TA.lang, .slice f1 TA.extl.length f2, .string TA.script, .string TA.region, .slice f3 TA.vars.length f4, .slice (some ⟨g2, 0, none⟩) (TA.exts.length + 1) cap2, .slice f7 TA.priv.length f8, .string TA.grand]) (grownT TA 1) := (show TagIs W9 (.agg #[.string TA.lang, .slice f1 TA.extl.length f2, .string TA.script, .string TA.region, .slice f3 TA.vars.length f4, .slice (some ⟨g2, 0, none⟩) (TA.exts.length + 1) cap2, .slice f7 TA.priv.length f8, .string TA.grand]) { TA with exts := TA.exts ++ [((⟨#[122]⟩ : ByteArray), [(⟨#[97, 98]⟩ : ByteArray), ⟨#[99, 100]⟩])] } from ⟨_, _, _, _, rfl, r1.below hB89, r2.below hB89, hRow, r4.below hB89⟩)
    obtain ⟨hGp, hGr⟩ := grown_ok MO 1
    have hGt := grown_tiny MO 1
    rw [hW9]
    generalize grownT TA 1 = G at *
    have hB9w := HB8.out.trans (hB89.mono HB8.out.size)
    clear hW9 hU2 hba hb2' hb1 hBe c4 z4 ho1 ho2 ho3 hg1 hg2 e3 hRow hB89 r1 r2 r3 r4 s0 s1 s2 s3 s4 s5 s6 s7 HNN HNC HCP hsub9 hsubs h8e hur hus h1c hIT HCT HHU HI8 MO
    generalize (Value.slice f1 TA.extl.length f2) = ve at *
    generalize (Value.slice f3 TA.vars.length f4) = vv at *
    generalize (Value.slice f7 TA.priv.length f8) = vp at *
    generalize (Value.slice (some ⟨g2, 0, none⟩) (TA.exts.length + 1) cap2) = vx at *
    have hlU9 := lt_of_heap hU9
    have HCU := Lib.hid (fun (w' : World) (hb : Below W9.heap.size W9 w') => tag_cells ((hb.block _ hlU9).trans hU9))
    have htx := text_size2 hGt
    have hl9 := HL.out.below hB9w
    have TZ := Lib.hid (fun w5 (hb : Below W9.heap.size W9 w5) => (text_ref (.agg #[.string TA.lang, ve, .string TA.script, .string TA.region, vv, vx, vp, .string TA.grand]) G w5 (hI9.below hb) hGt).mono (R' := fun e w7 => e = .returned (.string (joinS (subtagsT G))) ∧ Below W9.heap.size W9 w7) fun e w7 ⟨p, q⟩ => ⟨p, hb.trans (q.mono hb.size)⟩)
    have PA := Lib.hid (fun w5 (hb : Below W9.heap.size W9 w5) => (parse_own (joinS (subtagsT G)) w5 (by omega) (hl9.below hb).g).mono (R' := fun e w7 => ∃ h1 h2 h3 h4 h5 h6 h7 h8, e = .returned (.tuple #[.agg #[.string G.lang, .slice h1 G.extl.length h2, .string G.script, .string G.region, .slice h3 G.vars.length h4, .slice h5 G.exts.length h6, .slice h7 G.priv.length h8, .string G.grand], .nilIface]) ∧ TagIs w7 (.agg #[.string G.lang, .slice h1 G.extl.length h2, .string G.script, .string G.region, .slice h3 G.vars.length h4, .slice h5 G.exts.length h6, .slice h7 G.priv.length h8, .string G.grand]) G ∧ Below W9.heap.size W9 w7) fun e w7 ⟨tv, ev, p, q, r, o⟩ => by
      rw [hGp] at q r
      obtain rfl := errP_none r
      obtain ⟨ae, ac, av, vc, ax, xc, ap, pc, rfl⟩ := tag_shape q
      exact ⟨ae, ac, av, vc, ax, xc, ap, pc, p, q, hb.trans (o.mono hb.size)⟩)
    have RT := Lib.hid (fun w5 (hb : Below W9.heap.size W9 w5) => (right_ref2 (.agg #[.string TA.lang, ve, .string TA.script, .string TA.region, vv, vx, vp, .string TA.grand]) G w5 (hI9.below hb) hGt).mono (R' := fun e w7 => e = .returned (.bool true) ∧ Below W9.heap.size W9 w7) fun e w7 ⟨p, q⟩ => ⟨by rw [p, hGr], hb.trans (q.mono hb.size)⟩)
    have hwide : TagWide G := by have := hGt.fits; obtain ⟨x1, x2, x3, x4, x5, x6⟩ := this; exact ⟨by omega, by omega, by omega, fun x hx => by have := x4 x hx; omega, by omega, by omega⟩
    have SM := Lib.hid (fun w5 (v : Value) (hv : TagIs w5 v G) (hb : Below W9.heap.size W9 w5) => (same_wide v (.agg #[.string TA.lang, ve, .string TA.script, .string TA.region, vv, vx, vp, .string TA.grand]) G G w5 hv (hI9.below hb) hwide).mono (R' := fun e w7 => e = .returned (.bool true) ∧ Below W9.heap.size W9 w7) fun e w7 ⟨p, q⟩ => ⟨by rw [p, sameT_self], hb.trans (q.mono hb.size)⟩)
    have HB9 := Lib.hid hB9w
    have hs9 := hB9w.size
    clear hU9 hI9 hGp hGr hGt htx hl9 hwide hB9w
    generalize joinS (subtagsT G) = S at *
    have hBW : Below W9.heap.size W9 W9 := Below.refl _ _
    obtain ⟨q0, q1, q2, q3, q4, q5, q6, q7⟩ := HCU.out _ hBW
    go_upto_region 12 with (first
      | (go_at_call 10; (with_reducible refine (TZ.out _ (by assumption)).mono ?_); rintro e w10 ⟨rfl, hB10⟩)
      | (go_at_call 19; (with_reducible refine (PA.out _ (by assumption)).mono ?_); rintro e w12 ⟨h1, h2, h3, h4, h5, h6, h7, h8, rfl, hI12, hB12⟩))
    obtain ⟨WX, hWX⟩ : ∃ W, w12.alloc (.cells #[.string G.lang, .slice h1 G.extl.length h2, .string G.script, .string G.region, .slice h3 G.vars.length h4, .slice h5 G.exts.length h6, .slice h7 G.priv.length h8, .string G.grand] 31) = W := ⟨_, rfl⟩
    have hbX : Below w12.heap.size w12 WX := by rw [← hWX]; exact (Below.refl _ _).alloc (Nat.le_refl _) _
    have hX : WX.heap[w12.heap.size]? = some (.cells #[.string G.lang, .slice h1 G.extl.length h2, .string G.script, .string G.region, .slice h3 G.vars.length h4, .slice h5 G.exts.length h6, .slice h7 G.priv.length h8, .string G.grand] 31 (0, 0)) := by rw [← hWX]; exact World.alloc_heap_new w12 _
    have hBX := hB12.trans (hbX.mono hB12.size)
    have hIX := hI12.below hbX
    obtain ⟨x0, x1, x2, x3, x4, x5, x6, x7⟩ := tag_cells hX
    clear hI12 hbX hX q0 q1 q2 q3 q4 q5 q6 q7 hBW hB10
    obtain ⟨q0, q1, q2, q3, q4, q5, q6, q7⟩ := HCU.out _ hBX
    rw [hWX]
    clear hWX
    go_upto_region 13 with (go_at_call 21; (with_reducible refine (SM.out _ _ hIX hBX).mono ?_); rintro e w14 ⟨rfl, hB14⟩)
    clear q0 q1 q2 q3 q4 q5 q6 q7 x0 x1 x2 x3 x4 x5 x6 x7 hIX hBX hB12
    have hBd : Below W9.heap.size W9 w14.drew := hB14.drew
    obtain ⟨q0, q1, q2, q3, q4, q5, q6, q7⟩ := HCU.out _ hBd
    go_region_held3 (fun w' => Below W9.heap.size W9 w' ∧ w'.cell? ⟨w8.heap.size + 1, 0, none⟩ = some (.string TA.lang) ∧ w'.cell? ⟨w8.heap.size + 1, 1, none⟩ = some (ve) ∧ w'.cell? ⟨w8.heap.size + 1, 2, none⟩ = some (.string TA.script) ∧ w'.cell? ⟨w8.heap.size + 1, 3, none⟩ = some (.string TA.region) ∧ w'.cell? ⟨w8.heap.size + 1, 4, none⟩ = some (vv) ∧ w'.cell? ⟨w8.heap.size + 1, 5, none⟩ = some (vx) ∧ w'.cell? ⟨w8.heap.size + 1, 6, none⟩ = some (vp) ∧ w'.cell? ⟨w8.heap.size + 1, 7, none⟩ = some (.string TA.grand))
      (first | exact ⟨by assumption, by assumption, by assumption, by assumption, by assumption, by assumption, by assumption, by assumption, by assumption⟩ | exact ⟨by assumption, HCU.out _ (by assumption)⟩)
      (first | (go_at_call 20; (with_reducible refine (RT.out _ (by assumption)).mono ?_); rintro e w15 ⟨rfl, hB15⟩))
    all_goals
      (try go_wp2_with fail)
      go_ret
      exact ⟨rfl, HB9.out.trans (hB15.mono hs9)⟩
  · go_upto_region 6 with (go_at_call 14; (with_reducible refine (RS.out _).mono ?_); rintro e w9 ⟨rfl, rfl⟩)
    have hBe : Below WU.heap.size WU (WU.alloc (.cells #[] 9)) := (Below.refl _ _).alloc (Nat.le_refl _) _
    obtain ⟨s0, s1, s2, s3, s4, s5, s6, s7⟩ := HCT.out _ hBe
    have hRV := ((tag_rows hIT).2.2.2).below hBe
    obtain ⟨hnn, hnc⟩ := hRV.news
    have HNN := Lib.hid hnn
    have HNC := Lib.hid hnc
    clear hRV hnn hnc
    go_upto_region 11 with (first
      | (refine wpList_build_none _ rfl rfl ?_)
      | (at_builtin; refine wpList_append_any _ rfl _ _ 28 rfl WU.heap.size 9 i0 (.string ByteArray.empty) 1 16 Tryz.underlying28 hii iz0 iz1 iz2 rfl (by decide) _ 0 [] rfl (own_empty WU _ _) f7 TA.priv.length f8 (strs TA.priv) rfl (by rw [strs_length, Nat.mul_one]) HNN.out HNC.out (strs_one _) (by unfold maxLen; omega) (by omega) (by simp) ?_; intro v1 w1 ho1 hg1; have hb1 := hBe.grown hg1 (by simp) (fun r e => by have := (own_empty WU 9 1).lt r e; omega))
      | (at_builtin; refine wpList_append_own _ rfl _ _ 28 rfl WU.heap.size 9 i0 (.string ByteArray.empty) 1 16 Tryz.underlying28 hii iz0 iz1 iz2 rfl (by decide) _ (0 + TA.priv.length) _ rfl (ho1.alloc _) ⟨w1.heap.size, 0, none⟩ 1 1 [.string ⟨#[113]⟩] rfl rfl (cell_one_new _ _ _) (by intro u hu; simp at hu; subst hu; rfl) (by unfold maxLen; omega) (by omega) (by have := hb1.size; simp; omega) ?_; intro v2 w2 ho2 hg2 _; have hb2' := (hb1.alloc hb1.size (.cells #[.string ⟨#[113]⟩] 9)).grown hg2 (by have := hb1.size; simp; omega) (fun r e => (ho1.lt r e).1); have hU2 := (hb2'.block _ hlU).trans HHU.out; have c4 := rd_cell 6 hU2 (v := .slice f7 TA.priv.length f8) rfl; have z4 := cells_frozen 6 hU2; obtain ⟨g2, cap2, rfl⟩ := ownsRow_succ ho2))
    obtain ⟨W9, hW9⟩ : ∃ W, w2.setCell ⟨w8.heap.size + 1, 6, none⟩ (.slice (some ⟨g2, 0, none⟩) (TA.priv.length + 1) cap2) = W := ⟨_, rfl⟩
    have hg2' := (ho2.lt g2 rfl).1
    have hU9 : W9.heap[w8.heap.size + 1]? = some (.cells #[.string TA.lang, .slice f1 TA.extl.length f2, .string TA.script, .string TA.region, .slice f3 TA.vars.length f4, .slice f5 TA.exts.length f6, .slice (some ⟨g2, 0, none⟩) (TA.priv.length + 1) cap2, .string TA.grand] 31 (0, 0)) := by rw [← hW9]; exact cells_set hU2 (k := 6) (.slice (some ⟨g2, 0, none⟩) (TA.priv.length + 1) cap2)
    have hB89 : Below w8.heap.size w8 W9 := by rw [← hW9]; exact (HBT.out.trans (hb2'.mono hs8)).setCell (p := ⟨w8.heap.size + 1, 6, none⟩) (by show w8.heap.size ≤ w8.heap.size + 1; omega) _
    have ho3 := ownsRow_setCell_other (a := ⟨w8.heap.size + 1, 6, none⟩) ho2 (by simp [Value.ownBlock]; omega) (.slice (some ⟨g2, 0, none⟩) (TA.priv.length + 1) cap2)
    have e3 : (TA.priv ++ [(⟨#[113]⟩ : ByteArray)]).length = 0 + TA.priv.length + 1 := by simp
    have hRow : Row W9 (.slice (some ⟨g2, 0, none⟩) (TA.priv.length + 1) cap2) (TA.priv ++ [⟨#[113]⟩]) := by
      rw [← hW9]
      refine Row.of_own (base := WU.heap.size) ?_
      rw [e3, strs_append]
      rw [Nat.zero_add] at ho3 ⊢
      exact ho3
    obtain ⟨r1, r2, r3, r4⟩ := tag_rows HI8.out
    have hI9 : TagIs W9 (.agg #[.string TA.lang, .slice f1 TA.extl.length f2, .string TA.script, .string TA.region, .slice f3 TA.vars.length f4, .slice f5 TA.exts.length f6, .slice (some ⟨g2, 0, none⟩) (TA.priv.length + 1) cap2, .string TA.grand]) (grownT TA 2) := (show TagIs W9 (.agg #[.string TA.lang, .slice f1 TA.extl.length f2, .string TA.script, .string TA.region, .slice f3 TA.vars.length f4, .slice f5 TA.exts.length f6, .slice (some ⟨g2, 0, none⟩) (TA.priv.length + 1) cap2, .string TA.grand]) { TA with priv := TA.priv ++ [⟨#[113]⟩] } from ⟨_, _, _, _, rfl, r1.below hB89, r2.below hB89, r3.below hB89, hRow⟩)
    obtain ⟨hGp, hGr⟩ := grown_ok MO 2
    have hGt := grown_tiny MO 2
    rw [hW9]
    generalize grownT TA 2 = G at *
    have hB9w := HB8.out.trans (hB89.mono HB8.out.size)
    clear hW9 hU2 hb2' hb1 hBe c4 z4 ho1 ho2 ho3 hg1 hg2 e3 hRow hB89 r1 r2 r3 r4 s0 s1 s2 s3 s4 s5 s6 s7 HNN HNC hIT HCT HHU HI8 MO
    generalize (Value.slice f1 TA.extl.length f2) = ve at *
    generalize (Value.slice f3 TA.vars.length f4) = vv at *
    generalize (Value.slice f5 TA.exts.length f6) = vx at *
    generalize (Value.slice (some ⟨g2, 0, none⟩) (TA.priv.length + 1) cap2) = vp at *
    have hlU9 := lt_of_heap hU9
    have HCU := Lib.hid (fun (w' : World) (hb : Below W9.heap.size W9 w') => tag_cells ((hb.block _ hlU9).trans hU9))
    have htx := text_size2 hGt
    have hl9 := HL.out.below hB9w
    have TZ := Lib.hid (fun w5 (hb : Below W9.heap.size W9 w5) => (text_ref (.agg #[.string TA.lang, ve, .string TA.script, .string TA.region, vv, vx, vp, .string TA.grand]) G w5 (hI9.below hb) hGt).mono (R' := fun e w7 => e = .returned (.string (joinS (subtagsT G))) ∧ Below W9.heap.size W9 w7) fun e w7 ⟨p, q⟩ => ⟨p, hb.trans (q.mono hb.size)⟩)
    have PA := Lib.hid (fun w5 (hb : Below W9.heap.size W9 w5) => (parse_own (joinS (subtagsT G)) w5 (by omega) (hl9.below hb).g).mono (R' := fun e w7 => ∃ h1 h2 h3 h4 h5 h6 h7 h8, e = .returned (.tuple #[.agg #[.string G.lang, .slice h1 G.extl.length h2, .string G.script, .string G.region, .slice h3 G.vars.length h4, .slice h5 G.exts.length h6, .slice h7 G.priv.length h8, .string G.grand], .nilIface]) ∧ TagIs w7 (.agg #[.string G.lang, .slice h1 G.extl.length h2, .string G.script, .string G.region, .slice h3 G.vars.length h4, .slice h5 G.exts.length h6, .slice h7 G.priv.length h8, .string G.grand]) G ∧ Below W9.heap.size W9 w7) fun e w7 ⟨tv, ev, p, q, r, o⟩ => by
      rw [hGp] at q r
      obtain rfl := errP_none r
      obtain ⟨ae, ac, av, vc, ax, xc, ap, pc, rfl⟩ := tag_shape q
      exact ⟨ae, ac, av, vc, ax, xc, ap, pc, p, q, hb.trans (o.mono hb.size)⟩)
    have RT := Lib.hid (fun w5 (hb : Below W9.heap.size W9 w5) => (right_ref2 (.agg #[.string TA.lang, ve, .string TA.script, .string TA.region, vv, vx, vp, .string TA.grand]) G w5 (hI9.below hb) hGt).mono (R' := fun e w7 => e = .returned (.bool true) ∧ Below W9.heap.size W9 w7) fun e w7 ⟨p, q⟩ => ⟨by rw [p, hGr], hb.trans (q.mono hb.size)⟩)
    have hwide : TagWide G := by have := hGt.fits; obtain ⟨x1, x2, x3, x4, x5, x6⟩ := this; exact ⟨by omega, by omega, by omega, fun x hx => by have := x4 x hx; omega, by omega, by omega⟩
    have SM := Lib.hid (fun w5 (v : Value) (hv : TagIs w5 v G) (hb : Below W9.heap.size W9 w5) => (same_wide v (.agg #[.string TA.lang, ve, .string TA.script, .string TA.region, vv, vx, vp, .string TA.grand]) G G w5 hv (hI9.below hb) hwide).mono (R' := fun e w7 => e = .returned (.bool true) ∧ Below W9.heap.size W9 w7) fun e w7 ⟨p, q⟩ => ⟨by rw [p, sameT_self], hb.trans (q.mono hb.size)⟩)
    have HB9 := Lib.hid hB9w
    have hs9 := hB9w.size
    clear hU9 hI9 hGp hGr hGt htx hl9 hwide hB9w
    generalize joinS (subtagsT G) = S at *
    have hBW : Below W9.heap.size W9 W9 := Below.refl _ _
    obtain ⟨q0, q1, q2, q3, q4, q5, q6, q7⟩ := HCU.out _ hBW
    go_upto_region 12 with (first
      | (go_at_call 10; (with_reducible refine (TZ.out _ (by assumption)).mono ?_); rintro e w10 ⟨rfl, hB10⟩)
      | (go_at_call 19; (with_reducible refine (PA.out _ (by assumption)).mono ?_); rintro e w12 ⟨h1, h2, h3, h4, h5, h6, h7, h8, rfl, hI12, hB12⟩))
    obtain ⟨WX, hWX⟩ : ∃ W, w12.alloc (.cells #[.string G.lang, .slice h1 G.extl.length h2, .string G.script, .string G.region, .slice h3 G.vars.length h4, .slice h5 G.exts.length h6, .slice h7 G.priv.length h8, .string G.grand] 31) = W := ⟨_, rfl⟩
    have hbX : Below w12.heap.size w12 WX := by rw [← hWX]; exact (Below.refl _ _).alloc (Nat.le_refl _) _
    have hX : WX.heap[w12.heap.size]? = some (.cells #[.string G.lang, .slice h1 G.extl.length h2, .string G.script, .string G.region, .slice h3 G.vars.length h4, .slice h5 G.exts.length h6, .slice h7 G.priv.length h8, .string G.grand] 31 (0, 0)) := by rw [← hWX]; exact World.alloc_heap_new w12 _
    have hBX := hB12.trans (hbX.mono hB12.size)
    have hIX := hI12.below hbX
    obtain ⟨x0, x1, x2, x3, x4, x5, x6, x7⟩ := tag_cells hX
    clear hI12 hbX hX q0 q1 q2 q3 q4 q5 q6 q7 hBW hB10
    obtain ⟨q0, q1, q2, q3, q4, q5, q6, q7⟩ := HCU.out _ hBX
    rw [hWX]
    clear hWX
    go_upto_region 13 with (go_at_call 21; (with_reducible refine (SM.out _ _ hIX hBX).mono ?_); rintro e w14 ⟨rfl, hB14⟩)
    clear q0 q1 q2 q3 q4 q5 q6 q7 x0 x1 x2 x3 x4 x5 x6 x7 hIX hBX hB12
    have hBd : Below W9.heap.size W9 w14.drew := hB14.drew
    obtain ⟨q0, q1, q2, q3, q4, q5, q6, q7⟩ := HCU.out _ hBd
    go_region_held3 (fun w' => Below W9.heap.size W9 w' ∧ w'.cell? ⟨w8.heap.size + 1, 0, none⟩ = some (.string TA.lang) ∧ w'.cell? ⟨w8.heap.size + 1, 1, none⟩ = some (ve) ∧ w'.cell? ⟨w8.heap.size + 1, 2, none⟩ = some (.string TA.script) ∧ w'.cell? ⟨w8.heap.size + 1, 3, none⟩ = some (.string TA.region) ∧ w'.cell? ⟨w8.heap.size + 1, 4, none⟩ = some (vv) ∧ w'.cell? ⟨w8.heap.size + 1, 5, none⟩ = some (vx) ∧ w'.cell? ⟨w8.heap.size + 1, 6, none⟩ = some (vp) ∧ w'.cell? ⟨w8.heap.size + 1, 7, none⟩ = some (.string TA.grand))
      (first | exact ⟨by assumption, by assumption, by assumption, by assumption, by assumption, by assumption, by assumption, by assumption, by assumption⟩ | exact ⟨by assumption, HCU.out _ (by assumption)⟩)
      (first | (go_at_call 20; (with_reducible refine (RT.out _ (by assumption)).mono ?_); rintro e w15 ⟨rfl, hB15⟩))
    all_goals
      (try go_wp2_with fail)
      go_ret
      exact ⟨rfl, HB9.out.trans (hB15.mono hs9)⟩
end Go.Proofs.YtggfdmhfcpabdaaGreatDoor
