/-
  RenderTells: the walk of the law.
-/
import Derived.Test.YtggfdmhfcpabdaaQFitsR
import Derived.Test.YtggfdmhfcpabdaaQPlain
namespace Go.Proofs.Ytggfdmhfcpabdaa
open Go Go.RowKit

/-- The eight cells of a block. -/
def tag8 (W : World) (B : Nat) (a b c d e f g h : Value) : Prop :=
  W.cell? ⟨B, 0, none⟩ = some a ∧ W.cell? ⟨B, 1, none⟩ = some b ∧ W.cell? ⟨B, 2, none⟩ = some c ∧ W.cell? ⟨B, 3, none⟩ = some d ∧ W.cell? ⟨B, 4, none⟩ = some e ∧ W.cell? ⟨B, 5, none⟩ = some f ∧ W.cell? ⟨B, 6, none⟩ = some g ∧ W.cell? ⟨B, 7, none⟩ = some h
theorem no_tiny : TagTiny noT := ⟨by decide, by decide, by decide, by decide, by decide, by decide, by decide, by decide, fun x h => by simp [noT] at h, fun x h => by simp [noT] at h, fun x h => by simp [noT] at h, fun x h => by simp [noT] at h⟩
theorem no_text : caseS (joinS (subtagsT noT)) = ⟨#[]⟩ := by decide +kernel

set_option maxRecDepth 100000 in
set_option maxHeartbeats 8000000 in
theorem rtells_law (SA : SeedM) (va ka pa : Value) (s : ByteArray) (n : Int) (w : World)
    (a1 : IntsA w va SA.vars) (a2 : IntsA w ka SA.keys) (a3 : IntsA w pa SA.priv) (a4 : -9223372036854775808 ≤ SA.extl) (a5 : SA.extl ≤ 9223372036854775807) (hs : s.size ≤ maxLen) (_hn : (Lit.int .i64 n).wf = true) :
    Calls Try.prog 3 #[.agg #[.int .i64 SA.lang, .int .i64 SA.extl, .int .i64 SA.script, .int .i64 SA.region, va, ka, pa, .int .i64 SA.odd], .string s, .int .i64 n] w fun e w' => e = .returned (.bool true) ∧ Below w.heap.size w w' := by
  obtain ⟨W2, hW2⟩ : ∃ W2, w.alloc (.cells #[.int .i64 SA.lang, .int .i64 SA.extl, .int .i64 SA.script, .int .i64 SA.region, va, ka, pa, .int .i64 SA.odd] 24) = W2 := ⟨_, rfl⟩
  have hb2 : Below w.heap.size w W2 := by rw [← hW2]; exact (Below.refl _ w).alloc (Nat.le_refl _) _
  have hA : W2.heap[w.heap.size]? = some (.cells #[.int .i64 SA.lang, .int .i64 SA.extl, .int .i64 SA.script, .int .i64 SA.region, va, ka, pa, .int .i64 SA.odd] 24 (0, 0)) := by rw [← hW2]; exact World.alloc_heap_new w _
  have hlA := lt_of_heap hA
  have AW := Lib.hid (fun w5 (hb : Below W2.heap.size W2 w5) => (awake8_any w5).mono (R' := fun e w6 => e = .returned (.bool true) ∧ Below W2.heap.size W2 w6 ∧ tag8 w6 w.heap.size (.int .i64 SA.lang) (.int .i64 SA.extl) (.int .i64 SA.script) (.int .i64 SA.region) va ka pa (.int .i64 SA.odd)) fun e w6 ⟨p, q⟩ => ⟨p, hb.trans (q.mono hb.size), tag_cells (((hb.trans (q.mono hb.size)).block _ hlA).trans hA)⟩)
  obtain ⟨c80, hc80⟩ : ∃ c, cut8 s = c := ⟨_, rfl⟩
  have hcz : c80.size ≤ 80 := by rw [← hc80]; exact size_cut8 s
  have SH := Lib.hid (fun w5 => (short8_any s w5 hs).mono (R' := fun e w6 => e = .returned (.string c80) ∧ w5 = w6) fun e w6 ⟨p, q⟩ => ⟨by rw [p, hc80], q⟩)
  have fA := madeT_tiny SA
  have nA := tag_nd (madeT_nd SA)
  have MZ := Lib.hid (fun w5 (hb : Below W2.heap.size W2 w5) => (made_any SA va ka pa w5 ((a1.below hb2).below hb) ((a2.below hb2).below hb) ((a3.below hb2).below hb) a4 a5).mono (R' := fun e w7 => ∃ f1 f2 f3 f4 f5 f6 f7 f8, e = .returned (.agg #[.string (madeT SA).lang, .slice f1 (madeT SA).extl.length f2, .string (madeT SA).script, .string (madeT SA).region, .slice f3 (madeT SA).vars.length f4, .slice f5 (madeT SA).exts.length f6, .slice f7 (madeT SA).priv.length f8, .string (madeT SA).grand]) ∧ TagIs w7 (.agg #[.string (madeT SA).lang, .slice f1 (madeT SA).extl.length f2, .string (madeT SA).script, .string (madeT SA).region, .slice f3 (madeT SA).vars.length f4, .slice f5 (madeT SA).exts.length f6, .slice f7 (madeT SA).priv.length f8, .string (madeT SA).grand]) (madeT SA) ∧ Below W2.heap.size W2 w7) fun e w7 ⟨u, p, q, r⟩ => by
    obtain ⟨ae, ac, av, vc, ax, xc, ap, pc, rfl⟩ := tag_shape q
    exact ⟨ae, ac, av, vc, ax, xc, ap, pc, p, q, hb.trans (r.mono hb.size)⟩)
  have HB2 := Lib.hid hb2
  have hs2 := hb2.size
  clear a1 a2 a3 a4 a5 hs hA hlA hb2 hc80
  generalize madeT SA = TA at *
  go_enter Try.func3, Try.ntmps3
  go_upto_region 1 with fail
  clear hW2
  go_wp2_with (first
    | (go_at_call 9; (with_reducible refine (AW.out _ (Below.refl _ _)).mono ?_); rintro e w5 ⟨rfl, hb5, ⟨q0, q1, q2, q3, q4, q5, q6, q7⟩⟩)
    | (go_at_call 10; (with_reducible refine (MZ.out _ hb5).mono ?_); rintro e w8 ⟨f1, f2, f3, f4, f5, f6, f7, f8, rfl, hI8, hb8⟩)
    | (go_at_call 11; (with_reducible refine (SH.out _).mono ?_); rintro e w9 ⟨rfl, rfl⟩))
  obtain ⟨WT, hWT⟩ : ∃ W, w8.alloc (.cells #[.string TA.lang, .slice f1 TA.extl.length f2, .string TA.script, .string TA.region, .slice f3 TA.vars.length f4, .slice f5 TA.exts.length f6, .slice f7 TA.priv.length f8, .string TA.grand] 29) = W := ⟨_, rfl⟩
  have hbT : Below w8.heap.size w8 WT := by rw [← hWT]; exact (Below.refl _ _).alloc (Nat.le_refl _) _
  have hT : WT.heap[w8.heap.size]? = some (.cells #[.string TA.lang, .slice f1 TA.extl.length f2, .string TA.script, .string TA.region, .slice f3 TA.vars.length f4, .slice f5 TA.exts.length f6, .slice f7 TA.priv.length f8, .string TA.grand] 29 (0, 0)) := by rw [← hWT]; exact World.alloc_heap_new w8 _
  have hlT := lt_of_heap hT
  have hBT := hb8.trans (hbT.mono hb8.size)
  have HBT := Lib.hid hBT
  have hIT := hI8.below hbT
  have HCT := Lib.hid (fun (w' : World) (hb : Below WT.heap.size WT w') => tag_cells ((hb.block _ hlT).trans hT))
  have LO := Lib.hid (fun w5 (hb : Below WT.heap.size WT w5) => (lowr_own (.agg #[.string TA.lang, .slice f1 TA.extl.length f2, .string TA.script, .string TA.region, .slice f3 TA.vars.length f4, .slice f5 TA.exts.length f6, .slice f7 TA.priv.length f8, .string TA.grand]) TA w5 (hIT.below hb) fA).mono (R' := fun e w7 => e = .returned (.string (joinS (subtagsT TA))) ∧ Below WT.heap.size WT w7) fun e w7 ⟨p, q⟩ => ⟨p, hb.trans (q.mono hb.size)⟩)
  have SO := Lib.hid (fun w5 (hb : Below WT.heap.size WT w5) => (stringr_own (.agg #[.string TA.lang, .slice f1 TA.extl.length f2, .string TA.script, .string TA.region, .slice f3 TA.vars.length f4, .slice f5 TA.exts.length f6, .slice f7 TA.priv.length f8, .string TA.grand]) TA w5 (hIT.below hb) fA).mono (R' := fun e w7 => e = .returned (.string (caseS (joinS (subtagsT TA)))) ∧ Below WT.heap.size WT w7) fun e w7 ⟨p, q⟩ => ⟨p, hb.trans (q.mono hb.size)⟩)
  have SR := Lib.hid (fun w5 (hb : Below WT.heap.size WT w5) => (stringr_ref (.agg #[.string TA.lang, .slice f1 TA.extl.length f2, .string TA.script, .string TA.region, .slice f3 TA.vars.length f4, .slice f5 TA.exts.length f6, .slice f7 TA.priv.length f8, .string TA.grand]) TA w5 (hIT.below hb) fA).mono (R' := fun e w7 => e = .returned (.string (caseS (joinS (subtagsT TA)))) ∧ Below WT.heap.size WT w7) fun e w7 ⟨p, q⟩ => ⟨p, hb.trans (q.mono hb.size)⟩)
  have RU := Lib.hid (fun w5 (hb : Below WT.heap.size WT w5) => (subtags_ref (.agg #[.string TA.lang, .slice f1 TA.extl.length f2, .string TA.script, .string TA.region, .slice f3 TA.vars.length f4, .slice f5 TA.exts.length f6, .slice f7 TA.priv.length f8, .string TA.grand]) TA w5 (hIT.below hb) fA.fits).mono (R' := fun e w7 => ∃ u, e = .returned u ∧ w7.ownsRow w5.heap.size 9 1 u (subtagsT TA).length (strs (subtagsT TA)) ∧ Below WT.heap.size WT w7) fun e w7 ⟨u, p, o, q⟩ => ⟨u, p, o, hb.trans (q.mono hb.size)⟩)
  have HL := Lib.hid (tiny_len8 fA)
  have HZ := Lib.hid (tiny_sizes fA)
  have HO := Lib.hid (fun (m : Int) w5 (hb : Below WT.heap.size WT w5) => (shortr_own (.agg #[.string TA.lang, .slice f1 TA.extl.length f2, .string TA.script, .string TA.region, .slice f3 TA.vars.length f4, .slice f5 TA.exts.length f6, .slice f7 TA.priv.length f8, .string TA.grand]) TA m w5 (hIT.below hb) fA).mono (R' := fun e w7 => e = .returned (.string (shortR (subtagsT TA) m)) ∧ Below WT.heap.size WT w7) fun e w7 ⟨p, q⟩ => ⟨by rw [p, short_text nA], hb.trans (q.mono hb.size)⟩)
  have HR := Lib.hid (fun (m : Int) w5 (hb : Below WT.heap.size WT w5) => (shortr_ref (.agg #[.string TA.lang, .slice f1 TA.extl.length f2, .string TA.script, .string TA.region, .slice f3 TA.vars.length f4, .slice f5 TA.exts.length f6, .slice f7 TA.priv.length f8, .string TA.grand]) TA m w5 (hIT.below hb) fA).mono (R' := fun e w7 => e = .returned (.string (shortR (subtagsT TA) m)) ∧ Below WT.heap.size WT w7) fun e w7 ⟨p, q⟩ => ⟨p, hb.trans (q.mono hb.size)⟩)
  have CO := Lib.hid (fun w5 (hb : Below WT.heap.size WT w5) => (case_any c80 w5 (by omega)).mono (R' := fun e w7 => e = .returned (.string (caseS c80)) ∧ Below WT.heap.size WT w7) fun e w7 ⟨p, q⟩ => ⟨p, hb.trans (q.mono hb.size)⟩)
  have CR := Lib.hid (fun w5 (hb : Below WT.heap.size WT w5) => (case_ref c80 w5 (by omega)).mono (R' := fun e w7 => e = .returned (.string (caseS c80)) ∧ Below WT.heap.size WT w7) fun e w7 ⟨p, q⟩ => ⟨p, hb.trans (q.mono hb.size)⟩)
  have ZO := Lib.hid (fun w5 (hb : Below WT.heap.size WT w5) => (show Calls Try.prog 15 #[.agg #[.string ⟨#[]⟩, .slice none 0 0, .string ⟨#[]⟩, .string ⟨#[]⟩, .slice none 0 0, .slice none 0 0, .slice none 0 0, .string ⟨#[]⟩]] w5 _ from stringr_own _ noT w5 (no_is w5 none) no_tiny).mono (R' := fun e w7 => e = .returned (.string ⟨#[]⟩) ∧ Below WT.heap.size WT w7) fun e w7 ⟨p, q⟩ => ⟨by rw [p, no_text], hb.trans (q.mono hb.size)⟩)
  clear hI8 hIT fA nA hb8 hb5 hbT hT q0 q1 q2 q3 q4 q5 q6 q7 hBT hcz
  generalize caseS (joinS (subtagsT TA)) = tc at *
  generalize caseS c80 = cc at *
  generalize shortR (subtagsT TA) = F at *
  rw [hWT]
  clear hWT
  have hB9 : Below WT.heap.size WT WT.drew := (Below.refl _ _).drew
  obtain ⟨q0, q1, q2, q3, q4, q5, q6, q7⟩ := HCT.out _ hB9
  go_region_held3 (fun w' => Below WT.heap.size WT w' ∧ w'.cell? ⟨w8.heap.size, 0, none⟩ = some (.string TA.lang) ∧ w'.cell? ⟨w8.heap.size, 1, none⟩ = some (.slice f1 TA.extl.length f2) ∧ w'.cell? ⟨w8.heap.size, 2, none⟩ = some (.string TA.script) ∧ w'.cell? ⟨w8.heap.size, 3, none⟩ = some (.string TA.region) ∧ w'.cell? ⟨w8.heap.size, 4, none⟩ = some (.slice f3 TA.vars.length f4) ∧ w'.cell? ⟨w8.heap.size, 5, none⟩ = some (.slice f5 TA.exts.length f6) ∧ w'.cell? ⟨w8.heap.size, 6, none⟩ = some (.slice f7 TA.priv.length f8) ∧ w'.cell? ⟨w8.heap.size, 7, none⟩ = some (.string TA.grand))
    (first | exact ⟨by assumption, by assumption, by assumption, by assumption, by assumption, by assumption, by assumption, by assumption, by assumption⟩ | exact ⟨by assumption, HCT.out _ (by assumption)⟩)
    (first
      | (go_at_call 12; (with_reducible refine (LO.out _ (by assumption)).mono ?_); rintro e w10 ⟨rfl, hB10⟩)
      | (go_at_call 14; (with_reducible refine (RU.out _ (by assumption)).mono ?_); rintro e w11 ⟨u, rfl, ho, hB11⟩; have JR := Lib.hid (joinRow8 ho (by have := HL.out; omega) (fun p hp => by have := HZ.out p hp; omega)); clear ho)
      | (go_at_call 13; (with_reducible refine JR.out.mono ?_); rintro e w12 ⟨rfl, rfl⟩)
      | (go_at_call 15; (with_reducible refine (SO.out _ (by assumption)).mono ?_); rintro e w13 ⟨rfl, hB13⟩)
      | (go_at_call 16; (with_reducible refine (SR.out _ (by assumption)).mono ?_); rintro e w14 ⟨rfl, hB14⟩)
      | (go_at_call 17; (with_reducible refine (CO.out _ (by assumption)).mono ?_); rintro e w15 ⟨rfl, hB15⟩)
      | (go_at_call 18; (with_reducible refine (CR.out _ (by assumption)).mono ?_); rintro e w16 ⟨rfl, hB16⟩)
      | (go_at_call 19; (with_reducible refine (HO.out _ _ (by assumption)).mono ?_); rintro e w17 ⟨rfl, hB17⟩)
      | (go_at_call 20; (with_reducible refine (HR.out _ _ (by assumption)).mono ?_); rintro e w18 ⟨rfl, hB18⟩)
      | (go_at_call 15; (with_reducible refine (ZO.out _ (by assumption)).mono ?_); rintro e w19 ⟨rfl, hB19⟩))
  all_goals
    (try go_wp2_with fail)
    go_ret
    exact ⟨rfl, HB2.out.trans ((HBT.out.trans (hB19.mono HBT.out.size)).mono hs2)⟩
end Go.Proofs.Ytggfdmhfcpabdaa
