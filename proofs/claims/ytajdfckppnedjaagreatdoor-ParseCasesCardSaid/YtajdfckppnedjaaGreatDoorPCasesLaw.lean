/-
  ParseCases: the walk of the law.
-/
import Derived.Test.YtajdfckppnedjaaGreatDoorPCasesW
import Derived.Deep.RegionHeld3
namespace Go.Proofs.YtajdfckppnedjaaGreatDoor
open Go Go.RowKit

theorem text_size {T : TagM} (h : TagTiny T) : (joinS (subtagsT T)).size ≤ 30000 := by
  have h1 := joinS_size 100 (subtagsT T) (tiny_sizes h)
  have h2 := tiny_len h
  omega

set_option maxRecDepth 100000 in
set_option maxHeartbeats 8000000 in
theorem parseCases_law (SA : SeedM) (s : ByteArray) (va ka pa : Value) (q0 q1 q2 q3 : Int) (w : World) (hs : s.size ≤ maxLen)
    (a1 : IntsA w va SA.vars) (a2 : IntsA w ka SA.keys) (a3 : IntsA w pa SA.priv) (a4 : -9223372036854775808 ≤ SA.extl) (a5 : SA.extl ≤ 9223372036854775807)
    (_x0 : (Lit.int .i64 q0).wf = true) (_x1 : (Lit.int .i64 q1).wf = true) (_x2 : (Lit.int .i64 q2).wf = true) (_x3 : (Lit.int .i64 q3).wf = true) (hl : ParseLaid w) :
    Calls Tryz.prog 9 #[.string s, .agg #[.int .i64 SA.lang, .int .i64 SA.extl, .int .i64 SA.script, .int .i64 SA.region, va, ka, pa, .int .i64 SA.odd], .agg #[.int .i64 q0, .int .i64 q1, .int .i64 q2, .int .i64 q3]] w fun e w' => e = .returned (.bool true) ∧ Below w.heap.size w w' := by
  obtain ⟨W2, hW2⟩ : ∃ W2, (w.alloc (.cells #[.int .i64 SA.lang, .int .i64 SA.extl, .int .i64 SA.script, .int .i64 SA.region, va, ka, pa, .int .i64 SA.odd] 28)).alloc (.cells #[.int .i64 q0, .int .i64 q1, .int .i64 q2, .int .i64 q3] 51) = W2 := ⟨_, rfl⟩
  have hb2 : Below w.heap.size w W2 := by rw [← hW2]; exact ((Below.refl _ w).alloc (Nat.le_refl _) _).alloc (by simp) _
  have hA : W2.heap[w.heap.size]? = some (.cells #[.int .i64 SA.lang, .int .i64 SA.extl, .int .i64 SA.script, .int .i64 SA.region, va, ka, pa, .int .i64 SA.odd] 28 (0, 0)) := by rw [← hW2]; exact (Below.heap_alloc _ _ _ (by simp)).trans (World.alloc_heap_new w _)
  have hBx : W2.heap[w.heap.size + 1]? = some (.cells #[.int .i64 q0, .int .i64 q1, .int .i64 q2, .int .i64 q3] 51 (0, 0)) := by rw [← hW2]; exact heap_alloc2_new w _ _
  have hlB := lt_of_heap hBx
  have HC := Lib.hid (fun (w' : World) (hb : Below W2.heap.size W2 w') => And.intro (tag_cells ((hb.block _ (by omega)).trans hA)) (And.intro (rd_cell 0 ((hb.block _ hlB).trans hBx) (v := .int .i64 q0) rfl) (And.intro (rd_cell 1 ((hb.block _ hlB).trans hBx) (v := .int .i64 q1) rfl) (And.intro (rd_cell 2 ((hb.block _ hlB).trans hBx) (v := .int .i64 q2) rfl) (rd_cell 3 ((hb.block _ hlB).trans hBx) (v := .int .i64 q3) rfl)))))
  have HB2 := Lib.hid hb2
  have hl2 := hl.below hb2
  have AW := Lib.hid (awakeP_law W2 hl2)
  have hc80 := size_cut80 s
  have SH := Lib.hid (fun w5 => short7_any s w5 hs)
  have C1 := Lib.hid (fun w5 (hb : Below W2.heap.size W2 w5) => (cases7_any (cut80 s) q3 w5 (by omega) (hl2.below hb)).mono (R' := fun e w7 => e = .returned (.bool true) ∧ Below W2.heap.size W2 w7) fun e w7 ⟨p, q⟩ => ⟨p, hb.trans (q.mono hb.size)⟩)
  have C2 := Lib.hid (fun (t : ByteArray) (ht : t.size ≤ 30001) w5 (hb : Below W2.heap.size W2 w5) => (cases7_any t q3 w5 (by omega) (hl2.below hb)).mono (R' := fun e w7 => e = .returned (.bool true) ∧ Below W2.heap.size W2 w7) fun e w7 ⟨p, q⟩ => ⟨p, hb.trans (q.mono hb.size)⟩)
  have fA := madeT_tiny SA
  have MZ := Lib.hid (fun w5 (hb : Below W2.heap.size W2 w5) => (made_any SA va ka pa w5 ((a1.below hb2).below hb) ((a2.below hb2).below hb) ((a3.below hb2).below hb) a4 a5).mono (R' := fun e w7 => ∃ f1 f2 f3 f4 f5 f6 f7 f8, e = .returned (.agg #[.string (madeT SA).lang, .slice f1 (madeT SA).extl.length f2, .string (madeT SA).script, .string (madeT SA).region, .slice f3 (madeT SA).vars.length f4, .slice f5 (madeT SA).exts.length f6, .slice f7 (madeT SA).priv.length f8, .string (madeT SA).grand]) ∧ TagIs w7 (.agg #[.string (madeT SA).lang, .slice f1 (madeT SA).extl.length f2, .string (madeT SA).script, .string (madeT SA).region, .slice f3 (madeT SA).vars.length f4, .slice f5 (madeT SA).exts.length f6, .slice f7 (madeT SA).priv.length f8, .string (madeT SA).grand]) (madeT SA) ∧ Below W2.heap.size W2 w7) fun e w7 ⟨u, p, q, r⟩ => by
    obtain ⟨ae, ac, av, vc, ax, xc, ap, pc, rfl⟩ := tag_shape q
    exact ⟨ae, ac, av, vc, ax, xc, ap, pc, p, q, hb.trans (r.mono hb.size)⟩)
  have htx := text_size fA
  have SP := Lib.hid (fun w5 (hb : Below W2.heap.size W2 w5) => (spoilt7_any (joinS (subtagsT (madeT SA))) q0 q1 q2 w5 (by omega)).mono (R' := fun e w7 => (∃ t, e = .returned (.string t) ∧ t.size ≤ 30001) ∧ Below W2.heap.size W2 w7) fun e w7 ⟨⟨t, p, p2⟩, q⟩ => ⟨⟨t, p, by omega⟩, hb.trans (q.mono hb.size)⟩)
  have TZ := Lib.hid (fun w5 (v : Value) (hT : TagIs w5 v (madeT SA)) (hb : Below W2.heap.size W2 w5) => (text_ref v (madeT SA) w5 hT fA).mono (R' := fun e w7 => e = .returned (.string (joinS (subtagsT (madeT SA)))) ∧ Below W2.heap.size W2 w7) fun e w7 ⟨p, q⟩ => ⟨p, hb.trans (q.mono hb.size)⟩)
  have hs2 := hb2.size
  clear a1 a2 a3 a4 a5 hs hA hBx hb2 hl hl2 fA htx hc80
  generalize joinS (subtagsT (madeT SA)) = tx at *
  generalize madeT SA = TA at *
  generalize cut80 s = c80 at *
  go_enter Tryz.func9, Tryz.ntmps9
  go_upto_region 1 with fail
  clear hW2
  go_wp2_with fail
  refine AW.out.mono ?_
  rintro e w5 ⟨rfl, hb5⟩
  have hBd : Below W2.heap.size W2 w5.drew := hb5.drew
  go_upto_region 2 with fail
  go_region_held3 (fun w' => Below W2.heap.size W2 w' ∧ (w'.cell? ⟨w.heap.size, 0, none⟩ = some (.int .i64 SA.lang) ∧ w'.cell? ⟨w.heap.size, 1, none⟩ = some (.int .i64 SA.extl) ∧ w'.cell? ⟨w.heap.size, 2, none⟩ = some (.int .i64 SA.script) ∧ w'.cell? ⟨w.heap.size, 3, none⟩ = some (.int .i64 SA.region) ∧ w'.cell? ⟨w.heap.size, 4, none⟩ = some va ∧ w'.cell? ⟨w.heap.size, 5, none⟩ = some ka ∧ w'.cell? ⟨w.heap.size, 6, none⟩ = some pa ∧ w'.cell? ⟨w.heap.size, 7, none⟩ = some (.int .i64 SA.odd)) ∧ w'.cell? ⟨w.heap.size + 1, 0, none⟩ = some (.int .i64 q0) ∧ w'.cell? ⟨w.heap.size + 1, 1, none⟩ = some (.int .i64 q1) ∧ w'.cell? ⟨w.heap.size + 1, 2, none⟩ = some (.int .i64 q2) ∧ w'.cell? ⟨w.heap.size + 1, 3, none⟩ = some (.int .i64 q3))
    (first | exact ⟨by assumption, HC.out _ (by assumption)⟩)
    (first
      | (go_at_call 26; (with_reducible refine (SH.out _).mono ?_); rintro e w6 ⟨rfl, rfl⟩)
      | (go_at_call 33; (with_reducible refine (C1.out _ (by assumption)).mono ?_); rintro e w7 ⟨rfl, hb7⟩)
      | (go_at_call 14; (with_reducible refine (MZ.out _ (by assumption)).mono ?_); rintro e w8 ⟨f1, f2, f3, f4, f5, f6, f7, f8, rfl, hI8, hb8⟩; have TX := Lib.hid (TZ.out w8 _ hI8 hb8))
      | (go_at_call 21; (with_reducible refine TX.out.mono ?_); rintro e w9 ⟨rfl, hb9⟩)
      | (go_at_call 27; (with_reducible refine (SP.out _ (by assumption)).mono ?_); rintro e w10 ⟨⟨t, rfl, ht⟩, hb10⟩)
      | (go_at_call 33; (with_reducible refine (C2.out t ht _ (by assumption)).mono ?_); rintro e w11 ⟨rfl, hb11⟩))
  all_goals
    go_wp2_with fail
    go_ret
    exact ⟨rfl, HB2.out.trans (hb11.mono hs2)⟩
end Go.Proofs.YtajdfckppnedjaaGreatDoor
