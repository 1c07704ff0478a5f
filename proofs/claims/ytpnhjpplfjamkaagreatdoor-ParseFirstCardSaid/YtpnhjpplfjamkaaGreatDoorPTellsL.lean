/-
  ParseTells: texts are parsed, or refused: with the kind, the place, and what is wrong. (Printed by wip/gen_ptells.py.)
-/
import Derived.Test.YtpnhjpplfjamkaaGreatDoorPTellsA
import Derived.Test.YtpnhjpplfjamkaaGreatDoorPHelp
import Derived.Test.YtpnhjpplfjamkaaGreatDoorKTags
import Derived.Test.YtpnhjpplfjamkaaGreatDoorECasesLaw
namespace Go.Proofs.YtpnhjpplfjamkaaGreatDoor
open Go Go.RowKit

theorem text_size3 {T : TagM} (h : TagTiny T) : (joinS (subtagsT T)).size ≤ 30000 := by
  have h1 := joinS_size 100 (subtagsT T) (tiny_sizes h)
  have h2 := tiny_len h
  omega
set_option maxRecDepth 1000000 in
set_option maxHeartbeats 16000000 in
theorem parseTells_law (SA : SeedM) (s : ByteArray) (va ka pa : Value) (q0 q1 q2 : Int) (w : World) (hs : s.size ≤ maxLen)
    (a1 : IntsA w va SA.vars) (a2 : IntsA w ka SA.keys) (a3 : IntsA w pa SA.priv) (a4 : -9223372036854775808 ≤ SA.extl) (a5 : SA.extl ≤ 9223372036854775807)
    (_x0 : (Lit.int .i64 q0).wf = true) (_x1 : (Lit.int .i64 q1).wf = true) (_x2 : (Lit.int .i64 q2).wf = true) (hl : ParseLaid w) :
    Calls Tryz.prog 3 #[.string s, .agg #[.int .i64 SA.lang, .int .i64 SA.extl, .int .i64 SA.script, .int .i64 SA.region, va, ka, pa, .int .i64 SA.odd], .agg #[.int .i64 q0, .int .i64 q1, .int .i64 q2]] w fun e w' => e = .returned (.bool true) ∧ Below w.heap.size w w' := by
  obtain ⟨W2, hW2⟩ : ∃ W2, (w.alloc (.cells #[.int .i64 SA.lang, .int .i64 SA.extl, .int .i64 SA.script, .int .i64 SA.region, va, ka, pa, .int .i64 SA.odd] 24)).alloc (.cells #[.int .i64 q0, .int .i64 q1, .int .i64 q2] 25) = W2 := ⟨_, rfl⟩
  have hb2 : Below w.heap.size w W2 := by rw [← hW2]; exact ((Below.refl _ w).alloc (Nat.le_refl _) _).alloc (by simp) _
  have hA : W2.heap[w.heap.size]? = some (.cells #[.int .i64 SA.lang, .int .i64 SA.extl, .int .i64 SA.script, .int .i64 SA.region, va, ka, pa, .int .i64 SA.odd] 24 (0, 0)) := by rw [← hW2]; exact (Below.heap_alloc _ _ _ (by simp)).trans (World.alloc_heap_new w _)
  have hBx : W2.heap[w.heap.size + 1]? = some (.cells #[.int .i64 q0, .int .i64 q1, .int .i64 q2] 25 (0, 0)) := by rw [← hW2]; exact heap_alloc2_new w _ _
  have hlB := lt_of_heap hBx
  have HC := Lib.hid (fun (w' : World) (hb : Below W2.heap.size W2 w') => And.intro (tag_cells ((hb.block _ (by omega)).trans hA)) (And.intro (rd_cell 0 ((hb.block _ hlB).trans hBx) (v := .int .i64 q0) rfl) (And.intro (rd_cell 1 ((hb.block _ hlB).trans hBx) (v := .int .i64 q1) rfl) (rd_cell 2 ((hb.block _ hlB).trans hBx) (v := .int .i64 q2) rfl))))
  have HB2 := Lib.hid hb2
  have hl2 := hl.below hb2
  have AW := Lib.hid (awakeP_law W2 hl2)
  have hc80 := size_cut80 s
  have SH := Lib.hid (fun w5 => short7_any s w5 hs)
  have TL := Lib.hid (fun (t : ByteArray) (ht : t.size ≤ 40000) w5 (hb : Below W2.heap.size W2 w5) => (tells7_any t w5 ht (hl2.below hb)).mono (R' := fun e w7 => e = .returned (.bool true) ∧ Below W2.heap.size W2 w7) fun e w7 ⟨p, q⟩ => ⟨p, hb.trans (q.mono hb.size)⟩)
  have fA := madeT_tiny SA
  have MZ := Lib.hid (fun w5 (hb : Below W2.heap.size W2 w5) => (made_any SA va ka pa w5 ((a1.below hb2).below hb) ((a2.below hb2).below hb) ((a3.below hb2).below hb) a4 a5).mono (R' := fun e w7 => ∃ f1 f2 f3 f4 f5 f6 f7 f8, e = .returned (.agg #[.string (madeT SA).lang, .slice f1 (madeT SA).extl.length f2, .string (madeT SA).script, .string (madeT SA).region, .slice f3 (madeT SA).vars.length f4, .slice f5 (madeT SA).exts.length f6, .slice f7 (madeT SA).priv.length f8, .string (madeT SA).grand]) ∧ TagIs w7 (.agg #[.string (madeT SA).lang, .slice f1 (madeT SA).extl.length f2, .string (madeT SA).script, .string (madeT SA).region, .slice f3 (madeT SA).vars.length f4, .slice f5 (madeT SA).exts.length f6, .slice f7 (madeT SA).priv.length f8, .string (madeT SA).grand]) (madeT SA) ∧ Below W2.heap.size W2 w7) fun e w7 ⟨u, p, q, r⟩ => by
    obtain ⟨ae, ac, av, vc, ax, xc, ap, pc, rfl⟩ := tag_shape q
    exact ⟨ae, ac, av, vc, ax, xc, ap, pc, p, q, hb.trans (r.mono hb.size)⟩)
  have htx := text_size3 fA
  have SP := Lib.hid (fun (z : ByteArray) (hz : z.size ≤ 30000) w5 (hb : Below W2.heap.size W2 w5) => (spoilt7_any z q0 q1 q2 w5 (by omega)).mono (R' := fun e w7 => (∃ t, e = .returned (.string t) ∧ t.size ≤ 40000) ∧ Below W2.heap.size W2 w7) fun e w7 ⟨⟨t, p, p2⟩, q⟩ => ⟨⟨t, p, by omega⟩, hb.trans (q.mono hb.size)⟩)
  have TZ := Lib.hid (fun w5 (v : Value) (hT : TagIs w5 v (madeT SA)) (hb : Below W2.heap.size W2 w5) => (text_ref v (madeT SA) w5 hT fA).mono (R' := fun e w7 => e = .returned (.string (joinS (subtagsT (madeT SA)))) ∧ Below W2.heap.size W2 w7) fun e w7 ⟨p, q⟩ => ⟨p, hb.trans (q.mono hb.size)⟩)
  have hs2 := hb2.size
  obtain ⟨hk1, hk2, hk3, hk⟩ := pick_facts 26 q1 (by decide)
  have RS := Lib.hid (fun w5 => show Calls Tryz.prog 10 #[.int .i64 q1, .int .i64 26] w5 (fun e w' => e = .returned (.int .i64 (pickI 26 q1 : Int)) ∧ w5 = w') from rest7_any q1 26 w5 (by decide) (by decide))
  generalize pickI 26 q1 = kg at *
  have NM := Lib.hid (fun w5 => name5_any kg hk w5)
  have LS := Lib.hid (fun w5 (hb : Below W2.heap.size W2 w5) => (list_any w5).mono (R' := fun e w7 => ∃ gl, e = .returned (.slice (some ⟨gl, 0, none⟩) 26 26) ∧ (∀ w9, Below w7.heap.size w7 w9 → w9.cell? ⟨gl, kg, none⟩ = some (.string (starG kg))) ∧ Below W2.heap.size W2 w7) fun e w7 ⟨p, q, r, o⟩ => ⟨_, p, fun w9 h9 => (q.below h9 o) kg hk, hb.trans (r.mono hb.size)⟩)
  have hng := (name_size kg hk).2
  have UP := Lib.hid (fun w5 (hb : Below W2.heap.size W2 w5) => (upper_ref (nameG kg) w5 (by omega)).mono (R' := fun e w7 => e = .returned (.string (upS (nameG kg))) ∧ Below W2.heap.size W2 w7) fun e w7 ⟨p, q⟩ => ⟨p, hb.trans (q.mono hb.size)⟩)
  have hug : (upS (nameG kg)).size ≤ 40000 := by rw [size_upS]; omega
  have hk0 : (0 : Int) ≤ (kg : Int) := by omega
  have hki : (kg : Int) < 26 := by omega
  clear a1 a2 a3 a4 a5 hs hA hBx hb2 hl hl2 fA hk1 hk2 hk3 hk
  generalize joinS (subtagsT (madeT SA)) = tx at *
  generalize madeT SA = TA at *
  generalize cut80 s = c80 at *
  generalize upS (nameG kg) = ug at *
  generalize nameG kg = ng at *
  generalize starG kg = sg at *
  have hc4 : c80.size ≤ 40000 := by omega
  have ht4 : tx.size ≤ 40000 := by omega
  have hn3 : ng.size ≤ 30000 := by omega
  have o1 : ¬ 9223372036854775807 < tx.size + ({ data := #[45] } : ByteArray).size := by show ¬ 9223372036854775807 < tx.size + 1; omega
  have hx4 : (tx ++ { data := #[45] } ++ c80).size ≤ 40000 := by rw [ByteArray.size_append, ByteArray.size_append]; show tx.size + 1 + c80.size ≤ 40000; omega
  have o2 : ¬ 9223372036854775807 < (tx ++ { data := #[45] }).size + c80.size := by rw [ByteArray.size_append]; show ¬ 9223372036854775807 < tx.size + 1 + c80.size; omega
  go_enter Tryz.func3, Tryz.ntmps3
  go_upto_region 1 with fail
  clear hW2
  have W0b : Below W2.heap.size W2 W2 := Below.refl _ _
  go_upto_region 3 with (first
    | (go_at_call 5; (with_reducible refine AW.out.mono ?_); rintro e w5 ⟨rfl, hb5⟩; obtain ⟨⟨m0, m1, m2, m3, m4, m5, m6, m7⟩, -⟩ := HC.out _ hb5)
    | (go_at_call 7; (with_reducible refine (MZ.out _ (by assumption)).mono ?_); rintro e w8 ⟨f1, f2, f3, f4, f5, f6, f7, f8, rfl, hI8, hb8⟩; have TX := Lib.hid (TZ.out w8 _ hI8 hb8))
    | (go_at_call 6; (with_reducible refine TX.out.mono ?_); rintro e w9 ⟨rfl, hb9⟩))
  clear m0 m1 m2 m3 m4 m5 m6 m7
  go_upto_region 5 with (first
    | (go_at_call 8; (with_reducible refine (LS.out _ hb9).mono ?_); rintro e w10 ⟨gl, rfl, hlg, hb10⟩; have hcl := hlg _ (Below.refl _ _); obtain ⟨-, z0, z1, z2⟩ := HC.out _ hb10)
    | (go_at_call 10; (with_reducible refine (RS.out _).mono ?_); rintro e w11 ⟨rfl, rfl⟩)
    | (go_at_call 9; (with_reducible refine (NM.out _).mono ?_); rintro e w12 ⟨rfl, rfl⟩))
  go_wp2_with (first
    | (go_at_call 12; (with_reducible refine (SH.out _).mono ?_); rintro e w13 ⟨rfl, rfl⟩)
    | (go_at_call 11; (with_reducible refine (TL.out _ (by assumption) _ (by assumption)).mono ?_); rintro e w14 ⟨rfl, hb14⟩; obtain ⟨-, z0, z1, z2⟩ := HC.out _ hb14)
    | (go_at_call 13; (with_reducible refine (SP.out _ (by assumption) _ (by assumption)).mono ?_); rintro e w15 ⟨⟨t, rfl, ht⟩, hb15⟩; obtain ⟨-, z0, z1, z2⟩ := HC.out _ hb15)
    | (go_at_call 14; (with_reducible refine (UP.out _ (by assumption)).mono ?_); rintro e w16 ⟨rfl, hb16⟩; obtain ⟨-, z0, z1, z2⟩ := HC.out _ hb16))
  go_ret
  exact ⟨rfl, HB2.out.trans (hb14.mono hs2)⟩
end Go.Proofs.YtpnhjpplfjamkaaGreatDoor
