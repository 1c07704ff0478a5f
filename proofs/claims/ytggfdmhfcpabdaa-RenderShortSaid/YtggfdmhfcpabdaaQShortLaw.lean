/-
  RenderShort: the walk of the law.
-/
import Derived.Test.YtggfdmhfcpabdaaQShortFacts
namespace Go.Proofs.Ytggfdmhfcpabdaa
open Go Go.RowKit

theorem own_sliceE {W : World} {base n : Nat} {e : TypeId} {u : Value} {xs : List Value} (h : W.ownsRow base e 1 u n xs) : ∃ a c, u = .slice a n c := by
  rcases owned_cases h with ⟨h1, h2⟩ | ⟨g, c, h1⟩
  · exact ⟨none, 0, by rw [h1, h2]⟩
  · exact ⟨_, _, h1⟩
theorem i64_and63 (n : Int) : bits .and .i64 n 63 = n % 64 := by
  have h7 : (BitVec.ofInt 64 63).toNat = 2 ^ 6 - 1 := by decide
  have key : (BitVec.ofInt 64 n &&& BitVec.ofInt 64 63).toNat = (n % ((2 ^ 64 : Nat) : Int)).toNat % 2 ^ 6 := by
    rw [BitVec.toNat_and, BitVec.toNat_ofInt, h7, Nat.and_two_pow_sub_one_eq_mod]
  show IntKind.i64.wrap ((BitVec.ofInt 64 n &&& BitVec.ofInt 64 63).toNat : Nat) = n % 64
  rw [key, IntKind.wrap_i64]
  omega
def tag8 (W : World) (B : Nat) (a b c d e f g h : Value) : Prop :=
  W.cell? ⟨B, 0, none⟩ = some a ∧ W.cell? ⟨B, 1, none⟩ = some b ∧ W.cell? ⟨B, 2, none⟩ = some c ∧ W.cell? ⟨B, 3, none⟩ = some d ∧ W.cell? ⟨B, 4, none⟩ = some e ∧ W.cell? ⟨B, 5, none⟩ = some f ∧ W.cell? ⟨B, 6, none⟩ = some g ∧ W.cell? ⟨B, 7, none⟩ = some h

set_option maxRecDepth 100000 in
set_option maxHeartbeats 8000000 in
theorem rshort_law (SA : SeedM) (va ka pa : Value) (n : Int) (w : World)
    (a1 : IntsA w va SA.vars) (a2 : IntsA w ka SA.keys) (a3 : IntsA w pa SA.priv) (a4 : -9223372036854775808 ≤ SA.extl) (a5 : SA.extl ≤ 9223372036854775807) (_hn : (Lit.int .i64 n).wf = true) :
    Calls Try.prog 6 #[.agg #[.int .i64 SA.lang, .int .i64 SA.extl, .int .i64 SA.script, .int .i64 SA.region, va, ka, pa, .int .i64 SA.odd], .int .i64 n] w fun e w' => e = .returned (.bool true) ∧ Below w.heap.size w w' := by
  obtain ⟨W2, hW2⟩ : ∃ W2, w.alloc (.cells #[.int .i64 SA.lang, .int .i64 SA.extl, .int .i64 SA.script, .int .i64 SA.region, va, ka, pa, .int .i64 SA.odd] 24) = W2 := ⟨_, rfl⟩
  have hb2 : Below w.heap.size w W2 := by rw [← hW2]; exact (Below.refl _ w).alloc (Nat.le_refl _) _
  have hA : W2.heap[w.heap.size]? = some (.cells #[.int .i64 SA.lang, .int .i64 SA.extl, .int .i64 SA.script, .int .i64 SA.region, va, ka, pa, .int .i64 SA.odd] 24 (0, 0)) := by rw [← hW2]; exact World.alloc_heap_new w _
  have hlA := lt_of_heap hA
  have AW := Lib.hid (fun w5 (hb : Below W2.heap.size W2 w5) => (awake8_any w5).mono (R' := fun e w6 => e = .returned (.bool true) ∧ Below W2.heap.size W2 w6 ∧ tag8 w6 w.heap.size (.int .i64 SA.lang) (.int .i64 SA.extl) (.int .i64 SA.script) (.int .i64 SA.region) va ka pa (.int .i64 SA.odd)) fun e w6 ⟨p, q⟩ => ⟨p, hb.trans (q.mono hb.size), tag_cells (((hb.trans (q.mono hb.size)).block _ hlA).trans hA)⟩)
  have fA := madeT_tiny SA
  have nA := tag_nd (madeT_nd SA)
  have pA := tag_pos (madeT_pos SA)
  obtain ⟨k, hk0, hand⟩ : ∃ k : Int, 0 ≤ k ∧ bits .and .i64 n 63 = k := ⟨n % 64, by omega, i64_and63 n⟩
  have MZ := Lib.hid (fun w5 (hb : Below W2.heap.size W2 w5) => (made_any SA va ka pa w5 ((a1.below hb2).below hb) ((a2.below hb2).below hb) ((a3.below hb2).below hb) a4 a5).mono (R' := fun e w7 => ∃ f1 f2 f3 f4 f5 f6 f7 f8, e = .returned (.agg #[.string (madeT SA).lang, .slice f1 (madeT SA).extl.length f2, .string (madeT SA).script, .string (madeT SA).region, .slice f3 (madeT SA).vars.length f4, .slice f5 (madeT SA).exts.length f6, .slice f7 (madeT SA).priv.length f8, .string (madeT SA).grand]) ∧ TagIs w7 (.agg #[.string (madeT SA).lang, .slice f1 (madeT SA).extl.length f2, .string (madeT SA).script, .string (madeT SA).region, .slice f3 (madeT SA).vars.length f4, .slice f5 (madeT SA).exts.length f6, .slice f7 (madeT SA).priv.length f8, .string (madeT SA).grand]) (madeT SA) ∧ Below W2.heap.size W2 w7) fun e w7 ⟨u, p, q, r⟩ => by
    obtain ⟨ae, ac, av, vc, ax, xc, ap, pc, rfl⟩ := tag_shape q
    exact ⟨ae, ac, av, vc, ax, xc, ap, pc, p, q, hb.trans (r.mono hb.size)⟩)
  have HB2 := Lib.hid hb2
  have hs2 := hb2.size
  clear a1 a2 a3 a4 a5 hA hlA hb2
  generalize madeT SA = TA at *
  go_enter Try.func6, Try.ntmps6
  go_upto_region 1 with fail
  clear hW2
  go_upto_region 3 with (first
    | (go_at_call 9; (with_reducible refine (AW.out _ (Below.refl _ _)).mono ?_); rintro e w5 ⟨rfl, hb5, ⟨q0, q1, q2, q3, q4, q5, q6, q7⟩⟩)
    | (go_at_call 10; (with_reducible refine (MZ.out _ hb5).mono ?_); rintro e w8 ⟨f1, f2, f3, f4, f5, f6, f7, f8, rfl, hI8, hb8⟩))
  obtain ⟨WT, hWT⟩ : ∃ W, w8.alloc (.cells #[.string TA.lang, .slice f1 TA.extl.length f2, .string TA.script, .string TA.region, .slice f3 TA.vars.length f4, .slice f5 TA.exts.length f6, .slice f7 TA.priv.length f8, .string TA.grand] 29) = W := ⟨_, rfl⟩
  have hbT : Below w8.heap.size w8 WT := by rw [← hWT]; exact (Below.refl _ _).alloc (Nat.le_refl _) _
  have hT : WT.heap[w8.heap.size]? = some (.cells #[.string TA.lang, .slice f1 TA.extl.length f2, .string TA.script, .string TA.region, .slice f3 TA.vars.length f4, .slice f5 TA.exts.length f6, .slice f7 TA.priv.length f8, .string TA.grand] 29 (0, 0)) := by rw [← hWT]; exact World.alloc_heap_new w8 _
  have hlT := lt_of_heap hT
  have hBT := hb8.trans (hbT.mono hb8.size)
  have HBT := Lib.hid hBT
  have hIT := hI8.below hbT
  have HCT := Lib.hid (fun (w' : World) (hb : Below WT.heap.size WT w') => tag_cells ((hb.block _ hlT).trans hT))
  obtain ⟨all, hall⟩ : ∃ x, caseS (joinS (subtagsT TA)) = x := ⟨_, rfl⟩
  obtain ⟨s, hsh⟩ : ∃ x, shortS all k = x := ⟨_, rfl⟩
  obtain ⟨sf, hsf⟩ : ∃ x, shortS all all.size = x := ⟨_, rfl⟩
  have SI := short_is nA pA hk0
  have SF := short_full nA
  rw [hall, hsh] at SI
  rw [hall, hsf] at SF
  have haz : all.size ≤ 10302 := by rw [← hall, size_caseS]; exact tiny_join8 fA
  have SO := Lib.hid (fun w5 (hb : Below WT.heap.size WT w5) => (stringr_own (.agg #[.string TA.lang, .slice f1 TA.extl.length f2, .string TA.script, .string TA.region, .slice f3 TA.vars.length f4, .slice f5 TA.exts.length f6, .slice f7 TA.priv.length f8, .string TA.grand]) TA w5 (hIT.below hb) fA).mono (R' := fun e w7 => e = .returned (.string all) ∧ Below WT.heap.size WT w7) fun e w7 ⟨p, q⟩ => ⟨by rw [p, hall], hb.trans (q.mono hb.size)⟩)
  have HO := Lib.hid (fun w5 (hb : Below WT.heap.size WT w5) => (shortr_own (.agg #[.string TA.lang, .slice f1 TA.extl.length f2, .string TA.script, .string TA.region, .slice f3 TA.vars.length f4, .slice f5 TA.exts.length f6, .slice f7 TA.priv.length f8, .string TA.grand]) TA k w5 (hIT.below hb) fA).mono (R' := fun e w7 => e = .returned (.string s) ∧ Below WT.heap.size WT w7) fun e w7 ⟨p, q⟩ => ⟨by rw [p, hall, hsh], hb.trans (q.mono hb.size)⟩)
  have HF := Lib.hid (fun w5 (hb : Below WT.heap.size WT w5) => (shortr_own (.agg #[.string TA.lang, .slice f1 TA.extl.length f2, .string TA.script, .string TA.region, .slice f3 TA.vars.length f4, .slice f5 TA.exts.length f6, .slice f7 TA.priv.length f8, .string TA.grand]) TA all.size w5 (hIT.below hb) fA).mono (R' := fun e w7 => e = .returned (.string sf) ∧ Below w5.heap.size w5 w7 ∧ Below WT.heap.size WT w7) fun e w7 ⟨p, q⟩ => ⟨by rw [p, hall, hsf], q, hb.trans (q.mono hb.size)⟩)
  obtain ⟨z1, z2, z3, z4, z5⟩ := SI
  have SP := Lib.hid (fun w5 (hb : Below WT.heap.size WT w5) => (split_ref s w5 (by omega)).mono (R' := fun e w7 => ∃ u, e = .returned u ∧ w7.ownsRow w5.heap.size 9 1 u (splS s).length (strs (splS s)) ∧ Below WT.heap.size WT w7) fun e w7 ⟨u, p, o, q⟩ => ⟨u, p, o, hb.trans (q.mono hb.size)⟩)
  have RU := Lib.hid (fun w5 (hb : Below WT.heap.size WT w5) => (subtags_ref (.agg #[.string TA.lang, .slice f1 TA.extl.length f2, .string TA.script, .string TA.region, .slice f3 TA.vars.length f4, .slice f5 TA.exts.length f6, .slice f7 TA.priv.length f8, .string TA.grand]) TA w5 (hIT.below hb) fA.fits).mono (R' := fun e w7 => ∃ u, e = .returned u ∧ w7.ownsRow w5.heap.size 9 1 u (subtagsT TA).length (strs (subtagsT TA)) ∧ Below w5.heap.size w5 w7 ∧ Below WT.heap.size WT w7) fun e w7 ⟨u, p, o, q⟩ => ⟨u, p, o, q, hb.trans (q.mono hb.size)⟩)
  have HL := Lib.hid (tiny_len8 fA)
  have HLE := Lib.hid (splS_le s)
  have HSZ := Lib.hid z1
  clear hI8 hIT fA nA pA hb8 hb5 hbT hT q0 q1 q2 q3 q4 q5 q6 q7 hBT hall hsh hsf hk0
  generalize subtagsT TA = P at *
  generalize splS s = L at *
  rw [hWT]
  clear hWT
  have hBW : Below WT.heap.size WT WT := Below.refl _ _
  obtain ⟨q0, q1, q2, q3, q4, q5, q6, q7⟩ := HCT.out _ hBW
  go_upto_region 6 with (first
    | (go_at_call 15; (with_reducible refine (SO.out _ (by assumption)).mono ?_); rintro e w10 ⟨rfl, hB10⟩; obtain ⟨p0, p1, p2, p3, p4, p5, p6, p7⟩ := HCT.out _ hB10)
    | (go_at_call 19; (with_reducible refine (HO.out _ (by assumption)).mono ?_); rintro e w11 ⟨rfl, hB11⟩; obtain ⟨r0, r1, r2, r3, r4, r5, r6, r7⟩ := HCT.out _ hB11))
  have n1 : ¬ (all.size : Int) < (s.size : Int) := by omega
  have n2 : ¬ k < (s.size : Int) := by omega
  have n3 : (s.size : Int) ≤ (all.size : Int) := by omega
  have n4 : (0 : Int) ≤ (s.size : Int) := by omega
  obtain ⟨l0, x, hL, hx⟩ := z5
  obtain ⟨m, hm⟩ : ∃ m, l0.length = m := ⟨_, rfl⟩
  have hml : L.length = m + 1 := by rw [hL, List.length_append, hm]; rfl
  have HX := Lib.hid (show L[m]? = some x by rw [hL, ← hm]; simp)
  have hm0 : (m = 0) ∨ (1 ≤ m ∧ 1 < x.size) := by
    rcases hx with h | h
    · left; rw [← hm, h]; rfl
    · rcases Nat.eq_zero_or_pos m with h0 | h0
      · exact .inl h0
      · exact .inr ⟨h0, h⟩
  have HM0 := Lib.hid hm0
  have hmb : (m : Int) ≤ 10303 := by have := HLE.out; omega
  have hm1 : (0 : Int) ≤ (m : Int) := by omega
  rw [hml] at SP
  clear hL hm hx hml hm0 z1 z2 p0 p1 p2 p3 p4 p5 p6 p7 q0 q1 q2 q3 q4 q5 q6 q7
  have hcs : s.size = 0 ∨ (0 < s.size ∧ s.size = all.size) ∨ (0 < s.size ∧ ∃ h : s.size < all.size, all[s.size] = 45) := by
    rcases z4 with h | h | h
    · exact .inl h
    · rcases Nat.eq_zero_or_pos s.size with h0 | h0
      · exact .inl h0
      · exact .inr (.inl ⟨h0, h⟩)
    · rcases Nat.eq_zero_or_pos s.size with h0 | h0
      · exact .inl h0
      · exact .inr (.inr ⟨h0, h⟩)
  clear z4
  rcases hcs with h0 | ⟨h0, hEq⟩ | ⟨h0, hlt, h45⟩
  case' inl =>
    have he := empty_true h0
    clear h0
  case' inr.inl =>
    have he := empty_false h0
    have hlt' : ¬ (s.size : Int) < (all.size : Int) := by omega
    clear h0 hEq
  case' inr.inr =>
    have he := empty_false h0
    have hlt' : (s.size : Int) < (all.size : Int) := by omega
    have hmk := (mark_true h45).2
    clear h0 h45
  all_goals
    go_upto_region 8 with fail
    rcases HM0.out with hm0 | ⟨hm0, hx1⟩
    case' inl =>
      have hl1 : ((m : Int) + 1 == 1) = true := by rw [beq_iff_eq]; omega
      clear hm0
    case' inr =>
      have hl1 : ((m : Int) + 1 == 1) = false := by rw [beq_eq_false_iff_ne]; omega
      have hx2 : (1 : Int) < (x.size : Int) := by omega
      clear hm0 hx1
  all_goals
    by_cases hsf : sf = all
    · subst hsf
      clear SF
      go_wp2_with (first
        | (go_at_call 26; (with_reducible refine (SP.out _ (by assumption)).mono ?_); rintro e w12 ⟨u1, rfl, ho1, hB12⟩; obtain ⟨g1, cap1, rfl⟩ := ownsRow_succ ho1; have hc12 := own_cell ho1 m x HX.out; clear ho1; obtain ⟨y0, y1, y2, y3, y4, y5, y6, y7⟩ := HCT.out _ hB12)
        | (go_at_call 14; (with_reducible refine (RU.out _ (by assumption)).mono ?_); rintro e w13 ⟨u2, rfl, ho2, hb13, hB13⟩; obtain ⟨a2, c2, rfl⟩ := own_sliceE ho2; clear ho2; obtain ⟨t0, t1, t2, t3, t4, t5, t6, t7⟩ := HCT.out _ hB13)
        | (go_at_call 19; (with_reducible refine (HF.out _ (by assumption)).mono ?_); rintro e w14 ⟨rfl, hb14, hB14⟩))
      go_ret
      exact ⟨rfl, HB2.out.trans ((HBT.out.trans (hB14.mono HBT.out.size)).mono hs2)⟩
    · obtain ⟨l1, x1, hP, hl1', hx1'⟩ := SF.resolve_left hsf
      have hne := toList_ne hsf
      obtain ⟨q, hq⟩ : ∃ q, l1.length = q + 1 := ⟨l1.length - 1, by have := List.length_pos_iff.2 hl1'; omega⟩
      have hPl : P.length = q + 2 := by rw [hP, List.length_append, hq]; rfl
      have HX1 := Lib.hid (show P[q + 1]? = some x1 by rw [hP, ← hq]; simp)
      have hqb : (q : Int) ≤ 102 := by have := HL.out; omega
      have hq0 : (0 : Int) ≤ (q : Int) := by omega
      have hz1 : ((x1.size : Int) == 1) = true := by rw [beq_iff_eq]; omega
      have hq2 : (1 : Int) < (q : Int) + 2 := by omega
      rw [hPl] at RU
      clear SF hsf hP hl1' hx1' hq hPl
      go_wp2_with (first
        | (go_at_call 26; (with_reducible refine (SP.out _ (by assumption)).mono ?_); rintro e w12 ⟨u1, rfl, ho1, hB12⟩; obtain ⟨g1, cap1, rfl⟩ := ownsRow_succ ho1; have hc12 := own_cell ho1 m x HX.out; clear ho1; obtain ⟨y0, y1, y2, y3, y4, y5, y6, y7⟩ := HCT.out _ hB12)
        | (go_at_call 14; (with_reducible refine (RU.out _ (by assumption)).mono ?_); rintro e w13 ⟨u2, rfl, ho2, hb13, hB13⟩; obtain ⟨g2, cap2, rfl⟩ := ownsRow_succ ho2; have hc13 := own_cell ho2 (q + 1) x1 HX1.out; have hl13 := (ho2.lt g2 rfl).2; clear ho2; obtain ⟨t0, t1, t2, t3, t4, t5, t6, t7⟩ := HCT.out _ hB13)
        | (go_at_call 19; (with_reducible refine (HF.out _ (by assumption)).mono ?_); rintro e w14 ⟨rfl, hb14, hB14⟩; have hc14 := (hb14.cell (p := ⟨g2, q + 1, none⟩) hl13).trans hc13))
      go_ret
      exact ⟨rfl, HB2.out.trans ((HBT.out.trans (hB14.mono HBT.out.size)).mono hs2)⟩
end Go.Proofs.Ytggfdmhfcpabdaa
