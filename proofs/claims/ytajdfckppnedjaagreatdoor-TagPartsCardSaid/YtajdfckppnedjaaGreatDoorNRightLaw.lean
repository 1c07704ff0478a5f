/-
  TagRight: the walk of the law.
-/
import Derived.Test.YtajdfckppnedjaaGreatDoorNRight
import Derived.Test.YtajdfckppnedjaaGreatDoorKinds
namespace Go.Proofs.YtajdfckppnedjaaGreatDoor
open Go Go.RowKit

theorem right_ref' (v : Value) (T : TagM) (w : World) (hT : TagIs w v T) (hF : TagTiny T) :
    Calls Tryz.prog 16 #[v] w fun e w' => e = .returned (.bool (rightT T)) ∧ Below w.heap.size w w' :=
  right_ref v T w hT hF.fits (by have := tiny_len hF; omega) (fun x hx => by
    rcases List.mem_append.1 hx with h | h
    · have := tiny_sizes hF x h; omega
    · simp only [List.mem_cons, List.not_mem_nil, or_false] at h
      have h1 := hF.sl; have h2 := hF.ss; have h3 := hF.sr
      rcases h with rfl | rfl | rfl <;> omega) (fun x hx => by have := hF.sp x hx; omega) (fun x hx => by have := hF.sv x hx; omega) (fun x hx => ⟨by have := (hF.sx x hx).1; omega, fun y hy => by have := (hF.sx x hx).2.2 y hy; omega⟩) (fun x hx => by have := hF.se x hx; omega)
theorem no_tiny : TagTiny noT := ⟨by decide, by decide, by decide, by decide, by decide, by decide, by decide, by decide, fun x h => by simp [noT] at h, fun x h => by simp [noT] at h, fun x h => by simp [noT] at h, fun x h => by simp [noT] at h⟩
theorem no_right : rightT noT = false := by
  have h : plainT noT = true := by decide +kernel
  unfold rightT
  rw [if_pos (show noT.grand.size = 0 from rfl), if_pos (show noT.lang.size = 0 from rfl)]
  simp [noT]

set_option maxRecDepth 100000 in
set_option maxHeartbeats 8000000 in
theorem right_law (SA : SeedM) (l s r g : ByteArray) (ve vv vx vp : Value) (E V : List ByteArray) (X : List (ByteArray × List ByteArray)) (P : List ByteArray) (va ka pa : Value) (w : World)
    (hl : l.size ≤ maxLen) (hs : s.size ≤ maxLen) (hr : r.size ≤ maxLen) (hg : g.size ≤ maxLen) (hE : RowA w ve E) (hV : RowA w vv V) (hX : ExtA w vx X) (hP : RowA w vp P)
    (a1 : IntsA w va SA.vars) (a2 : IntsA w ka SA.keys) (a3 : IntsA w pa SA.priv) (a4 : -9223372036854775808 ≤ SA.extl) (a5 : SA.extl ≤ 9223372036854775807) (hgl : GL w) :
    Calls Tryz.prog 3 #[.agg #[.string l, ve, .string s, .string r, vv, vx, vp, .string g], .agg #[.int .i64 SA.lang, .int .i64 SA.extl, .int .i64 SA.script, .int .i64 SA.region, va, ka, pa, .int .i64 SA.odd]] w fun e w' => e = .returned (.bool true) ∧ Below w.heap.size w w' := by
  obtain ⟨W2, hW2⟩ : ∃ W2, (w.alloc (.cells #[.string l, ve, .string s, .string r, vv, vx, vp, .string g] 25)).alloc (.cells #[.int .i64 SA.lang, .int .i64 SA.extl, .int .i64 SA.script, .int .i64 SA.region, va, ka, pa, .int .i64 SA.odd] 28) = W2 := ⟨_, rfl⟩
  have hb2 : Below w.heap.size w W2 := by rw [← hW2]; exact ((Below.refl _ w).alloc (Nat.le_refl _) _).alloc (by simp) _
  have hA : W2.heap[w.heap.size]? = some (.cells #[.string l, ve, .string s, .string r, vv, vx, vp, .string g] 25 (0, 0)) := by rw [← hW2]; exact (Below.heap_alloc _ _ _ (by simp)).trans (World.alloc_heap_new w _)
  have hBx : W2.heap[w.heap.size + 1]? = some (.cells #[.int .i64 SA.lang, .int .i64 SA.extl, .int .i64 SA.script, .int .i64 SA.region, va, ka, pa, .int .i64 SA.odd] 28 (0, 0)) := by rw [← hW2]; exact heap_alloc2_new w _ _
  have hlB := lt_of_heap hBx
  have HC := Lib.hid (fun (w' : World) (hb : Below W2.heap.size W2 w') => And.intro (tag_cells ((hb.block _ (by omega)).trans hA)) (tag_cells ((hb.block _ hlB).trans hBx)))
  have HB2 := Lib.hid hb2
  have hG2 : GL W2 := hgl.below hb2 hgl.size
  obtain ⟨TF, hTF⟩ : ∃ T, (⟨cut12 l, rowT E, cut12 s, cut12 r, rowT V, extsT X, rowT P, cut12 g⟩ : TagM) = T := ⟨_, rfl⟩
  have fF : TagTiny TF := by rw [← hTF]; exact few_tiny _ _ _ _ _ _ _ _
  have fA := madeT_tiny SA
  have AW := onward W2 awake6_any
  have FZ := Lib.hid (fun w5 (hb : Below W2.heap.size W2 w5) => (few_any l s r g ve vv vx vp E V P X w5 hl hs hr hg ((hE.below hb2).below hb) ((hV.below hb2).below hb) ((hP.below hb2).below hb) ((hX.below hb2).below hb)).mono (R' := fun e w7 => ∃ f1 f2 f3 f4 f5 f6 f7 f8, e = .returned (.agg #[.string TF.lang, .slice f1 TF.extl.length f2, .string TF.script, .string TF.region, .slice f3 TF.vars.length f4, .slice f5 TF.exts.length f6, .slice f7 TF.priv.length f8, .string TF.grand]) ∧ TagIs w7 (.agg #[.string TF.lang, .slice f1 TF.extl.length f2, .string TF.script, .string TF.region, .slice f3 TF.vars.length f4, .slice f5 TF.exts.length f6, .slice f7 TF.priv.length f8, .string TF.grand]) TF ∧ Below W2.heap.size W2 w7) fun e w7 ⟨x, y, xx, z, p, q, o1, o2, o3, b2, o4, _⟩ => by
    have hTI := few_is (l := cut12 l) (s := cut12 s) (r := cut12 r) (g := cut12 g) o1 o2 o3 o4
    rw [hTF] at hTI
    obtain ⟨ae, ac, av, vc, ax, xc, ap, pc, hsh⟩ := tag_shape hTI
    exact ⟨ae, ac, av, vc, ax, xc, ap, pc, p.trans (congrArg _ hsh), hsh ▸ hTI, hb.trans (q.mono hb.size)⟩)
  have MZ := Lib.hid (fun w5 (hb : Below W2.heap.size W2 w5) => (made_any SA va ka pa w5 ((a1.below hb2).below hb) ((a2.below hb2).below hb) ((a3.below hb2).below hb) a4 a5).mono (R' := fun e w7 => ∃ f1 f2 f3 f4 f5 f6 f7 f8, e = .returned (.agg #[.string (madeT SA).lang, .slice f1 (madeT SA).extl.length f2, .string (madeT SA).script, .string (madeT SA).region, .slice f3 (madeT SA).vars.length f4, .slice f5 (madeT SA).exts.length f6, .slice f7 (madeT SA).priv.length f8, .string (madeT SA).grand]) ∧ TagIs w7 (.agg #[.string (madeT SA).lang, .slice f1 (madeT SA).extl.length f2, .string (madeT SA).script, .string (madeT SA).region, .slice f3 (madeT SA).vars.length f4, .slice f5 (madeT SA).exts.length f6, .slice f7 (madeT SA).priv.length f8, .string (madeT SA).grand]) (madeT SA) ∧ Below w5.heap.size w5 w7 ∧ Below W2.heap.size W2 w7) fun e w7 ⟨u, p, q, r⟩ => by
    obtain ⟨ae, ac, av, vc, ax, xc, ap, pc, rfl⟩ := tag_shape q
    exact ⟨ae, ac, av, vc, ax, xc, ap, pc, p, q, r, hb.trans (r.mono hb.size)⟩)
  have RO := Lib.hid (fun w5 (T : TagM) (v : Value) (hT : TagIs w5 v T) (hF : TagTiny T) (hb : Below W2.heap.size W2 w5) => (right_own v T w5 hT hF (hG2.below hb hG2.size)).mono (R' := fun e w7 => e = .returned (.bool (rightT T)) ∧ Below w5.heap.size w5 w7) fun e w7 ⟨p, r⟩ => ⟨p, r⟩)
  have RR := Lib.hid (fun w5 (T : TagM) (v : Value) (hT : TagIs w5 v T) (hF : TagTiny T) => (right_ref' v T w5 hT hF))
  have RN := Lib.hid (fun w5 (hb : Below W2.heap.size W2 w5) => (right_own _ noT w5 (no_is w5 none) no_tiny (hG2.below hb hG2.size)).mono (R' := fun e w7 => e = .returned (.bool false) ∧ Below w5.heap.size w5 w7) fun e w7 ⟨p, r⟩ => ⟨by rw [p, no_right], r⟩)
  have hs2 := hb2.size
  clear a1 a2 a3 a4 a5 hl hs hr hg hE hV hX hP hA hBx hb2 hTF hgl hG2
  generalize madeT SA = TA at *
  have hBr : Below W2.heap.size W2 W2 := Below.refl _ _
  go_enter Tryz.func3, Tryz.ntmps3
  go_upto_region 1 with fail
  clear hW2
  go_wp2_with fail
  refine (AW.out _ hBr).mono ?_
  rintro e w5 ⟨rfl, hb5⟩
  obtain ⟨⟨q0, q1, q2, q3, q4, q5, q6, q7⟩, _⟩ := HC.out _ hb5
  go_wp2_with fail
  refine (FZ.out _ hb5).mono ?_
  rintro e w6 ⟨f1, f2, f3, f4, f5, f6, f7, f8, rfl, hI6, hb6⟩
  clear q0 q1 q2 q3 q4 q5 q6 q7
  obtain ⟨W7, hW7⟩ : ∃ W7, w6.alloc (.cells #[.string TF.lang, .slice f1 TF.extl.length f2, .string TF.script, .string TF.region, .slice f3 TF.vars.length f4, .slice f5 TF.exts.length f6, .slice f7 TF.priv.length f8, .string TF.grand] 25) = W7 := ⟨_, rfl⟩
  have hb67 : Below w6.heap.size w6 W7 := by rw [← hW7]; exact (Below.refl _ w6).alloc (Nat.le_refl _) _
  have hX7 : W7.heap[w6.heap.size]? = some (.cells #[.string TF.lang, .slice f1 TF.extl.length f2, .string TF.script, .string TF.region, .slice f3 TF.vars.length f4, .slice f5 TF.exts.length f6, .slice f7 TF.priv.length f8, .string TF.grand] 25 (0, 0)) := by rw [← hW7]; exact World.alloc_heap_new w6 _
  have HI7 := Lib.hid (hI6.below hb67)
  have HX7 := Lib.hid hX7
  have hB7 := hb6.trans (hb67.mono hb6.size)
  have HB7 := Lib.hid hB7
  obtain ⟨_, q0, q1, q2, q3, q4, q5, q6, q7⟩ := HC.out _ hB7
  obtain ⟨bx, hbx⟩ : ∃ bx, w6.heap.size = bx := ⟨_, rfl⟩
  rw [hbx] at HX7
  clear hI6 hX7 hb67 hB7 hb5
  go_wp2_with fail
  clear hW7 hbx
  refine (MZ.out _ HB7.out).mono ?_
  rintro e w8 ⟨m1, m2, m3, m4, m5, m6, m7, m8, rfl, hI8, hb8'⟩
  clear q0 q1 q2 q3 q4 q5 q6 q7
  obtain ⟨W9, hW9⟩ : ∃ W9, w8.alloc (.cells #[.string TA.lang, .slice m1 TA.extl.length m2, .string TA.script, .string TA.region, .slice m3 TA.vars.length m4, .slice m5 TA.exts.length m6, .slice m7 TA.priv.length m8, .string TA.grand] 25) = W9 := ⟨_, rfl⟩
  obtain ⟨hb78, hb28⟩ := hb8'
  have hb89 : Below w8.heap.size w8 W9 := by rw [← hW9]; exact (Below.refl _ w8).alloc (Nat.le_refl _) _
  have hX9 : W9.heap[w8.heap.size]? = some (.cells #[.string TA.lang, .slice m1 TA.extl.length m2, .string TA.script, .string TA.region, .slice m3 TA.vars.length m4, .slice m5 TA.exts.length m6, .slice m7 TA.priv.length m8, .string TA.grand] 25 (0, 0)) := by rw [← hW9]; exact World.alloc_heap_new w8 _
  have hb79 := hb78.trans (hb89.mono hb78.size)
  have hb29 := hb28.trans (hb89.mono hb28.size)
  have hIF := HI7.out.below hb79
  have hIA := hI8.below hb89
  have hXF := (hb79.block _ (lt_of_heap HX7.out)).trans HX7.out
  obtain ⟨bY, hbY⟩ : ∃ bY, w8.heap.size = bY := ⟨_, rfl⟩
  rw [hbY] at hX9
  have HQ := Lib.hid (fun w' (hb : Below W9.heap.size W9 w') => And.intro (tag_cells ((hb.block _ (lt_of_heap hXF)).trans hXF)) (tag_cells ((hb.block _ (lt_of_heap hX9)).trans hX9)))
  have H2 := Lib.hid (fun w' (hb : Below W9.heap.size W9 w') => hb29.trans (hb.mono hb29.size))
  have OF := Lib.hid (fun w5 (hb : Below W9.heap.size W9 w5) => (RO.out w5 TF _ (hIF.below hb) fF (H2.out w5 hb)).mono (R' := fun e w7 => e = .returned (.bool (rightT TF)) ∧ Below W9.heap.size W9 w7) fun e w7 ⟨p, q⟩ => ⟨p, hb.trans (q.mono hb.size)⟩)
  have OA := Lib.hid (fun w5 (hb : Below W9.heap.size W9 w5) => (RO.out w5 TA _ (hIA.below hb) fA (H2.out w5 hb)).mono (R' := fun e w7 => e = .returned (.bool (rightT TA)) ∧ Below W9.heap.size W9 w7) fun e w7 ⟨p, q⟩ => ⟨p, hb.trans (q.mono hb.size)⟩)
  have ON := Lib.hid (fun w5 (hb : Below W9.heap.size W9 w5) => (RN.out w5 (H2.out w5 hb)).mono (R' := fun e w7 => e = .returned (.bool false) ∧ Below W9.heap.size W9 w7) fun e w7 ⟨p, q⟩ => ⟨p, hb.trans (q.mono hb.size)⟩)
  have PF := Lib.hid (fun w5 (hb : Below W9.heap.size W9 w5) => (RR.out w5 TF _ (hIF.below hb) fF).mono (R' := fun e w7 => e = .returned (.bool (rightT TF)) ∧ Below W9.heap.size W9 w7) fun e w7 ⟨p, q⟩ => ⟨p, hb.trans (q.mono hb.size)⟩)
  have PA := Lib.hid (fun w5 (hb : Below W9.heap.size W9 w5) => (RR.out w5 TA _ (hIA.below hb) fA).mono (R' := fun e w7 => e = .returned (.bool (rightT TA)) ∧ Below W9.heap.size W9 w7) fun e w7 ⟨p, q⟩ => ⟨p, hb.trans (q.mono hb.size)⟩)
  generalize rightT TF = rF at *
  generalize rightT TA = rA at *
  have hq1 : (rF == rF) = true := beq_self_eq_true _
  have hq2 : (rA == rA) = true := beq_self_eq_true _
  have hBd : Below W9.heap.size W9 W9.drew := Below.drew (Below.refl _ _)
  clear hb78 hb28 hb89 hX9 hb79 hb29 hIF hIA hXF hI8 fF fA HI7 HX7 RO RR RN
  go_upto_region 4 with fail
  clear hW9 hbY
  go_region_held3 (fun w' => Below W9.heap.size W9 w' ∧ (w'.cell? ⟨bx, 0, none⟩ = some (.string TF.lang) ∧ w'.cell? ⟨bx, 1, none⟩ = some (.slice f1 TF.extl.length f2) ∧ w'.cell? ⟨bx, 2, none⟩ = some (.string TF.script) ∧ w'.cell? ⟨bx, 3, none⟩ = some (.string TF.region) ∧ w'.cell? ⟨bx, 4, none⟩ = some (.slice f3 TF.vars.length f4) ∧ w'.cell? ⟨bx, 5, none⟩ = some (.slice f5 TF.exts.length f6) ∧ w'.cell? ⟨bx, 6, none⟩ = some (.slice f7 TF.priv.length f8) ∧ w'.cell? ⟨bx, 7, none⟩ = some (.string TF.grand)) ∧ (w'.cell? ⟨bY, 0, none⟩ = some (.string TA.lang) ∧ w'.cell? ⟨bY, 1, none⟩ = some (.slice m1 TA.extl.length m2) ∧ w'.cell? ⟨bY, 2, none⟩ = some (.string TA.script) ∧ w'.cell? ⟨bY, 3, none⟩ = some (.string TA.region) ∧ w'.cell? ⟨bY, 4, none⟩ = some (.slice m3 TA.vars.length m4) ∧ w'.cell? ⟨bY, 5, none⟩ = some (.slice m5 TA.exts.length m6) ∧ w'.cell? ⟨bY, 6, none⟩ = some (.slice m7 TA.priv.length m8) ∧ w'.cell? ⟨bY, 7, none⟩ = some (.string TA.grand)))
    (first | exact ⟨by assumption, HQ.out _ (by assumption)⟩)
    (first
      | (go_at_call 15; (first | (with_reducible refine (OF.out _ (by assumption)).mono ?_) | (with_reducible refine (OA.out _ (by assumption)).mono ?_) | (refine (ON.out _ (by assumption)).mono ?_)); rintro e w10 ⟨rfl, hb10⟩)
      | (go_at_call 16; (first | (with_reducible refine (PF.out _ (by assumption)).mono ?_) | (with_reducible refine (PA.out _ (by assumption)).mono ?_)); rintro e w10 ⟨rfl, hb10⟩))
  all_goals
    go_wp2_with fail
    go_ret
    exact ⟨rfl, HB2.out.trans ((H2.out _ hb10).mono hs2)⟩
end Go.Proofs.YtajdfckppnedjaaGreatDoor
