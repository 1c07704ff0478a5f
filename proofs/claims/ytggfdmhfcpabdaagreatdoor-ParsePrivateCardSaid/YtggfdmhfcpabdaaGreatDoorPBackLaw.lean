/-
  ParseBack: the walk of the law.
-/
import Derived.Test.YtggfdmhfcpabdaaGreatDoorPSame
import Derived.Test.YtggfdmhfcpabdaaGreatDoorPHelp
import Derived.Test.YtggfdmhfcpabdaaGreatDoorPParsedRight
import Derived.Test.YtggfdmhfcpabdaaGreatDoorKTags
namespace Go.Proofs.YtggfdmhfcpabdaaGreatDoor
open Go Go.RowKit

theorem parse_wide2 (s : ByteArray) (hs : s.size ≤ 40000) : TagWide (parseS s).1 := by
  have hno : TagWide pNo := by unfold TagWide pNo; simp
  unfold parseS
  split
  · unfold TagWide pNo
    simp [size_lowS]
    omega
  · unfold readS
    have hl : (pieces s).length ≤ 40001 := by rw [pieces_length]; have := splS_le s; omega
    cases hr : runP (pieces s) pSt0 with
    | mk st o =>
      cases o with
      | some e => exact hno
      | none =>
        have h := (runP_good (pieces s) pSt0 0 st PInv.start (fun _ => rfl) (by decide) hr).1
        have h1 := h.len
        have hw : TagWide st.T := ⟨by omega, by omega, by omega, fun x hx => by have := h.subs x hx; omega, by omega, by rw [h.grand]; exact Nat.zero_le _⟩
        unfold finP
        dsimp only
        split
        · exact hno
        · exact hw

/-- The eight cells of a block. -/
def tag8 (W : World) (B : Nat) (a b c d e f g h : Value) : Prop :=
  W.cell? ⟨B, 0, none⟩ = some a ∧ W.cell? ⟨B, 1, none⟩ = some b ∧ W.cell? ⟨B, 2, none⟩ = some c ∧ W.cell? ⟨B, 3, none⟩ = some d ∧ W.cell? ⟨B, 4, none⟩ = some e ∧ W.cell? ⟨B, 5, none⟩ = some f ∧ W.cell? ⟨B, 6, none⟩ = some g ∧ W.cell? ⟨B, 7, none⟩ = some h
theorem text_size2 {T : TagM} (h : TagTiny T) : (joinS (subtagsT T)).size ≤ 30000 := by
  have h1 := joinS_size 100 (subtagsT T) (tiny_sizes h)
  have h2 := tiny_len h
  omega
theorem sameT_eq {A B : TagM} (h : sameT A B = true) : A = B := by
  unfold sameT at h
  simp only [Bool.and_eq_true, decide_eq_true_eq] at h
  obtain ⟨⟨h1, h2, h3⟩, ⟨h4, h5, h6, h7⟩, h8⟩ := h
  obtain ⟨la, ea, sa, ra, va, xa, pa, ga⟩ := A
  obtain ⟨lb, eb, sb, rb, vb, xb, pb, gb⟩ := B
  simp only at *
  subst h1 h2 h3 h4 h5 h6 h7 h8
  rfl
theorem right_ref2 (v : Value) (T : TagM) (w : World) (hT : TagIs w v T) (hF : TagTiny T) :
    Calls Tryz.prog 20 #[v] w fun e w' => e = .returned (.bool (rightT T)) ∧ Below w.heap.size w w' :=
  right_ref v T w hT hF.fits (by have := tiny_len hF; omega) (fun x hx => by
    rcases List.mem_append.1 hx with h | h
    · have := tiny_sizes hF x h; omega
    · simp only [List.mem_cons, List.not_mem_nil, or_false] at h
      have h1 := hF.sl; have h2 := hF.ss; have h3 := hF.sr
      rcases h with rfl | rfl | rfl <;> omega) (fun x hx => by have := hF.sp x hx; omega) (fun x hx => by have := hF.sv x hx; omega) (fun x hx => ⟨by have := (hF.sx x hx).1; omega, fun y hy => by have := (hF.sx x hx).2.2 y hy; omega⟩) (fun x hx => by have := hF.se x hx; omega)
theorem errP_none {W : World} {ev : Value} (h : ErrP W none ev) : ev = .nilIface := by
  rcases h with ⟨_, h⟩ | ⟨x, b, h, _⟩
  · exact h
  · cases h
theorem errP_some {W : World} {ev : Value} {x : PErr} (h : ErrP W (some x) ev) : ∃ b, ev = .iface 96 (.pointer (some ⟨b, 0, none⟩)) := by
  rcases h with ⟨h, _⟩ | ⟨x, b, _, h, _⟩
  · cases h
  · exact ⟨b, h⟩
/-- The three ways of ParseBack. -/
theorem back_ways (T : TagM) (s : ByteArray) (hs : lowS s = lowS (joinS (subtagsT T))) :
    (rightT T = true ∧ parseS s = (T, none)) ∨ (rightT T = false ∧ ∃ T' x, parseS s = (T', some x)) ∨ (rightT T = false ∧ ∃ T', parseS s = (T', none) ∧ sameT T' T = false) := by
  have hp : parseS s = parseS (joinS (subtagsT T)) := parseS_same hs
  cases hr : rightT T with
  | true => exact .inl ⟨rfl, by rw [hp]; exact parse_right T hr⟩
  | false =>
    obtain ⟨⟨T', r⟩, hq⟩ : ∃ z, parseS s = z := ⟨_, rfl⟩
    rw [hq]
    cases r with
    | some x => exact .inr (.inl ⟨rfl, T', x, rfl⟩)
    | none =>
      refine .inr (.inr ⟨rfl, T', rfl, ?_⟩)
      cases hsm : sameT T' T with
      | false => rfl
      | true =>
        obtain rfl := sameT_eq hsm
        have := (parsed_right s T' hq).1
        rw [hr] at this
        cases this

set_option maxRecDepth 100000 in
set_option maxHeartbeats 8000000 in
theorem parseBack_law (SA : SeedM) (va ka pa : Value) (w : World)
    (a1 : IntsA w va SA.vars) (a2 : IntsA w ka SA.keys) (a3 : IntsA w pa SA.priv) (a4 : -9223372036854775808 ≤ SA.extl) (a5 : SA.extl ≤ 9223372036854775807) (hl : ParseLaid w) :
    Calls Tryz.prog 4 #[.agg #[.int .i64 SA.lang, .int .i64 SA.extl, .int .i64 SA.script, .int .i64 SA.region, va, ka, pa, .int .i64 SA.odd]] w fun e w' => e = .returned (.bool true) ∧ Below w.heap.size w w' := by
  obtain ⟨W2, hW2⟩ : ∃ W2, w.alloc (.cells #[.int .i64 SA.lang, .int .i64 SA.extl, .int .i64 SA.script, .int .i64 SA.region, va, ka, pa, .int .i64 SA.odd] 24) = W2 := ⟨_, rfl⟩
  have hb2 : Below w.heap.size w W2 := by rw [← hW2]; exact (Below.refl _ w).alloc (Nat.le_refl _) _
  have hA : W2.heap[w.heap.size]? = some (.cells #[.int .i64 SA.lang, .int .i64 SA.extl, .int .i64 SA.script, .int .i64 SA.region, va, ka, pa, .int .i64 SA.odd] 24 (0, 0)) := by rw [← hW2]; exact World.alloc_heap_new w _
  have hlA := lt_of_heap hA
  have AW := Lib.hid (fun w5 (hb : Below W2.heap.size W2 w5) => (awakeP_law w5 ((hl.below hb2).below hb)).mono (R' := fun e w6 => e = .returned (.bool true) ∧ Below W2.heap.size W2 w6 ∧ tag8 w6 w.heap.size (.int .i64 SA.lang) (.int .i64 SA.extl) (.int .i64 SA.script) (.int .i64 SA.region) va ka pa (.int .i64 SA.odd)) fun e w6 ⟨p, q⟩ => ⟨p, hb.trans (q.mono hb.size), tag_cells (((hb.trans (q.mono hb.size)).block _ hlA).trans hA)⟩)
  have fA := madeT_tiny SA
  have MZ := Lib.hid (fun w5 (hb : Below W2.heap.size W2 w5) => (made_any SA va ka pa w5 ((a1.below hb2).below hb) ((a2.below hb2).below hb) ((a3.below hb2).below hb) a4 a5).mono (R' := fun e w7 => ∃ f1 f2 f3 f4 f5 f6 f7 f8, e = .returned (.agg #[.string (madeT SA).lang, .slice f1 (madeT SA).extl.length f2, .string (madeT SA).script, .string (madeT SA).region, .slice f3 (madeT SA).vars.length f4, .slice f5 (madeT SA).exts.length f6, .slice f7 (madeT SA).priv.length f8, .string (madeT SA).grand]) ∧ TagIs w7 (.agg #[.string (madeT SA).lang, .slice f1 (madeT SA).extl.length f2, .string (madeT SA).script, .string (madeT SA).region, .slice f3 (madeT SA).vars.length f4, .slice f5 (madeT SA).exts.length f6, .slice f7 (madeT SA).priv.length f8, .string (madeT SA).grand]) (madeT SA) ∧ Below W2.heap.size W2 w7) fun e w7 ⟨u, p, q, r⟩ => by
    obtain ⟨ae, ac, av, vc, ax, xc, ap, pc, rfl⟩ := tag_shape q
    exact ⟨ae, ac, av, vc, ax, xc, ap, pc, p, q, hb.trans (r.mono hb.size)⟩)
  have HB2 := Lib.hid hb2
  have hs2 := hb2.size
  have hl2 := hl.below hb2
  clear a1 a2 a3 a4 a5 hA hlA hb2 hl
  generalize madeT SA = TA at *
  go_enter Tryz.func4, Tryz.ntmps4
  go_upto_region 1 with fail
  clear hW2
  go_upto_region 3 with (first
    | (go_at_call 9; (with_reducible refine (AW.out _ (Below.refl _ _)).mono ?_); rintro e w5 ⟨rfl, hb5, ⟨q0, q1, q2, q3, q4, q5, q6, q7⟩⟩)
    | (go_at_call 11; (with_reducible refine (MZ.out _ hb5).mono ?_); rintro e w8 ⟨f1, f2, f3, f4, f5, f6, f7, f8, rfl, hI8, hb8⟩))
  obtain ⟨WT, hWT⟩ : ∃ W, w8.alloc (.cells #[.string TA.lang, .slice f1 TA.extl.length f2, .string TA.script, .string TA.region, .slice f3 TA.vars.length f4, .slice f5 TA.exts.length f6, .slice f7 TA.priv.length f8, .string TA.grand] 31) = W := ⟨_, rfl⟩
  have hbT : Below w8.heap.size w8 WT := by rw [← hWT]; exact (Below.refl _ _).alloc (Nat.le_refl _) _
  have hT : WT.heap[w8.heap.size]? = some (.cells #[.string TA.lang, .slice f1 TA.extl.length f2, .string TA.script, .string TA.region, .slice f3 TA.vars.length f4, .slice f5 TA.exts.length f6, .slice f7 TA.priv.length f8, .string TA.grand] 31 (0, 0)) := by rw [← hWT]; exact World.alloc_heap_new w8 _
  have hlT := lt_of_heap hT
  have hBT := hb8.trans (hbT.mono hb8.size)
  have HBT := Lib.hid hBT
  have hlr := hl2.below hBT
  have hIT := hI8.below hbT
  have HCT := Lib.hid (fun (w' : World) (hb : Below WT.heap.size WT w') => tag_cells ((hb.block _ hlT).trans hT))
  have htx := text_size2 fA
  have TZ := Lib.hid (fun w5 (hb : Below WT.heap.size WT w5) => (text_ref (.agg #[.string TA.lang, .slice f1 TA.extl.length f2, .string TA.script, .string TA.region, .slice f3 TA.vars.length f4, .slice f5 TA.exts.length f6, .slice f7 TA.priv.length f8, .string TA.grand]) TA w5 (hIT.below hb) fA).mono (R' := fun e w7 => e = .returned (.string (joinS (subtagsT TA))) ∧ Below WT.heap.size WT w7) fun e w7 ⟨p, q⟩ => ⟨p, hb.trans (q.mono hb.size)⟩)
  have UP := Lib.hid (fun w5 (hb : Below WT.heap.size WT w5) => (upper_ref (joinS (subtagsT TA)) w5 (by omega)).mono (R' := fun e w7 => e = .returned (.string (upS (joinS (subtagsT TA)))) ∧ Below WT.heap.size WT w7) fun e w7 ⟨p, q⟩ => ⟨p, hb.trans (q.mono hb.size)⟩)
  have hus := size_upS (joinS (subtagsT TA))
  have PA := Lib.hid (fun w5 (hb : Below WT.heap.size WT w5) => (parse_own (upS (joinS (subtagsT TA))) w5 (by omega) (hlr.below hb).g).mono (R' := fun e w7 => ∃ h1 h2 h3 h4 h5 h6 h7 h8 ev, e = .returned (.tuple #[.agg #[.string (parseS (upS (joinS (subtagsT TA)))).1.lang, .slice h1 (parseS (upS (joinS (subtagsT TA)))).1.extl.length h2, .string (parseS (upS (joinS (subtagsT TA)))).1.script, .string (parseS (upS (joinS (subtagsT TA)))).1.region, .slice h3 (parseS (upS (joinS (subtagsT TA)))).1.vars.length h4, .slice h5 (parseS (upS (joinS (subtagsT TA)))).1.exts.length h6, .slice h7 (parseS (upS (joinS (subtagsT TA)))).1.priv.length h8, .string (parseS (upS (joinS (subtagsT TA)))).1.grand], ev]) ∧
      TagIs w7 (.agg #[.string (parseS (upS (joinS (subtagsT TA)))).1.lang, .slice h1 (parseS (upS (joinS (subtagsT TA)))).1.extl.length h2, .string (parseS (upS (joinS (subtagsT TA)))).1.script, .string (parseS (upS (joinS (subtagsT TA)))).1.region, .slice h3 (parseS (upS (joinS (subtagsT TA)))).1.vars.length h4, .slice h5 (parseS (upS (joinS (subtagsT TA)))).1.exts.length h6, .slice h7 (parseS (upS (joinS (subtagsT TA)))).1.priv.length h8, .string (parseS (upS (joinS (subtagsT TA)))).1.grand]) (parseS (upS (joinS (subtagsT TA)))).1 ∧
      ErrP w7 (parseS (upS (joinS (subtagsT TA)))).2 ev ∧ Below WT.heap.size WT w7) fun e w7 ⟨tv, ev, p, q, r, o⟩ => by
    obtain ⟨ae, ac, av, vc, ax, xc, ap, pc, rfl⟩ := tag_shape q
    exact ⟨ae, ac, av, vc, ax, xc, ap, pc, ev, p, q, r, hb.trans (o.mono hb.size)⟩)
  have RT := Lib.hid (fun w5 (hb : Below WT.heap.size WT w5) => (right_ref2 (.agg #[.string TA.lang, .slice f1 TA.extl.length f2, .string TA.script, .string TA.region, .slice f3 TA.vars.length f4, .slice f5 TA.exts.length f6, .slice f7 TA.priv.length f8, .string TA.grand]) TA w5 (hIT.below hb) fA).mono (R' := fun e w7 => e = .returned (.bool (rightT TA)) ∧ Below w5.heap.size w5 w7 ∧ Below WT.heap.size WT w7) fun e w7 ⟨p, q⟩ => ⟨p, q, hb.trans (q.mono hb.size)⟩)
  have hwide := parse_wide2 (upS (joinS (subtagsT TA))) (by omega)
  have HW := back_ways TA (upS (joinS (subtagsT TA))) (low_upS _)
  obtain ⟨TU, hTU⟩ : ∃ T, (parseS (upS (joinS (subtagsT TA)))).1 = T := ⟨_, rfl⟩
  obtain ⟨r, hr⟩ : ∃ r, (parseS (upS (joinS (subtagsT TA)))).2 = r := ⟨_, rfl⟩
  rw [show parseS (upS (joinS (subtagsT TA))) = (TU, r) from Prod.ext hTU hr] at HW
  rw [hTU, hr] at PA
  rw [hTU] at hwide
  have HWI := Lib.hid hwide
  have HIT := Lib.hid hIT
  clear hI8 hIT fA hb8 hb5 hbT hT q0 q1 q2 q3 q4 q5 q6 q7 hBT hlr htx hus hTU hr hwide hl2
  generalize joinS (subtagsT TA) = tx at *
  rw [hWT]
  clear hWT
  have hBW : Below WT.heap.size WT WT := Below.refl _ _
  obtain ⟨q0, q1, q2, q3, q4, q5, q6, q7⟩ := HCT.out _ hBW
  have hcs : (rightT TA = true ∧ r = none ∧ sameT TU TA = true) ∨ (rightT TA = false ∧ ∃ x, r = some x) ∨ (rightT TA = false ∧ r = none ∧ sameT TU TA = false) := by
    rcases HW with ⟨h1, h2⟩ | ⟨h1, T', x, h2⟩ | ⟨h1, T', h2, h3⟩
    · simp only [Prod.mk.injEq] at h2
      obtain ⟨rfl, rfl⟩ := h2
      exact .inl ⟨h1, rfl, sameT_self _⟩
    · simp only [Prod.mk.injEq] at h2
      exact .inr (.inl ⟨h1, x, h2.2⟩)
    · simp only [Prod.mk.injEq] at h2
      obtain ⟨rfl, rfl⟩ := h2
      exact .inr (.inr ⟨h1, rfl, h3⟩)
  clear HW
  have SMA := Lib.hid (fun (w6 : World) (v : Value) (hv : TagIs w6 v TU) (hb : Below WT.heap.size WT w6) => (same_wide v (.agg #[.string TA.lang, .slice f1 TA.extl.length f2, .string TA.script, .string TA.region, .slice f3 TA.vars.length f4, .slice f5 TA.exts.length f6, .slice f7 TA.priv.length f8, .string TA.grand]) TU TA w6 hv (HIT.out.below hb) HWI.out).mono (R' := fun e w7 => e = .returned (.bool (sameT TU TA)) ∧ Below WT.heap.size WT w7) fun e w7 ⟨p, q⟩ => ⟨p, hb.trans (q.mono hb.size)⟩)
  rcases hcs with ⟨c1, rfl, c3⟩ | ⟨c1, x, rfl⟩ | ⟨c1, rfl, c3⟩
  case' inl =>
    rw [c3] at SMA
    clear c3
  case' inr.inl =>
    generalize sameT TU TA = sm at SMA
  case' inr.inr =>
    rw [c3] at SMA
    clear c3
  all_goals
    rw [c1] at RT
    clear c1
    go_upto_region 5 with (first
      | (go_at_call 10; (with_reducible refine (TZ.out _ (by assumption)).mono ?_); rintro e w10 ⟨rfl, hB10⟩)
      | (go_at_call 18; (with_reducible refine (UP.out _ (by assumption)).mono ?_); rintro e w11 ⟨rfl, hB11⟩)
      | (go_at_call 19; (with_reducible refine (PA.out _ (by assumption)).mono ?_); rintro e w12 ⟨h1, h2, h3, h4, h5, h6, h7, h8, ev, rfl, hI12, hE12, hB12⟩))
    obtain ⟨WU, hWU⟩ : ∃ W, w12.alloc (.cells #[.string TU.lang, .slice h1 TU.extl.length h2, .string TU.script, .string TU.region, .slice h3 TU.vars.length h4, .slice h5 TU.exts.length h6, .slice h7 TU.priv.length h8, .string TU.grand] 31) = W := ⟨_, rfl⟩
    have hbU : Below w12.heap.size w12 WU := by rw [← hWU]; exact (Below.refl _ _).alloc (Nat.le_refl _) _
    have hU : WU.heap[w12.heap.size]? = some (.cells #[.string TU.lang, .slice h1 TU.extl.length h2, .string TU.script, .string TU.region, .slice h3 TU.vars.length h4, .slice h5 TU.exts.length h6, .slice h7 TU.priv.length h8, .string TU.grand] 31 (0, 0)) := by rw [← hWU]; exact World.alloc_heap_new w12 _
    have hlU := lt_of_heap hU
    have hBU := hB12.trans (hbU.mono hB12.size)
    have HIU := Lib.hid (hI12.below hbU)
    have HCU := Lib.hid (fun (w' : World) (hb : Below WU.heap.size WU w') => tag_cells ((hb.block _ hlU).trans hU))
    clear hI12 hbU hU q0 q1 q2 q3 q4 q5 q6 q7 hBW hB10 hB11
    obtain ⟨q0, q1, q2, q3, q4, q5, q6, q7⟩ := HCT.out _ hBU
    rw [hWU]
    clear hWU
    first
      | (have hev := errP_none hE12; subst hev)
      | (obtain ⟨eb, hev⟩ := errP_some hE12; subst hev)
    clear hE12
    go_wp2_with (first
      | (go_at_call 20; (with_reducible refine (RT.out _ hBU).mono ?_); rintro e w13 ⟨rfl, hb13, hB13⟩; obtain ⟨p0, p1, p2, p3, p4, p5, p6, p7⟩ := HCT.out _ hB13; obtain ⟨u0, u1, u2, u3, u4, u5, u6, u7⟩ := HCU.out _ hb13; have hIV := HIU.out.below hb13)
      | (go_at_call 21; (with_reducible refine (SMA.out _ _ hIV hB13).mono ?_); rintro e w14 ⟨rfl, hB14⟩))
    go_ret
    exact ⟨rfl, HB2.out.trans ((HBT.out.trans (hB14.mono HBT.out.size)).mono hs2)⟩
end Go.Proofs.YtggfdmhfcpabdaaGreatDoor
