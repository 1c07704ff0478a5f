/-
  TagParts: the walk of the law.
-/
import Derived.Test.YtajdfckppnedjaaGreatDoorNRightLaw
import Derived.Test.YtajdfckppnedjaaGreatDoorMClone
import Derived.Deep.CutBlock
namespace Go.Proofs.YtajdfckppnedjaaGreatDoor
open Go Go.RowKit

theorem ok_of_letters {s : ByteArray} {lo hi : Nat} (h : lettersS s lo hi = true) (hh : hi ≤ 8) : okS s = true := by
  unfold lettersS at h
  simp only [Bool.and_eq_true, decide_eq_true_iff] at h
  unfold okS
  rw [Bool.and_eq_true, decide_eq_true_iff]
  refine ⟨by omega, ?_⟩
  have h1 := h.1
  unfold alphaS has at h1
  unfold alnumS has
  rw [Bool.and_eq_true] at h1 ⊢
  refine ⟨h1.1, ?_⟩
  rw [List.all_eq_true] at *
  intro x hx
  have := h1.2 x hx
  unfold isN
  rw [this]; rfl
theorem ok_of_digits {s : ByteArray} (h : digitS s = true) (hh : s.size ≤ 8) : okS s = true := by
  unfold okS
  rw [Bool.and_eq_true, decide_eq_true_iff]
  refine ⟨hh, ?_⟩
  unfold digitS has at h
  unfold alnumS has
  rw [Bool.and_eq_true] at h ⊢
  refine ⟨h.1, ?_⟩
  rw [List.all_eq_true] at *
  intro x hx
  have := h.2 x hx
  unfold isN
  rw [this]; simp
theorem ok_region {s : ByteArray} (h : regionS s = true) : okS s = true := by
  unfold regionS at h
  rw [Bool.or_eq_true] at h
  rcases h with h | h
  · exact ok_of_letters h (by decide)
  · rw [Bool.and_eq_true, decide_eq_true_iff] at h
    exact ok_of_digits h.2 (by omega)
theorem ok_variant {s : ByteArray} (h : variantS s = true) : okS s = true := by
  unfold variantS at h
  simp only [Bool.and_eq_true, Bool.or_eq_true, decide_eq_true_iff] at h
  unfold okS
  rw [Bool.and_eq_true, decide_eq_true_iff]
  exact ⟨by rcases h.2 with h2 | h2 <;> omega, h.1⟩
theorem ok_singleton {s : ByteArray} (h : singletonS s = true) : okS s = true := by
  unfold singletonS at h
  simp only [Bool.and_eq_true, decide_eq_true_iff] at h
  unfold okS
  rw [Bool.and_eq_true, decide_eq_true_iff]
  exact ⟨by omega, h.2.1⟩
theorem ok_x : okS ⟨#[120]⟩ = true := by decide +kernel
theorem eachN_all {α : Type} {p : List α → α → Bool} {l : List α} (h : eachN p l l.length = true) : ∀ (i : Nat) x, l[i]? = some x → p (l.take i) x = true := by
  intro i x hx
  unfold eachN at h
  rw [List.all_eq_true] at h
  have := h i (List.mem_range.2 (List.getElem?_eq_some_iff.1 hx).1)
  rwa [hx] at this
/-- What a right tag with a language is. -/
theorem right_whole {T : TagM} (h : rightT T = true) (hl : T.lang.size ≠ 0) : T.grand.size = 0 ∧ smallT T = true ∧ wholeT T = true := by
  unfold rightT at h
  rw [Bool.and_eq_true] at h
  obtain ⟨h1, h2⟩ := h
  by_cases hg : T.grand.size = 0
  · rw [if_pos hg, if_neg hl] at h2
    exact ⟨hg, h1, h2⟩
  · rw [if_neg hg, Bool.and_eq_true] at h2
    have := ((plain_iff T).1 h2.1).1
    exact absurd (by rw [this]; rfl) hl
theorem right_subs {T : TagM} (h : rightT T = true) (hl : T.lang.size ≠ 0) : ∀ x ∈ subtagsT T, okS x = true := by
  obtain ⟨hg, _, hw⟩ := right_whole h hl
  unfold wholeT rowsT at hw
  simp only [Bool.and_eq_true, Bool.or_eq_true, decide_eq_true_iff] at hw
  obtain ⟨⟨w1, w2, w3, w4, w5, w6⟩, _, w7, _⟩ := hw
  intro x hx
  unfold subtagsT at hx
  rw [if_pos hg] at hx
  simp only [List.mem_append] at hx
  rcases hx with (((((hx | hx) | hx) | hx) | hx) | hx) | hx
  · rw [oneT_mem hx]; exact ok_of_letters w1 (by decide)
  · exact ok_of_letters (List.all_eq_true.1 w7 x hx) (by decide)
  · have := oneT_mem hx
    subst this
    rcases w2 with w2 | w2
    · unfold oneT at hx; rw [if_pos w2] at hx; simp at hx
    · exact ok_of_letters w2 (by decide)
  · have := oneT_mem hx
    subst this
    rcases w3 with w3 | w3
    · unfold oneT at hx; rw [if_pos w3] at hx; simp at hx
    · exact ok_region w3
  · obtain ⟨i, hi⟩ := List.getElem?_of_mem hx
    have := eachN_all w4 i x hi
    unfold pV at this
    rw [Bool.and_eq_true] at this
    exact ok_variant this.1
  · obtain ⟨y, hy, hm⟩ := List.mem_flatMap.1 hx
    obtain ⟨i, hi⟩ := List.getElem?_of_mem hy
    have := eachN_all w5 i y hi
    unfold pE subsT at this
    simp only [Bool.and_eq_true] at this
    rcases List.mem_cons.1 hm with rfl | hm
    · exact ok_singleton this.1.1
    · have := List.all_eq_true.1 this.2.1 x hm
      rw [Bool.and_eq_true] at this
      exact this.1
  · unfold privT at hx
    split at hx
    · simp at hx
    · rcases List.mem_cons.1 hx with rfl | hx
      · exact ok_x
      · unfold subsT at w6
        have := List.all_eq_true.1 w6 x hx
        rw [Bool.and_eq_true] at this
        exact this.1

theorem lang_empty (T : TagM) (h : T.lang.size = 0) : (T.lang.toList.isEmpty) = true := by
  have := empty_true (s := T.lang) h
  simpa using this

theorem mod5_of {r : Int} {N : Nat} (h : -5 < r) (p : Int.tmod (r + 5) 5 = (N : Int)) : r % 5 = (N : Int) := by
  rw [Int.tmod_eq_emod_of_nonneg (by omega)] at p
  omega
set_option maxRecDepth 100000 in
set_option maxHeartbeats 16000000 in
theorem parts_law (SA : SeedM) (va ka pa : Value) (n : Int) (w : World)
    (a1 : IntsA w va SA.vars) (a2 : IntsA w ka SA.keys) (a3 : IntsA w pa SA.priv) (a4 : -9223372036854775808 ≤ SA.extl) (a5 : SA.extl ≤ 9223372036854775807) (_hn : (Lit.int .i64 n).wf = true) (hgl : GL w) :
    Calls Tryz.prog 4 #[.agg #[.int .i64 SA.lang, .int .i64 SA.extl, .int .i64 SA.script, .int .i64 SA.region, va, ka, pa, .int .i64 SA.odd], .int .i64 n] w fun e w' => e = .returned (.bool true) ∧ Below w.heap.size w w' := by
  obtain ⟨W2, hW2⟩ : ∃ W2, w.alloc (.cells #[.int .i64 SA.lang, .int .i64 SA.extl, .int .i64 SA.script, .int .i64 SA.region, va, ka, pa, .int .i64 SA.odd] 28) = W2 := ⟨_, rfl⟩
  have hb2 : Below w.heap.size w W2 := by rw [← hW2]; exact (Below.refl _ w).alloc (Nat.le_refl _) _
  have hBx : W2.heap[w.heap.size]? = some (.cells #[.int .i64 SA.lang, .int .i64 SA.extl, .int .i64 SA.script, .int .i64 SA.region, va, ka, pa, .int .i64 SA.odd] 28 (0, 0)) := by rw [← hW2]; exact World.alloc_heap_new w _
  have hlB := lt_of_heap hBx
  have HC := Lib.hid (fun (w' : World) (hb : Below W2.heap.size W2 w') => tag_cells ((hb.block _ hlB).trans hBx))
  have HB2 := Lib.hid hb2
  have hG2 : GL W2 := hgl.below hb2 hgl.size
  have fA := madeT_tiny SA
  have AW := onward W2 awake6_any
  have MZ := Lib.hid (fun w5 (hb : Below W2.heap.size W2 w5) => (made_any SA va ka pa w5 ((a1.below hb2).below hb) ((a2.below hb2).below hb) ((a3.below hb2).below hb) a4 a5).mono (R' := fun e w7 => ∃ f1 f2 f3 f4 f5 f6 f7 f8, e = .returned (.agg #[.string (madeT SA).lang, .slice f1 (madeT SA).extl.length f2, .string (madeT SA).script, .string (madeT SA).region, .slice f3 (madeT SA).vars.length f4, .slice f5 (madeT SA).exts.length f6, .slice f7 (madeT SA).priv.length f8, .string (madeT SA).grand]) ∧ TagIs w7 (.agg #[.string (madeT SA).lang, .slice f1 (madeT SA).extl.length f2, .string (madeT SA).script, .string (madeT SA).region, .slice f3 (madeT SA).vars.length f4, .slice f5 (madeT SA).exts.length f6, .slice f7 (madeT SA).priv.length f8, .string (madeT SA).grand]) (madeT SA) ∧ Below W2.heap.size W2 w7) fun e w7 ⟨u, p, q, r⟩ => by
    obtain ⟨ae, ac, av, vc, ax, xc, ap, pc, rfl⟩ := tag_shape q
    exact ⟨ae, ac, av, vc, ax, xc, ap, pc, p, q, hb.trans (r.mono hb.size)⟩)
  have RO := Lib.hid (fun w5 (T : TagM) (v : Value) (hT : TagIs w5 v T) (hF : TagTiny T) (hb : Below W2.heap.size W2 w5) => (right_own v T w5 hT hF (hG2.below hb hG2.size)).mono (R' := fun e w7 => e = .returned (.bool (rightT T)) ∧ Below w5.heap.size w5 w7) fun e w7 ⟨p, r⟩ => ⟨p, r⟩)
  have RR := Lib.hid (fun w5 (T : TagM) (v : Value) (hT : TagIs w5 v T) (hF : TagTiny T) => (right_ref' v T w5 hT hF))
  have hs2 := hb2.size
  clear a1 a2 a3 a4 a5 hBx hb2 hgl hG2
  generalize madeT SA = TA at *
  have hBr : Below W2.heap.size W2 W2 := Below.refl _ _
  go_enter Tryz.func4, Tryz.ntmps4
  go_upto_region 1 with fail
  clear hW2
  go_wp2_with fail
  refine (AW.out _ hBr).mono ?_
  rintro e w5 ⟨rfl, hb5⟩
  obtain ⟨q0, q1, q2, q3, q4, q5, q6, q7⟩ := HC.out _ hb5
  go_wp2_with fail
  refine (MZ.out _ hb5).mono ?_
  rintro e w8 ⟨m1, m2, m3, m4, m5, m6, m7, m8, rfl, hI8, hb28⟩
  clear q0 q1 q2 q3 q4 q5 q6 q7
  obtain ⟨W9, hW9⟩ : ∃ W9, w8.alloc (.cells #[.string TA.lang, .slice m1 TA.extl.length m2, .string TA.script, .string TA.region, .slice m3 TA.vars.length m4, .slice m5 TA.exts.length m6, .slice m7 TA.priv.length m8, .string TA.grand] 25) = W9 := ⟨_, rfl⟩
  have hb89 : Below w8.heap.size w8 W9 := by rw [← hW9]; exact (Below.refl _ w8).alloc (Nat.le_refl _) _
  have hX9 : W9.heap[w8.heap.size]? = some (.cells #[.string TA.lang, .slice m1 TA.extl.length m2, .string TA.script, .string TA.region, .slice m3 TA.vars.length m4, .slice m5 TA.exts.length m6, .slice m7 TA.priv.length m8, .string TA.grand] 25 (0, 0)) := by rw [← hW9]; exact World.alloc_heap_new w8 _
  have hb29 := hb28.trans (hb89.mono hb28.size)
  have hIA := hI8.below hb89
  obtain ⟨bY, hbY⟩ : ∃ bY, w8.heap.size = bY := ⟨_, rfl⟩
  rw [hbY] at hX9
  have HQ := Lib.hid (fun w' (hb : Below W9.heap.size W9 w') => tag_cells ((hb.block _ (lt_of_heap hX9)).trans hX9))
  have H2 := Lib.hid (fun w' (hb : Below W9.heap.size W9 w') => hb29.trans (hb.mono hb29.size))
  have OA := Lib.hid (fun w5 (hb : Below W9.heap.size W9 w5) => (RO.out w5 TA _ (hIA.below hb) fA (H2.out w5 hb)).mono (R' := fun e w7 => e = .returned (.bool (rightT TA)) ∧ Below W9.heap.size W9 w7) fun e w7 ⟨p, q⟩ => ⟨p, hb.trans (q.mono hb.size)⟩)
  have PA := Lib.hid (fun w5 (hb : Below W9.heap.size W9 w5) => (RR.out w5 TA _ (hIA.below hb) fA).mono (R' := fun e w7 => e = .returned (.bool (rightT TA)) ∧ Below W9.heap.size W9 w7) fun e w7 ⟨p, q⟩ => ⟨p, hb.trans (q.mono hb.size)⟩)
  have HIA := Lib.hid hIA
  have HFA := Lib.hid fA
  have HRS := Lib.hid (fun (h : rightT TA = true) (hl : TA.lang.size ≠ 0) => right_subs h hl)
  obtain ⟨rA, hrA⟩ : ∃ rA, rightT TA = rA := ⟨_, rfl⟩
  have HRA := Lib.hid hrA
  rw [hrA] at OA PA
  have hB9 : Below W9.heap.size W9 W9 := Below.refl _ _
  obtain ⟨z0, z1, z2, z3, z4, z5, z6, z7⟩ := HQ.out W9 hB9
  have HX9 := Lib.hid hX9
  clear hb28 hb89 hX9 hb29 hIA hI8 fA hrA
  have HEND := Lib.hid (fun w' (hb : Below W9.heap.size W9 w') => HB2.out.trans ((H2.out w' hb).mono hs2))
  cases rA with
  | false =>
    by_cases hl : TA.lang.size = 0
    · have hl0 := empty_true (s := TA.lang) hl
      clear hl
      go_wp2_with (go_at_call 15; (with_reducible refine (OA.out _ hB9).mono ?_); rintro e w10 ⟨rfl, hb10⟩; obtain ⟨y0, y1, y2, y3, y4, y5, y6, y7⟩ := HQ.out _ hb10)
      go_ret
      exact ⟨rfl, HEND.out _ hb10⟩
    · have hl0 := empty_false (s := TA.lang) (by omega)
      clear hl
      go_wp2_with (first
        | (go_at_call 15; (with_reducible refine (OA.out _ hB9).mono ?_); rintro e w10 ⟨rfl, hb10⟩; obtain ⟨y0, y1, y2, y3, y4, y5, y6, y7⟩ := HQ.out _ hb10)
        | (go_at_call 16; (with_reducible refine (PA.out _ hb10).mono ?_); rintro e w11 ⟨rfl, hb11⟩))
      go_ret
      exact ⟨rfl, HEND.out _ hb11⟩
  | true =>
    by_cases hl : TA.lang.size = 0
    · have hl0 := empty_true (s := TA.lang) hl
      clear hl
      go_wp2_with (go_at_call 15; (with_reducible refine (OA.out _ hB9).mono ?_); rintro e w10 ⟨rfl, hb10⟩; obtain ⟨y0, y1, y2, y3, y4, y5, y6, y7⟩ := HQ.out _ hb10)
      go_ret
      exact ⟨rfl, HEND.out _ hb10⟩
    · have hl0 := empty_false (s := TA.lang) (by omega)
      have HSB := Lib.hid (HRS.out HRA.out hl)
      have HL := Lib.hid hl
      have SU := Lib.hid (fun w5 (hb : Below W9.heap.size W9 w5) => (subtags_own _ TA w5 (HIA.out.below hb) HFA.out.fits).mono (R' := fun e w7 => ∃ u, e = .returned u ∧ Row w7 u (subtagsT TA) ∧ Below W9.heap.size W9 w7) fun e w7 ⟨u, p, q, r⟩ => ⟨u, p, Row.of_own q, hb.trans (r.mono hb.size)⟩)
      have hlen := tiny_len HFA.out
      have HSZ := Lib.hid (tiny_sizes HFA.out)
      clear hl
      generalize subtagsT TA = L at *
      go_wp2_with (first
        | (go_at_call 15; (with_reducible refine (OA.out _ hB9).mono ?_); rintro e w10 ⟨rfl, hb10⟩; obtain ⟨y0, y1, y2, y3, y4, y5, y6, y7⟩ := HQ.out _ hb10)
        | (go_at_call 17; (with_reducible refine (SU.out _ hb10).mono ?_); rintro e w11 ⟨u, rfl, hr11, hb11⟩; obtain ⟨ao, c, rfl, hc⟩ := hr11; have HCR := Lib.hid hc; clear hc))
      go_loopw [8] (fun i wr => ∃ k : Nat, k ≤ L.length ∧ i = .int .i64 (k : Int) ∧ Below w11.heap.size w11 wr) (fun i _ => L.length - (intOf i).toNat)
      case atStart => exact ⟨0, Nat.zero_le _, rfl, Below.refl _ _⟩
      case round =>
        obtain ⟨k, hk, rfl, hB⟩ := hrel
        by_cases hlt : k < L.length
        · have hki : (k : Int) < (L.length : Int) := by omega
          have hk0 : (0 : Int) ≤ (k : Int) := by omega
          obtain ⟨x, hx⟩ : ∃ x, L[k]? = some x := ⟨_, List.getElem?_eq_getElem hlt⟩
          obtain ⟨g, rfl, hcx⟩ := HCR.out k x hx
          have c1 := (hB.cell (p := ⟨g, k, none⟩) (lt_of_cellF hcx)).trans hcx
          have hm := List.mem_of_getElem? hx
          have SB := Lib.hid (sub_ref x wr (by have := HSZ.out x hm; omega))
          rw [HSB.out x hm] at SB
          clear hcx hx hm
          go_wp2_with (go_at_call 18; (with_reducible refine SB.out.mono ?_); rintro e w12 ⟨rfl, hb12⟩)
          go_roundw
          case rel => exact ⟨k + 1, by omega, by go_num, by rw [← hb12]; exact hB⟩
          case measure => simp [intOf]; omega
        · obtain rfl : k = L.length := by omega
          have hki : ¬ (L.length : Int) < (L.length : Int) := by omega
          have hbw := hb11.trans (hB.mono hb11.size)
          have CL := Lib.hid (clone_own _ TA wr (HIA.out.below hbw) HFA.out.fits)
          obtain ⟨x0, x1, x2, x3, x4, x5, x6, x7⟩ := HQ.out _ hbw
          have HBW := Lib.hid hbw
          clear hbw hB
          go_wp2_with fail
          refine CL.out.mono ?_
          rintro e w13 ⟨ce, cv, cx, cp, rfl, hcl, hb13⟩
          have hbw13 := HBW.out.trans (hb13.mono HBW.out.size)
          obtain ⟨u1, u2, rfl, -⟩ := Row.of_own hcl.e
          obtain ⟨u3, u4, rfl, -⟩ := Row.of_own hcl.v
          obtain ⟨u5, u6, rfl, -⟩ := hcl.x.row
          obtain ⟨u7, u8, rfl, -⟩ := Row.of_own hcl.p
          obtain ⟨W14, hW14⟩ : ∃ W14, w13.alloc (.cells #[.string TA.lang, .slice u1 TA.extl.length u2, .string TA.script, .string TA.region, .slice u3 TA.vars.length u4, .slice u5 TA.exts.length u6, .slice u7 TA.priv.length u8, .string TA.grand] 25) = W14 := ⟨_, rfl⟩
          have hb14 : Below w13.heap.size w13 W14 := by rw [← hW14]; exact (Below.refl _ w13).alloc (Nat.le_refl _) _
          have hX14 : W14.heap[w13.heap.size]? = some (.cells #[.string TA.lang, .slice u1 TA.extl.length u2, .string TA.script, .string TA.region, .slice u3 TA.vars.length u4, .slice u5 TA.exts.length u6, .slice u7 TA.priv.length u8, .string TA.grand] 25 (0, 0)) := by rw [← hW14]; exact World.alloc_heap_new w13 _
          have hbw14 := hbw13.trans (hb14.mono hbw13.size)
          have hU1 := ownsRow_belowF hcl.e hb14
          have hU2 := ownsRow_belowF hcl.v hb14
          have hU3 := hcl.x.below hb14
          have hU4 := ownsRow_belowF hcl.p hb14
          have hul : W9.heap.size ≤ w13.heap.size := hbw13.size
          have hb0 : W9.heap.size ≤ wr.heap.size := HBW.out.size
          have hw0 : wr.heap.size ≤ w13.heap.size := hb13.size
          obtain ⟨bU, hbU⟩ : ∃ bU, w13.heap.size = bU := ⟨_, rfl⟩
          rw [hbU] at hX14 hul hw0
          have HX14 := Lib.hid hX14
          have HU1 := Lib.hid hU1
          have HU2 := Lib.hid hU2
          have HU3 := Lib.hid hU3
          have HU4 := Lib.hid hU4
          have HB14 := Lib.hid hbw14
          obtain ⟨k0, k1, k2, k3, k4, k5, k6, k7⟩ := tag_cells hX14
          have fz2 := cells_frozen 2 hX14
          have fz3 := cells_frozen 3 hX14
          have fz4 := cells_frozen 4 hX14
          have fz5 := cells_frozen 5 hX14
          have fz6 := cells_frozen 6 hX14
          obtain ⟨p1, p2, p3, p4⟩ := pick_facts 5 n (by decide)
          have p1 : (-5 : Int) < Int.tmod n 5 := p1
          have p2 : Int.tmod n 5 < (5 : Int) := p2
          have p3 : Int.tmod (Int.tmod n 5 + 5) 5 = (pickI 5 n : Int) := p3
          generalize pickI 5 n = N at *
          clear hcl hb13 hbw13 hb14 hX14 hbw14 hU1 hU2 hU3 hU4
          have P3 := Lib.hid (mod5_of p1 p3)
          clear p3
          go_upto_block 2 with fail
          clear hW14 hbU
          go_cut [10] from 54 to 66 (fun u wx => u = .pointer (some ⟨bU, 0, none⟩) ∧ ∃ TU f1 f2 f3 f4 f5 f6 f7 f8, wx.heap[bU]? = some (.cells #[.string TU.lang, .slice f1 TU.extl.length f2, .string TU.script, .string TU.region, .slice f3 TU.vars.length f4, .slice f5 TU.exts.length f6, .slice f7 TU.priv.length f8, .string TU.grand] 25 (0, 0)) ∧ TagIs wx (.agg #[.string TU.lang, .slice f1 TU.extl.length f2, .string TU.script, .string TU.region, .slice f3 TU.vars.length f4, .slice f5 TU.exts.length f6, .slice f7 TU.priv.length f8, .string TU.grand]) TU ∧ TagTiny TU ∧ Below W9.heap.size W9 wx)
          case first =>
            have hN : N = 0 ∨ N = 1 ∨ N = 2 ∨ N = 3 ∨ N = 4 := by omega
            rcases hN with rfl | rfl | rfl | rfl | rfl
            · have p5 : Int.tmod n 5 % 5 = 0 := P3.out
              go_wp2_with fail
              go_meet
              case rel =>
                have t := HFA.out
                have gs := grown_setF (World.grownBy.refl W14 (some bU)) 4 (.slice none 0 0)
                have e' := HU1.out.kept gs (.inr (own_not_tag HU1.out HX14.out))
                have v' := HU2.out.kept gs (.inr (own_not_tag HU2.out HX14.out))
                have x' := HU3.out.kept gs (fun g hg => by cases hg; exact .inr ⟨_, HX14.out⟩)
                have p' := HU4.out.kept gs (.inr (own_not_tag HU4.out HX14.out))
                exact ⟨rfl, { TA with vars := [] }, u1, u2, none, 0, u5, u6, u7, u8, cells_set HX14.out _, ⟨_, _, _, _, rfl, Row.of_own e', row_nil _, x'.row, Row.of_own p'⟩, ⟨t.e, by simp, t.x, t.p, t.sl, t.ss, t.sr, t.sg, t.se, fun x h => by simp at h, t.sp, t.sx⟩, HB14.out.grown gs HB14.out.size (fun g hg => by cases hg; exact hul)⟩
            · have p5 : Int.tmod n 5 % 5 = 1 := P3.out
              go_wp2_with fail
              go_meet
              case rel =>
                have t := HFA.out
                have gs := grown_setF (World.grownBy.refl W14 (some bU)) 5 (.slice none 0 0)
                have e' := HU1.out.kept gs (.inr (own_not_tag HU1.out HX14.out))
                have v' := HU2.out.kept gs (.inr (own_not_tag HU2.out HX14.out))
                have x' := HU3.out.kept gs (fun g hg => by cases hg; exact .inr ⟨_, HX14.out⟩)
                have p' := HU4.out.kept gs (.inr (own_not_tag HU4.out HX14.out))
                exact ⟨rfl, { TA with exts := [] }, u1, u2, u3, u4, none, 0, u7, u8, cells_set HX14.out _, ⟨_, _, _, _, rfl, Row.of_own e', Row.of_own v', xrow_nil _, Row.of_own p'⟩, ⟨t.e, t.v, by simp, t.p, t.sl, t.ss, t.sr, t.sg, t.se, t.sv, t.sp, fun x h => by simp at h⟩, HB14.out.grown gs HB14.out.size (fun g hg => by cases hg; exact hul)⟩
            · have p5 : Int.tmod n 5 % 5 = 2 := P3.out
              go_wp2_with fail
              go_meet
              case rel =>
                have t := HFA.out
                have gs := grown_setF (World.grownBy.refl W14 (some bU)) 6 (.slice none 0 0)
                have e' := HU1.out.kept gs (.inr (own_not_tag HU1.out HX14.out))
                have v' := HU2.out.kept gs (.inr (own_not_tag HU2.out HX14.out))
                have x' := HU3.out.kept gs (fun g hg => by cases hg; exact .inr ⟨_, HX14.out⟩)
                have p' := HU4.out.kept gs (.inr (own_not_tag HU4.out HX14.out))
                exact ⟨rfl, { TA with priv := [] }, u1, u2, u3, u4, u5, u6, none, 0, cells_set HX14.out _, ⟨_, _, _, _, rfl, Row.of_own e', Row.of_own v', x'.row, row_nil _⟩, ⟨t.e, t.v, t.x, by simp, t.sl, t.ss, t.sr, t.sg, t.se, t.sv, fun x h => by simp at h, t.sx⟩, HB14.out.grown gs HB14.out.size (fun g hg => by cases hg; exact hul)⟩
            · have p5 : Int.tmod n 5 % 5 = 3 := P3.out
              go_wp2_with fail
              go_meet
              case rel =>
                have t := HFA.out
                have gs := grown_setF (World.grownBy.refl W14 (some bU)) 2 (.string ⟨#[]⟩)
                have e' := HU1.out.kept gs (.inr (own_not_tag HU1.out HX14.out))
                have v' := HU2.out.kept gs (.inr (own_not_tag HU2.out HX14.out))
                have x' := HU3.out.kept gs (fun g hg => by cases hg; exact .inr ⟨_, HX14.out⟩)
                have p' := HU4.out.kept gs (.inr (own_not_tag HU4.out HX14.out))
                exact ⟨rfl, { TA with script := ⟨#[]⟩ }, u1, u2, u3, u4, u5, u6, u7, u8, cells_set HX14.out _, ⟨_, _, _, _, rfl, Row.of_own e', Row.of_own v', x'.row, Row.of_own p'⟩, ⟨t.e, t.v, t.x, t.p, t.sl, Nat.zero_le _, t.sr, t.sg, t.se, t.sv, t.sp, t.sx⟩, HB14.out.grown gs HB14.out.size (fun g hg => by cases hg; exact hul)⟩
            · have p5 : Int.tmod n 5 % 5 = 4 := P3.out
              go_wp2_with fail
              go_meet
              case rel =>
                have t := HFA.out
                have gs := grown_setF (World.grownBy.refl W14 (some bU)) 3 (.string ⟨#[]⟩)
                have e' := HU1.out.kept gs (.inr (own_not_tag HU1.out HX14.out))
                have v' := HU2.out.kept gs (.inr (own_not_tag HU2.out HX14.out))
                have x' := HU3.out.kept gs (fun g hg => by cases hg; exact .inr ⟨_, HX14.out⟩)
                have p' := HU4.out.kept gs (.inr (own_not_tag HU4.out HX14.out))
                exact ⟨rfl, { TA with region := ⟨#[]⟩ }, u1, u2, u3, u4, u5, u6, u7, u8, cells_set HX14.out _, ⟨_, _, _, _, rfl, Row.of_own e', Row.of_own v', x'.row, Row.of_own p'⟩, ⟨t.e, t.v, t.x, t.p, t.sl, t.ss, Nat.zero_le _, t.sg, t.se, t.sv, t.sp, t.sx⟩, HB14.out.grown gs HB14.out.size (fun g hg => by cases hg; exact hul)⟩
          case rest =>
            obtain ⟨rfl, TU, f1, f2, f3, f4, f5, f6, f7, f8, hXU, hIU, fU, hBU⟩ := hcut
            obtain ⟨wo, rfl⟩ : ∃ x, x = wc := ⟨_, rfl⟩
            have HQU := Lib.hid (fun w' (hb : Below wo.heap.size wo w') => tag_cells ((hb.block _ (lt_of_heap hXU)).trans hXU))
            have OU := Lib.hid (fun w5 (hb : Below wo.heap.size wo w5) => (RO.out w5 TU _ (hIU.below hb) fU (H2.out w5 (hBU.trans (hb.mono hBU.size)))).mono (R' := fun e w7 => e = .returned (.bool (rightT TU)) ∧ Below wo.heap.size wo w7) fun e w7 ⟨p, q⟩ => ⟨p, hb.trans (q.mono hb.size)⟩)
            have PU := Lib.hid (fun w5 (hb : Below wo.heap.size wo w5) => (RR.out w5 TU _ (hIU.below hb) fU).mono (R' := fun e w7 => e = .returned (.bool (rightT TU)) ∧ Below wo.heap.size wo w7) fun e w7 ⟨p, q⟩ => ⟨p, hb.trans (q.mono hb.size)⟩)
            have HBU := Lib.hid hBU
            generalize rightT TU = rU at *
            have hq1 : (rU == rU) = true := beq_self_eq_true _
            have hBd : Below wo.heap.size wo wo.drew := Below.drew (Below.refl _ _)
            clear hXU hIU fU hBU
            go_upto_region 23 with fail
            go_region_held3 (fun w' => Below wo.heap.size wo w' ∧ (w'.cell? ⟨bU, 0, none⟩ = some (.string TU.lang) ∧ w'.cell? ⟨bU, 1, none⟩ = some (.slice f1 TU.extl.length f2) ∧ w'.cell? ⟨bU, 2, none⟩ = some (.string TU.script) ∧ w'.cell? ⟨bU, 3, none⟩ = some (.string TU.region) ∧ w'.cell? ⟨bU, 4, none⟩ = some (.slice f3 TU.vars.length f4) ∧ w'.cell? ⟨bU, 5, none⟩ = some (.slice f5 TU.exts.length f6) ∧ w'.cell? ⟨bU, 6, none⟩ = some (.slice f7 TU.priv.length f8) ∧ w'.cell? ⟨bU, 7, none⟩ = some (.string TU.grand)))
              (first | exact ⟨by assumption, HQU.out _ (by assumption)⟩)
              (first
                | (go_at_call 15; (with_reducible refine (OU.out _ (by assumption)).mono ?_); rintro e w15 ⟨rfl, hb15⟩)
                | (go_at_call 16; (with_reducible refine (PU.out _ (by assumption)).mono ?_); rintro e w15 ⟨rfl, hb15⟩))
            all_goals
              go_wp2_with fail
              go_ret
              exact ⟨rfl, HEND.out _ (HBU.out.trans (hb15.mono HBU.out.size))⟩
end Go.Proofs.YtajdfckppnedjaaGreatDoor
