/-
  ParsePrivate: the walk of the law.
-/
import Derived.Test.YtggfdmhfcpabdaaGreatDoorPPriv
import Derived.Test.YtggfdmhfcpabdaaGreatDoorPBackLaw
namespace Go.Proofs.YtggfdmhfcpabdaaGreatDoor
open Go Go.RowKit

/-- A row of texts is not touched by what is written among cells that are no texts. -/
theorem Row.setOther {W : World} {v u : Value} {l : List ByteArray} {n k : Nat} {cs : Array Value} {t : TypeId} (h : Row W v l) (hn : W.heap[n]? = some (.cells cs t (0, 0))) (hc : ∀ (i : Nat) (x : ByteArray), cs[i]? ≠ some (Value.string x)) : Row (W.setCell ⟨n, k, none⟩ u) v l := by
  obtain ⟨ao, c, e, hr⟩ := h
  refine ⟨ao, c, e, fun i x hx => ?_⟩
  obtain ⟨g, h1, h2⟩ := hr i x hx
  refine ⟨g, h1, ?_⟩
  have hgn : g ≠ n := by
    rintro rfl
    simp [World.cell?, hn] at h2
    exact hc i x h2
  exact (World.cell?_of_block (a := ⟨g, i, none⟩) (Below.heap_setCell W ⟨n, k, none⟩ _ _ hgn)).trans h2
theorem seed_plain {a b c d h : Int} {va ka pa : Value} (x1 : ∀ x, va ≠ .string x) (x2 : ∀ x, ka ≠ .string x) (x3 : ∀ x, pa ≠ .string x) : ∀ (i : Nat) (x : ByteArray), (#[Value.int .i64 a, .int .i64 b, .int .i64 c, .int .i64 d, va, ka, pa, .int .i64 h])[i]? ≠ some (.string x) := by
  intro i x e
  rcases i with _ | _ | _ | _ | _ | _ | _ | _ | i <;> simp at e
  · exact x1 _ e
  · exact x2 _ e
  · exact x3 _ e
theorem ints_nil (W : World) : IntsA W (.slice none 0 0) [] := by
  exact ⟨none, 0, rfl, Nat.zero_le _, fun i n h => by simp at h⟩
theorem made_bare (S : SeedM) : (madeT { S with odd := 0, priv := [] }).priv = [] := by
  unfold madeT spoiltT
  simp [show pickI 12 (0 : Int) = 0 from rfl, madeP]

/-- Where something is wrong, no tag comes back. -/
theorem parse_err {s : ByteArray} {T : TagM} {e : PErr} (h : parseS s = (T, some e)) : T = pNo := by
  unfold parseS at h
  split at h
  · cases h
  · obtain ⟨⟨st, r⟩, hr⟩ : ∃ z, readS s = z := ⟨_, rfl⟩
    rw [hr] at h
    cases r with
    | none => cases h
    | some e2 => exact (congrArg Prod.fst h).symm
/-- A tag's rows, each by its value. -/
theorem rows_of {W : World} {T : TagM} {a b c d : Value} (h : TagIs W (.agg #[.string T.lang, a, .string T.script, .string T.region, b, c, d, .string T.grand]) T) : Row W a T.extl ∧ Row W b T.vars ∧ ExtRow W c T.exts ∧ Row W d T.priv := by
  obtain ⟨x1, x2, x3, x4, e, h1, h2, h3, h4⟩ := h
  obtain ⟨rfl, rfl, rfl, rfl⟩ := few_inj e
  exact ⟨h1, h2, h3, h4⟩
theorem place_none {s : ByteArray} (h : chkS s = none) : placeE s = -1 := by unfold placeE; rw [h]
theorem place_some {s : ByteArray} (h : chkS s ≠ none) : 0 ≤ placeE s := by
  unfold placeE
  cases hc : chkS s with
  | none => exact absurd hc h
  | some a => exact Int.natCast_nonneg a
set_option maxRecDepth 100000 in
set_option maxHeartbeats 8000000 in
theorem parsePrivate_law (SA : SeedM) (s : ByteArray) (va ka pa : Value) (w : World) (hs : s.size ≤ maxLen)
    (a1 : IntsA w va SA.vars) (a2 : IntsA w ka SA.keys) (a3 : IntsA w pa SA.priv) (a4 : -9223372036854775808 ≤ SA.extl) (a5 : SA.extl ≤ 9223372036854775807) (hl : ParseLaid w) :
    Calls Tryz.prog 8 #[.string s, .agg #[.int .i64 SA.lang, .int .i64 SA.extl, .int .i64 SA.script, .int .i64 SA.region, va, ka, pa, .int .i64 SA.odd]] w fun e w' => e = .returned (.bool true) ∧ Below w.heap.size w w' := by
  obtain ⟨W2, hW2⟩ : ∃ W2, w.alloc (.cells #[.int .i64 SA.lang, .int .i64 SA.extl, .int .i64 SA.script, .int .i64 SA.region, va, ka, pa, .int .i64 SA.odd] 24) = W2 := ⟨_, rfl⟩
  have hb2 : Below w.heap.size w W2 := by rw [← hW2]; exact (Below.refl _ w).alloc (Nat.le_refl _) _
  have hA : W2.heap[w.heap.size]? = some (.cells #[.int .i64 SA.lang, .int .i64 SA.extl, .int .i64 SA.script, .int .i64 SA.region, va, ka, pa, .int .i64 SA.odd] 24 (0, 0)) := by rw [← hW2]; exact World.alloc_heap_new w _
  have hlA := lt_of_heap hA
  obtain ⟨c80, hc80⟩ : ∃ c, cut80 s = c := ⟨_, rfl⟩
  have hcz : c80.size ≤ 80 := by rw [← hc80]; exact size_cut80 s
  have SH := Lib.hid (fun w5 => (short7_any s w5 hs).mono (R' := fun e w6 => e = .returned (.string c80) ∧ w5 = w6) fun e w6 ⟨p, q⟩ => ⟨by rw [p, hc80], q⟩)
  have AW := Lib.hid ((awakeP_law W2 (hl.below hb2)).mono (R' := fun e w6 => e = .returned (.bool true) ∧ Below W2.heap.size W2 w6) fun e w6 ⟨p, q⟩ => ⟨p, q⟩)
  obtain ⟨pE, hpE⟩ : ∃ p, placeE c80 = p := ⟨_, rfl⟩
  have CK := Lib.hid (fun w5 (hb : Below W2.heap.size W2 w5) => (check_ref c80 w5 (by omega)).mono (R' := fun e w6 => e = .returned (.agg #[.int .i64 (kindE c80), .int .i64 pE]) ∧ Below W2.heap.size W2 w6) fun e w6 ⟨p, q⟩ => ⟨by rw [p, hpE], hb.trans (q.mono hb.size)⟩)
  have hpn : chkS c80 = none → pE = -1 := fun h => by rw [← hpE]; exact place_none h
  have hps : chkS c80 ≠ none → 0 ≤ pE := fun h => by rw [← hpE]; exact place_some h
  obtain ⟨l, hll⟩ : ∃ l, (splS c80).map lowS = l := ⟨_, rfl⟩
  have hln : l.length ≤ 81 := by rw [← hll, List.length_map]; have := splS_le c80; omega
  obtain ⟨d80, hd80⟩ : ∃ d, lowS c80 = d := ⟨_, rfl⟩
  have hsd : splS d80 = l := by rw [← hd80, splS_low, hll]
  have hdz : d80.size ≤ 80 := by rw [← hd80, size_lowS]; exact hcz
  have LO := Lib.hid (fun w5 => (lower_ref c80 w5 (by omega)).mono (R' := fun e w6 => e = .returned (.string d80) ∧ Below w5.heap.size w5 w6) fun e w6 ⟨p, q⟩ => ⟨by rw [p, hd80], q⟩)
  have SP := Lib.hid (fun w5 => (split_ref d80 w5 (by omega)).mono (R' := fun e w6 => ∃ u, e = .returned u ∧ Row w6 u l ∧ Below w5.heap.size w5 w6) fun e w6 ⟨u, p, q, r⟩ => ⟨u, p, by rw [← hsd]; exact Row.of_own q, r⟩)
  have hx1 : (⟨#[120, 45]⟩ ++ c80 : ByteArray) = sX ++ ⟨#[45]⟩ ++ c80 := by
    apply ofL_ext; rw [bs_glue]; simp [bs, ByteArray.data_append, sX]
  obtain ⟨A, hAA⟩ : ∃ A, (⟨#[120, 45]⟩ ++ c80 : ByteArray) = A := ⟨_, rfl⟩
  have hAz : A.size = 2 + c80.size := by rw [← hAA, hx1, size_glue]; rfl
  obtain ⟨p11, p12⟩ := parse_x c80
  rw [← hx1, hAA, hll] at p11
  rw [← hx1, hAA] at p12
  obtain ⟨⟨T1, r1⟩, hP1⟩ : ∃ z, parseS A = z := ⟨_, rfl⟩
  rw [hP1] at p11 p12
  have PA1 := Lib.hid (fun w5 (hb : Below W2.heap.size W2 w5) => (parse_own A w5 (by omega) ((hl.below hb2).below hb).g).mono (R' := fun e w7 => ∃ h1 h2 h3 h4 h5 h6 h7 h8 ev, e = .returned (.tuple #[.agg #[.string T1.lang, .slice h1 T1.extl.length h2, .string T1.script, .string T1.region, .slice h3 T1.vars.length h4, .slice h5 T1.exts.length h6, .slice h7 T1.priv.length h8, .string T1.grand], ev]) ∧ TagIs w7 (.agg #[.string T1.lang, .slice h1 T1.extl.length h2, .string T1.script, .string T1.region, .slice h3 T1.vars.length h4, .slice h5 T1.exts.length h6, .slice h7 T1.priv.length h8, .string T1.grand]) T1 ∧ ErrP w7 r1 ev ∧ Below W2.heap.size W2 w7) fun e w7 ⟨tv, ev, p, q, o, z⟩ => by
    rw [hP1] at q o
    obtain ⟨ae, ac, av, vc, ax, xc, ap, pc, rfl⟩ := tag_shape q
    exact ⟨ae, ac, av, vc, ax, xc, ap, pc, ev, p, q, o, hb.trans (z.mono hb.size)⟩)
  have MZ := Lib.hid (fun w5 (hb : Below w.heap.size w w5) => (show Calls Tryz.prog 11 #[.agg #[.int .i64 SA.lang, .int .i64 SA.extl, .int .i64 SA.script, .int .i64 SA.region, va, ka, .slice none 0 0, .int .i64 0]] w5 _ from made_any { SA with odd := 0, priv := [] } va ka (.slice none 0 0) w5 (a1.below hb) (a2.below hb) (ints_nil w5) a4 a5).mono (R' := fun e w7 => ∃ f1 f2 f3 f4 f5 f6 f7 f8, e = .returned (.agg #[.string (madeT { SA with odd := 0, priv := [] }).lang, .slice f1 (madeT { SA with odd := 0, priv := [] }).extl.length f2, .string (madeT { SA with odd := 0, priv := [] }).script, .string (madeT { SA with odd := 0, priv := [] }).region, .slice f3 (madeT { SA with odd := 0, priv := [] }).vars.length f4, .slice f5 (madeT { SA with odd := 0, priv := [] }).exts.length f6, .slice f7 (madeT { SA with odd := 0, priv := [] }).priv.length f8, .string (madeT { SA with odd := 0, priv := [] }).grand]) ∧ TagIs w7 (.agg #[.string (madeT { SA with odd := 0, priv := [] }).lang, .slice f1 (madeT { SA with odd := 0, priv := [] }).extl.length f2, .string (madeT { SA with odd := 0, priv := [] }).script, .string (madeT { SA with odd := 0, priv := [] }).region, .slice f3 (madeT { SA with odd := 0, priv := [] }).vars.length f4, .slice f5 (madeT { SA with odd := 0, priv := [] }).exts.length f6, .slice f7 (madeT { SA with odd := 0, priv := [] }).priv.length f8, .string (madeT { SA with odd := 0, priv := [] }).grand]) (madeT { SA with odd := 0, priv := [] }) ∧ Below w5.heap.size w5 w7) fun e w7 ⟨u, p, q, r⟩ => by
    obtain ⟨ae, ac, av, vc, ax, xc, ap, pc, rfl⟩ := tag_shape q
    exact ⟨ae, ac, av, vc, ax, xc, ap, pc, p, q, r⟩)
  have MO := made_ok { SA with odd := 0, priv := [] } rfl
  have hp0 := made_bare SA
  have x1 : ∀ x, va ≠ .string x := fun x e => by obtain ⟨ao, cp, e2, _⟩ := a1; rw [e2] at e; cases e
  have x2 : ∀ x, ka ≠ .string x := fun x e => by obtain ⟨ao, cp, e2, _⟩ := a2; rw [e2] at e; cases e
  have x3 : ∀ x, pa ≠ .string x := fun x e => by obtain ⟨ao, cp, e2, _⟩ := a3; rw [e2] at e; cases e
  have HL := Lib.hid hl
  clear a1 a2 a3 a4 a5 hs hc80 hl hpE hd80 hsd hdz hx1
  generalize (madeT { SA with odd := 0, priv := [] }) = TA at *
  obtain ⟨p21, p22⟩ := parse_behind MO hp0 c80
  have hl2 : (splS c80).map lowS = l := hll
  have hnd : ∀ T' e, parseS (joinS (subtagsT TA) ++ ⟨#[45, 120, 45]⟩ ++ c80) = (T', some e) → T' = pNo := fun T' e h => parse_err h
  obtain ⟨⟨T2, r2⟩, hP2⟩ : ∃ z, parseS (joinS (subtagsT TA) ++ ⟨#[45, 120, 45]⟩ ++ c80) = z := ⟨_, rfl⟩
  have htx := text_size2 MO.t
  have hbz : (joinS (subtagsT TA) ++ ⟨#[45, 120, 45]⟩ ++ c80).size ≤ 40000 := by
    rw [ByteArray.size_append, ByteArray.size_append]
    have : (⟨#[45, 120, 45]⟩ : ByteArray).size = 3 := rfl
    omega
  have fA := MO.t
  rw [hP2] at p21 p22
  rw [hl2] at p21
  have hT1 : T1.priv.length ≤ 81 := by
    by_cases hc : chkS c80 = none
    · obtain ⟨rfl, _⟩ := Prod.mk.inj (p11 hc); exact hln
    · obtain ⟨a, _, e⟩ := p12 hc; obtain ⟨rfl, _⟩ := Prod.mk.inj e; exact Nat.zero_le _
  have hT2 : T2.priv.length ≤ 81 := by
    by_cases hc : chkS c80 = none
    · obtain ⟨rfl, _⟩ := Prod.mk.inj (p21 hc); exact hln
    · obtain ⟨T', e, h⟩ := p22 hc
      obtain rfl := hnd T' e (by rw [hP2, h])
      obtain ⟨rfl, _⟩ := Prod.mk.inj h; exact Nat.zero_le _
  have hfin : (chkS c80 = none ∧ pE = -1 ∧ T1.lang = ByteArray.empty ∧ T1.priv = l ∧ r1 = none ∧ T2.lang = TA.lang ∧ T2.priv = l ∧ r2 = none) ∨ (0 ≤ pE ∧ (∃ a : Nat, 2 ≤ a ∧ r1 = some (10, a, sSub)) ∧ ∃ e, r2 = some e) := by
    by_cases hc : chkS c80 = none
    · obtain ⟨rfl, rfl⟩ := Prod.mk.inj (p11 hc)
      obtain ⟨rfl, rfl⟩ := Prod.mk.inj (p21 hc)
      exact .inl ⟨hc, hpn hc, rfl, rfl, rfl, rfl, rfl, rfl⟩
    · obtain ⟨a, h2, e⟩ := p12 hc
      obtain ⟨_, rfl⟩ := Prod.mk.inj e
      obtain ⟨T', e2, h⟩ := p22 hc
      obtain ⟨_, rfl⟩ := Prod.mk.inj h
      exact .inr ⟨hps hc, ⟨a, h2, rfl⟩, e2, rfl⟩
  clear p11 p12 p21 p22 hnd hpn hps MO hp0 hl2 hP1
  have n1 : ¬ 9223372036854775807 < 2 + c80.size := by omega
  have n2 : ¬ 9223372036854775807 < (joinS (subtagsT TA)).size + 3 := by omega
  have n3 : ¬ 9223372036854775807 < (joinS (subtagsT TA)).size + 3 + c80.size := by omega
  have hfd : ∀ w : World, (Instr.field 52 (.agg #[.int .i64 (kindE c80), .int .i64 pE]) 1).run Tryz.prog w = .ok (.int .i64 pE) w := fun _ => by kernel_rfl
  rw [← hAA] at PA1
  clear hAz hAA
  go_enter Tryz.func8, Tryz.ntmps8
  go_upto_region 5 with (first
    | (go_at_call 9; (with_reducible refine AW.out.mono ?_); rintro e w5 ⟨rfl, hb5⟩)
    | (go_at_call 16; (with_reducible refine (SH.out _).mono ?_); rintro e w6 ⟨rfl, rfl⟩)
    | (go_at_call 24; (with_reducible refine (CK.out _ hb5).mono ?_); rintro e w7 ⟨rfl, hb7⟩)
    | (go_at_call 19; (with_reducible refine (PA1.out _ (by assumption)).mono ?_); rintro e w8 ⟨h1, h2, h3, h4, h5, h6, h7, h8, ev1, rfl, hI8, hE8, hB8⟩))
  clear hW2 n1 hfd AW SH CK PA1 hb5 hb7
  obtain ⟨WA, hWA⟩ : ∃ W, w8.alloc (.cells #[.string T1.lang, .slice h1 T1.extl.length h2, .string T1.script, .string T1.region, .slice h3 T1.vars.length h4, .slice h5 T1.exts.length h6, .slice h7 T1.priv.length h8, .string T1.grand] 31) = W := ⟨_, rfl⟩
  have hbA : Below w8.heap.size w8 WA := by rw [← hWA]; exact (Below.refl _ _).alloc (Nat.le_refl _) _
  have hTA : WA.heap[w8.heap.size]? = some (.cells #[.string T1.lang, .slice h1 T1.extl.length h2, .string T1.script, .string T1.region, .slice h3 T1.vars.length h4, .slice h5 T1.exts.length h6, .slice h7 T1.priv.length h8, .string T1.grand] 31 (0, 0)) := by rw [← hWA]; exact World.alloc_heap_new w8 _
  have hBA := hB8.trans (hbA.mono hB8.size)
  have hSA := (hBA.block _ hlA).trans hA
  have c7 := rd_cell 7 hSA (v := .int .i64 SA.odd) rfl
  have z7 := cells_frozen 7 hSA
  have hSB : (WA.setCell ⟨w.heap.size, 7, none⟩ (.int .i64 0)).heap[w.heap.size]? = some (.cells #[.int .i64 SA.lang, .int .i64 SA.extl, .int .i64 SA.script, .int .i64 SA.region, va, ka, pa, .int .i64 0] 24 (0, 0)) := cells_set hSA (k := 7) (.int .i64 0)
  have c6 := rd_cell 6 hSB (v := pa) rfl
  have z6 := cells_frozen 6 hSB
  have hSC : ((WA.setCell ⟨w.heap.size, 7, none⟩ (.int .i64 0)).setCell ⟨w.heap.size, 6, none⟩ (.slice none 0 0)).heap[w.heap.size]? = some (.cells #[.int .i64 SA.lang, .int .i64 SA.extl, .int .i64 SA.script, .int .i64 SA.region, va, ka, .slice none 0 0, .int .i64 0] 24 (0, 0)) := cells_set hSB (k := 6) (.slice none 0 0)
  obtain ⟨q0, q1, q2, q3, q4, q5, q6, q7⟩ := tag_cells hSC
  have hBC : Below w.heap.size w ((WA.setCell ⟨w.heap.size, 7, none⟩ (.int .i64 0)).setCell ⟨w.heap.size, 6, none⟩ (.slice none 0 0)) := ((hb2.trans (hBA.mono hb2.size)).setCell (p := ⟨w.heap.size, 7, none⟩) (Nat.le_refl _) _).setCell (p := ⟨w.heap.size, 6, none⟩) (Nat.le_refl _) _
  have hRA := ((rows_of (hI8.below hbA)).2.2.2)
  have hRC := Row.setOther (v := .slice h7 T1.priv.length h8) (k := 6) (u := .slice none 0 0) (Row.setOther (k := 7) (u := .int .i64 0) hRA hSA (seed_plain x1 x2 x3)) hSB (seed_plain x1 x2 x3)
  have hnw : w8.heap.size ≠ w.heap.size := by have := hB8.size; omega
  have hTC : ((WA.setCell ⟨w.heap.size, 7, none⟩ (.int .i64 0)).setCell ⟨w.heap.size, 6, none⟩ (.slice none 0 0)).heap[w8.heap.size]? = some (.cells #[.string T1.lang, .slice h1 T1.extl.length h2, .string T1.script, .string T1.region, .slice h3 T1.vars.length h4, .slice h5 T1.exts.length h6, .slice h7 T1.priv.length h8, .string T1.grand] 31 (0, 0)) := by
    rw [Below.heap_setCell _ ⟨w.heap.size, 6, none⟩ _ _ hnw, Below.heap_setCell _ ⟨w.heap.size, 7, none⟩ _ _ hnw]; exact hTA
  have hEC : ErrP ((WA.setCell ⟨w.heap.size, 7, none⟩ (.int .i64 0)).setCell ⟨w.heap.size, 6, none⟩ (.slice none 0 0)) r1 ev1 := by
    rcases hE8 with h | ⟨x, b, h1, h2, h3⟩
    · exact .inl h
    · refine .inr ⟨x, b, h1, h2, ?_⟩
      have hne : b ≠ w.heap.size := by
        rintro rfl
        rw [(hB8.block _ hlA).trans hA] at h3
        have := congrArg (fun o : Option Obj => match o with | some (.cells cs _ _) => cs.size | _ => 0) h3
        simp [faultObj] at this
      rw [Below.heap_setCell _ ⟨w.heap.size, 6, none⟩ _ _ hne, Below.heap_setCell _ ⟨w.heap.size, 7, none⟩ _ _ hne]
      exact (hbA.block b (lt_of_heap h3)).trans h3
  rw [hWA]
  clear hWA hE8 hRA hTA hbA hI8 hB8 hBA hA hlA
  go_upto_region 8 with (go_at_call 11; (with_reducible refine (MZ.out _ hBC).mono ?_); rintro e w10 ⟨f1, f2, f3, f4, f5, f6, f7, f8, rfl, hI10, hB10⟩)
  generalize ((WA.setCell ⟨w.heap.size, 7, none⟩ (.int .i64 0)).setCell ⟨w.heap.size, 6, none⟩ (.slice none 0 0)) = WC at *
  obtain ⟨WM, hWM⟩ : ∃ W, w10.alloc (.cells #[.string TA.lang, .slice f1 TA.extl.length f2, .string TA.script, .string TA.region, .slice f3 TA.vars.length f4, .slice f5 TA.exts.length f6, .slice f7 TA.priv.length f8, .string TA.grand] 31) = W := ⟨_, rfl⟩
  have hbM : Below w10.heap.size w10 WM := by rw [← hWM]; exact (Below.refl _ _).alloc (Nat.le_refl _) _
  have hTM : WM.heap[w10.heap.size]? = some (.cells #[.string TA.lang, .slice f1 TA.extl.length f2, .string TA.script, .string TA.region, .slice f3 TA.vars.length f4, .slice f5 TA.exts.length f6, .slice f7 TA.priv.length f8, .string TA.grand] 31 (0, 0)) := by rw [← hWM]; exact World.alloc_heap_new w10 _
  have hCM := hB10.trans (hbM.mono hB10.size)
  have hlC := lt_of_heap hTC
  have hTAM := (hCM.block _ hlC).trans hTC
  have hRM := hRC.below hCM
  have hEM := hEC.below hCM
  have hIM := hI10.below hbM
  have hBM : Below w.heap.size w WM := hBC.trans (hCM.mono hBC.size)
  have hlM := HL.out.below hBM
  have hl1 := lt_of_heap hTAM
  have hl3 := lt_of_heap hTM
  have HCA := Lib.hid (fun (w' : World) (hb : Below WM.heap.size WM w') => tag_cells ((hb.block _ hl1).trans hTAM))
  have HCM := Lib.hid (fun (w' : World) (hb : Below WM.heap.size WM w') => tag_cells ((hb.block _ hl3).trans hTM))
  have HRA := Lib.hid (fun (w' : World) (hb : Below WM.heap.size WM w') => hRM.below hb)
  have HEA := Lib.hid (fun (w' : World) (hb : Below WM.heap.size WM w') => hEM.below hb)
  have HLT := Lib.hid (fun (w' : World) (hb : Below WM.heap.size WM w') => (hlM.below hb).t)
  have TZ := Lib.hid (fun w5 (hb : Below WM.heap.size WM w5) => (text_ref (.agg #[.string TA.lang, .slice f1 TA.extl.length f2, .string TA.script, .string TA.region, .slice f3 TA.vars.length f4, .slice f5 TA.exts.length f6, .slice f7 TA.priv.length f8, .string TA.grand]) TA w5 (hIM.below hb) fA).mono (R' := fun e w7 => e = .returned (.string (joinS (subtagsT TA))) ∧ Below WM.heap.size WM w7) fun e w7 ⟨p, q⟩ => ⟨p, hb.trans (q.mono hb.size)⟩)
  have PA2 := Lib.hid (fun w5 (hb : Below WM.heap.size WM w5) => (parse_own (joinS (subtagsT TA) ++ ⟨#[45, 120, 45]⟩ ++ c80) w5 (by omega) (hlM.below hb).g).mono (R' := fun e w7 => ∃ g1 g2 g3 g4 g5 g6 g7 g8 ev, e = .returned (.tuple #[.agg #[.string T2.lang, .slice g1 T2.extl.length g2, .string T2.script, .string T2.region, .slice g3 T2.vars.length g4, .slice g5 T2.exts.length g6, .slice g7 T2.priv.length g8, .string T2.grand], ev]) ∧ TagIs w7 (.agg #[.string T2.lang, .slice g1 T2.extl.length g2, .string T2.script, .string T2.region, .slice g3 T2.vars.length g4, .slice g5 T2.exts.length g6, .slice g7 T2.priv.length g8, .string T2.grand]) T2 ∧ ErrP w7 r2 ev ∧ Below WM.heap.size WM w7) fun e w7 ⟨tv, ev, p, q, o, z⟩ => by
    rw [hP2] at q o
    obtain ⟨ae, ac, av, vc, ax, xc, ap, pc, rfl⟩ := tag_shape q
    exact ⟨ae, ac, av, vc, ax, xc, ap, pc, ev, p, q, o, hb.trans (z.mono hb.size)⟩)
  have HBM := Lib.hid hBM
  have hsM := hBM.size
  have hBr := Below.refl WM.heap.size WM
  rw [hWM]
  clear hWM hbM hTM hCM hlC hTAM hRM hEM hIM hBM hlM hl1 hl3 hTC hRC hEC hBC hI10 hB10 MZ q0 q1 q2 q3 q4 q5 q6 q7 c6 c7 z6 z7 hSA hSB hSC hP2 hbz htx fA hnw x1 x2 x3
  generalize w8.heap.size = ba at *
  generalize w10.heap.size = bm at *
  obtain ⟨q0, q1, q2, q3, q4, q5, q6, q7⟩ := HCM.out _ hBr
  go_upto_region 9 with (first
    | (go_at_call 10; (with_reducible refine (TZ.out _ (by assumption)).mono ?_); rintro e w11 ⟨rfl, hB11⟩)
    | (go_at_call 19; (with_reducible refine (PA2.out _ (by assumption)).mono ?_); rintro e w12 ⟨g1, g2, g3, g4, g5, g6, g7, g8, ev2, rfl, hI12, hE12, hB12⟩))
  clear n2 n3 q0 q1 q2 q3 q4 q5 q6 q7 TZ PA2 hBr
  obtain ⟨WB, hWB⟩ : ∃ W, w12.alloc (.cells #[.string T2.lang, .slice g1 T2.extl.length g2, .string T2.script, .string T2.region, .slice g3 T2.vars.length g4, .slice g5 T2.exts.length g6, .slice g7 T2.priv.length g8, .string T2.grand] 31) = W := ⟨_, rfl⟩
  have hbB : Below w12.heap.size w12 WB := by rw [← hWB]; exact (Below.refl _ _).alloc (Nat.le_refl _) _
  have hTB : WB.heap[w12.heap.size]? = some (.cells #[.string T2.lang, .slice g1 T2.extl.length g2, .string T2.script, .string T2.region, .slice g3 T2.vars.length g4, .slice g5 T2.exts.length g6, .slice g7 T2.priv.length g8, .string T2.grand] 31 (0, 0)) := by rw [← hWB]; exact World.alloc_heap_new w12 _
  have hMB := hB12.trans (hbB.mono hB12.size)
  have hl4 := lt_of_heap hTB
  have hRB := (rows_of (hI12.below hbB)).2.2.2
  have hEB := hE12.below hbB
  have HCB := Lib.hid (fun (w' : World) (hb : Below WB.heap.size WB w') => tag_cells ((hb.block _ hl4).trans hTB))
  have HRB := Lib.hid (fun (w' : World) (hb : Below WB.heap.size WB w') => hRB.below hb)
  have HMB := Lib.hid (fun (w' : World) (hb : Below WB.heap.size WB w') => hMB.trans (hb.mono hMB.size))
  have S1 := Lib.hid (fun w5 u (hb : Below WB.heap.size WB w5) (hr : Row w5 u l) => (same_rows (.slice h7 T1.priv.length h8) u T1.priv l w5 (HRA.out _ (HMB.out _ hb)) hr (by omega)).mono (R' := fun e w6 => e = .returned (.bool (decide (T1.priv = l))) ∧ Below WB.heap.size WB w6) fun e w6 ⟨p, q⟩ => ⟨p, hb.trans (q.mono hb.size)⟩)
  have S2 := Lib.hid (fun w5 u (hb : Below WB.heap.size WB w5) (hr : Row w5 u l) => (same_rows (.slice g7 T2.priv.length g8) u T2.priv l w5 (HRB.out _ hb) hr (by omega)).mono (R' := fun e w6 => e = .returned (.bool (decide (T2.priv = l))) ∧ Below WB.heap.size WB w6) fun e w6 ⟨p, q⟩ => ⟨p, hb.trans (q.mono hb.size)⟩)
  have LO2 := Lib.hid (fun w5 (hb : Below WB.heap.size WB w5) => (LO.out w5).mono (R' := fun e w6 => e = .returned (.string d80) ∧ Below WB.heap.size WB w6) fun e w6 ⟨p, q⟩ => ⟨p, hb.trans (q.mono hb.size)⟩)
  have SP2 := Lib.hid (fun w5 (hb : Below WB.heap.size WB w5) => (SP.out w5).mono (R' := fun e w6 => ∃ u, e = .returned u ∧ Row w6 u l ∧ Below WB.heap.size WB w6) fun e w6 ⟨u, p, q, r⟩ => ⟨u, p, q, hb.trans (r.mono hb.size)⟩)
  rw [hWB]
  have hBB : Below WB.heap.size WB WB.drew := (Below.refl _ _).drew
  clear hWB hbB hTB hMB hl4 hRB hI12 hE12 hB12 hB11
  generalize w12.heap.size = bb at *
  have cA := (HCA.out _ (HMB.out _ hBB)).2.2.2.2.2.2.1
  go_region_held3 (fun w' => Below WB.heap.size WB w' ∧ w'.cell? ⟨ba, 6, none⟩ = some (.slice h7 T1.priv.length h8))
    (first | exact ⟨by assumption, by assumption⟩ | exact ⟨by assumption, (HCA.out _ (HMB.out _ (by assumption))).2.2.2.2.2.2.1⟩)
    (first
      | (go_at_call 27; (with_reducible refine (LO2.out _ (by assumption)).mono ?_); rintro e w13 ⟨rfl, hB13⟩)
      | (go_at_call 26; (with_reducible refine (SP2.out _ (by assumption)).mono ?_); rintro e w14 ⟨u1, rfl, hR14, hB14⟩)
      | (go_at_call 25; (with_reducible refine (S1.out _ _ (by assumption) (by assumption)).mono ?_); rintro e w15 ⟨rfl, hB15⟩))
  clear cA hBB hB13 hB14 hR14
  have hBd := hB15.drew
  have cB := (HCB.out _ hBd).2.2.2.2.2.2.1
  go_upto_region 10 with fail
  go_region_held3 (fun w' => Below WB.heap.size WB w' ∧ w'.cell? ⟨bb, 6, none⟩ = some (.slice g7 T2.priv.length g8))
    (first | exact ⟨by assumption, by assumption⟩ | exact ⟨by assumption, (HCB.out _ (by assumption)).2.2.2.2.2.2.1⟩)
    (first
      | (go_at_call 27; (with_reducible refine (LO2.out _ (by assumption)).mono ?_); rintro e w16 ⟨rfl, hB16⟩)
      | (go_at_call 26; (with_reducible refine (SP2.out _ (by assumption)).mono ?_); rintro e w17 ⟨u2, rfl, hR17, hB17⟩)
      | (go_at_call 25; (with_reducible refine (S2.out _ _ (by assumption) (by assumption)).mono ?_); rintro e w18 ⟨rfl, hB18⟩))
  go_upto_region 11 with fail
  clear cB hBd hB15 hB16 hB17 hR17 S1 S2 LO LO2 SP SP2 HRA HRB
  have hM18 := HMB.out _ hB18
  have hE1 := HEA.out _ hM18
  have hL18 := HLT.out _ hM18
  have qa := (HCA.out _ hM18).1
  have qm := (HCM.out _ hM18).1
  have qb := (HCB.out _ hB18).1
  have hE2 := hEB.below hB18
  clear HCA HCM HCB HEA HLT HMB hEB
  rcases hfin with ⟨-, rfl, e1, e2, rfl, e4, e5, rfl⟩ | ⟨hp, ⟨a, ha, rfl⟩, e, rfl⟩
  · obtain rfl := errP_none hE1
    obtain rfl := errP_none hE2
    have d1 : decide (T1.priv = l) = true := decide_eq_true e2
    have d2 : decide (T2.priv = l) = true := decide_eq_true e5
    have d3 : decide ((-1 : Int) < 0) = true := rfl
    rw [d1, d2, d3]
    rw [e1] at qa
    rw [e4] at qb
    have hse : (ByteArray.empty == (⟨#[]⟩ : ByteArray)) = true := by decide
    clear d1 d2 d3 hE1 hE2 hL18
    go_wp2_with fail
    go_ret
    exact ⟨rfl, HBM.out.trans (hM18.mono hsM)⟩
  · have KD := Lib.hid ((kindP_any w18 hE1 hL18).mono (R' := fun e w6 => e = .returned (.int .i64 10) ∧ Below w18.heap.size w18 w6) fun e w6 ⟨p, q⟩ => ⟨p, q⟩)
    have PL := Lib.hid (fun w5 (hb : Below w18.heap.size w18 w5) => (placeP_any w5 (hE1.below hb)).mono (R' := fun e w6 => e = .returned (.int .i64 (a : Int)) ∧ Below w18.heap.size w18 w6) fun e w6 ⟨p, q⟩ => ⟨p, hb.trans (q.mono hb.size)⟩)
    obtain ⟨b1, rfl⟩ := errP_some hE1
    obtain ⟨b2, rfl⟩ := errP_some hE2
    have d3 : decide (pE < 0) = false := decide_eq_false (by omega)
    have d4 : (2 : Int) ≤ (a : Int) := by omega
    rw [d3]
    clear d3 hE1 hE2 hL18 ha hp
    go_wp2_with (first
      | (go_at_call 28; (with_reducible refine KD.out.mono ?_); rintro e w19 ⟨rfl, hB19⟩)
      | (go_at_call 29; (with_reducible refine (PL.out _ hB19).mono ?_); rintro e w20 ⟨rfl, hB20⟩))
    go_ret
    exact ⟨rfl, HBM.out.trans ((hM18.trans (hB20.mono hM18.size)).mono hsM)⟩
end Go.Proofs.YtggfdmhfcpabdaaGreatDoor
