/-
  Package parse: Parse, Valid. Package parse: what is wrong, asked for its kind and place; the statements' own examples. Package parse: cases change nothing (the mathematics); Valid.
-/
import Derived.Test.YtpnhjpplfjamkaaGreatDoorPReading
/-! Package parse: Parse, Valid. -/
namespace Go.Proofs.YtpnhjpplfjamkaaGreatDoor
open Go Go.RowKit

/-- What is wrong, in memory. -/
def ErrP (W : World) (r : Option PErr) (ev : Value) : Prop := (r = none ∧ ev = .nilIface) ∨ ∃ x b, r = some x ∧ ev = .iface 82 (.pointer (some ⟨b, 0, none⟩)) ∧ W.heap[b]? = some (faultObj (x.2.1 : Int) x.2.2 (.iface 44 (.int .i64 x.1)))
theorem results_cell_tmp {P : Program} {fn : Func} {p q : Tmp} {ty : TypeId} (h : fn.results = #[.cell p ty, .tmp q]) (tmps : Array Value) (w : World) (g : Nat) (t : TypeId) (cs : Array Value) (fr : Nat × Nat) (d : TypeDesc) (v : Value)
    (hp : tmps.getD p undef = .pointer (some ⟨g, 0, none⟩)) (hv : tmps.getD q undef = v) (hg : w.heap[g]? = some (.cells cs t fr))
    (hu : P.underlying ty = some d) (hd : (match d with | .struct _ | .array _ _ => true | _ => false) = true) (hi : (P.info? ty).map (·.size) = some cs.size) :
    (results fn tmps).run P w = .ok (.tuple #[.agg cs, v]) w := by
  have hp' : tmps[p]?.getD undef = .pointer (some ⟨g, 0, none⟩) := by simpa using hp
  have hv' : tmps[q]?.getD undef = v := by simpa using hv
  simp [results, h, hp', hv', asAddr, run_loadVar_row w g t ty cs fr d hg hu hd hi]
/-- The tag that is read so far. -/
theorem RdIs.tag {w : World} {N B M : Nat} {st : PSt} {ve vv vx vp : Value} {us : List Value} (h : RdIs w N B M st ve vv vx vp us) (hgr : st.T.grand = ByteArray.empty) : TagIs w (.agg #[.string st.T.lang, ve, .string st.T.script, .string st.T.region, vv, vx, vp, .string ByteArray.empty]) st.T := by
  refine ⟨ve, vv, vx, vp, by rw [hgr], Row.of_own h.oe, Row.of_own h.ov, ExtO.row ⟨us, h.ul, h.x, fun i u x hu hx => h.r.1 (u, x.2) ?_⟩, Row.of_own h.op⟩
  refine List.mem_append_right _ (List.mem_of_getElem? (i := i) ?_)
  rw [List.getElem?_zip_eq_some]
  exact ⟨hu, by rw [List.getElem?_map, hx]; rfl⟩
theorem runP_grand : ∀ (l : List (Nat × ByteArray)) (st : PSt), st.T.grand = ByteArray.empty → (runP l st).1.T.grand = ByteArray.empty
  | [], st, h => h
  | x :: r, st, h => by
    simp only [runP]
    cases ht : takeP st x.1 (lowS x.2) with
    | error e => exact h
    | ok s2 =>
      refine runP_grand r _ ?_
      have h2 : s2.T.grand = ByteArray.empty := by
        unfold takeP furtherP at ht
        repeat' split at ht
        all_goals first
          | (cases ht; done)
          | (injection ht with ht; subst ht; exact h)
      unfold endP
      split <;> exact h2
theorem readS_grand (s : ByteArray) : (readS s).1.T.grand = ByteArray.empty := by
  have h := runP_grand (pieces s) pSt0 rfl
  unfold readS finP
  split
  · rename_i st e he; rw [he] at h; exact h
  · rename_i st he; rw [he] at h; split <;> exact h

theorem evNil {W : World} {ev : Value} {q : Prop} (h : (q ∧ ev = .nilIface) ∨ ∃ x b, (none : Option PErr) = some x ∧ ev = .iface 82 (.pointer (some ⟨b, 0, none⟩)) ∧ W.heap[b]? = some (faultObj (x.2.1 : Int) x.2.2 (.iface 44 (.int .i64 x.1)))) : ev = .nilIface := by
  rcases h with ⟨_, h⟩ | ⟨x, b, h, _⟩
  · exact h
  · cases h
theorem evSome {W : World} {ev : Value} {y : PErr} (h : (some y = none ∧ ev = .nilIface) ∨ ∃ x b, some y = some x ∧ ev = .iface 82 (.pointer (some ⟨b, 0, none⟩)) ∧ W.heap[b]? = some (faultObj (x.2.1 : Int) x.2.2 (.iface 44 (.int .i64 x.1)))) : ∃ b, ev = .iface 82 (.pointer (some ⟨b, 0, none⟩)) ∧ W.heap[b]? = some (faultObj (y.2.1 : Int) y.2.2 (.iface 44 (.int .i64 y.1))) := by
  rcases h with ⟨h, _⟩ | ⟨x, b, h, h1, h2⟩
  · cases h
  · cases h; exact ⟨b, h1, h2⟩
set_option maxRecDepth 100000 in
set_option maxHeartbeats 2000000 in
theorem parse_own (s : ByteArray) (w : World) (hs : s.size ≤ 1048576) (hg : GL w) :
    Calls Tryz.prog 16 #[.string s] w fun e w' => ∃ tv ev, e = .returned (.tuple #[tv, ev]) ∧ TagIs w' tv (parseS s).1 ∧ ErrP w' (parseS s).2 ev ∧ Below w.heap.size w w' := by
  obtain ⟨W0, hW0⟩ : ∃ W0, w.alloc (.cells #[.string ByteArray.empty, .slice none 0 0, .string ByteArray.empty, .string ByteArray.empty, .slice none 0 0, .slice none 0 0, .slice none 0 0, .string ByteArray.empty] 31) = W0 := ⟨_, rfl⟩
  have hb0 : Below w.heap.size w W0 := by rw [← hW0]; exact (Below.refl _ w).alloc (Nat.le_refl _) _
  have hh0 : W0.heap[w.heap.size]? = some (.cells #[.string ByteArray.empty, .slice none 0 0, .string ByteArray.empty, .string ByteArray.empty, .slice none 0 0, .slice none 0 0, .slice none 0 0, .string ByteArray.empty] 31 (0, 0)) := by rw [← hW0]; exact World.alloc_heap_new w _
  have hl0 : w.heap.size < W0.heap.size := lt_of_heap hh0
  have FI := Lib.hid (find_any s W0 (by unfold maxLen; omega) (hg.below hb0 (by have := hg.size; omega)))
  have HB0 := Lib.hid hb0
  have HH0 := Lib.hid hh0
  clear hg hb0 hh0
  cases hf : (findV s).isSome with
  | true =>
    have HP := Lib.hid (show parseS s = ({ pNo with grand := lowS s }, none) by unfold parseS; rw [if_pos hf])
    rw [hf] at FI
    generalize ((findV s).getD 0 : Nat) = k at *
    have LW := Lib.hid (fun w5 => lower_text s w5 (by omega))
    clear hf hs
    go_enter Tryz.func16, Tryz.ntmps16
    go_upto_region 1 with fail
    change Code.wp _ _ _ _ (World.alloc _ (.cells #[.string ByteArray.empty, .slice none 0 0, .string ByteArray.empty, .string ByteArray.empty, .slice none 0 0, .slice none 0 0, .slice none 0 0, .string ByteArray.empty] _))
    rw [hW0]
    clear hW0
    go_wp2_with (first
      | (go_at_call 35; (with_reducible refine FI.out.mono ?_); rintro e w1 ⟨rfl, hb1⟩)
      | (go_at_call 36; (with_reducible refine (LW.out _).mono ?_); rintro e w2 ⟨rfl, hb2⟩; have hh2 := (hb2.block _ (by have := hb1.size; omega)).trans ((hb1.block _ hl0).trans HH0.out); obtain ⟨d0, d1, d2, d3, d4, d5, d6, d7⟩ := tag_cells hh2; have df0 := cells_frozen 0 hh2; have df1 := cells_frozen 1 hh2; have df2 := cells_frozen 2 hh2; have df3 := cells_frozen 3 hh2; have df4 := cells_frozen 4 hh2; have df5 := cells_frozen 5 hh2; have df6 := cells_frozen 6 hh2; have df7 := cells_frozen 7 hh2))
    obtain ⟨hk1, hk2⟩ := tag_store hh2 (.string ByteArray.empty) (.slice none 0 0) (.string ByteArray.empty) (.string ByteArray.empty) (.slice none 0 0) (.slice none 0 0) (.slice none 0 0) (.string (lowS s))
    refine bodyPost_ret (results_cell_tmp rfl _ _ w.heap.size 31 _ (0, 0) _ _ rfl rfl hk1 Tryz.underlying31 rfl tagSize) rfl ?_
    refine ⟨_, _, rfl, ?_, .inl ⟨by rw [HP.out], rfl⟩, ?_⟩
    · rw [HP.out]
      exact ⟨_, _, _, _, rfl, row_nil _, row_nil _, xrow_nil _, row_nil _⟩
    · exact (HB0.out.trans ((hb1.mono (by omega)).trans (hb2.mono (by have := hb1.size; omega)))).grown hk2 (by have := hb1.size; have := hb2.size; omega) (fun k hk => by cases hk; exact Nat.le_refl _)
  | false =>
    have HP := Lib.hid (show parseS s = outP (readS s) by unfold parseS; rw [if_neg (by rw [hf]; decide)])
    have HG := Lib.hid (readS_grand s)
    rw [hf] at FI
    generalize ((findV s).getD 0 : Nat) = k at *
    have RD := Lib.hid (fun w5 => read_own s w5 hs)
    cases hr : (readS s).2 with
    | none =>
      have HO := Lib.hid (show parseS s = ((readS s).1.T, none) by rw [HP.out]; unfold outP; rw [show readS s = ((readS s).1, none) by rw [← hr]])
      rw [hr] at RD
      generalize (readS s).1 = st at *
      clear hf hs hr
      go_enter Tryz.func16, Tryz.ntmps16
      go_upto_region 1 with fail
      change Code.wp _ _ _ _ (World.alloc _ (.cells #[.string ByteArray.empty, .slice none 0 0, .string ByteArray.empty, .string ByteArray.empty, .slice none 0 0, .slice none 0 0, .slice none 0 0, .string ByteArray.empty] _))
      rw [hW0]
      clear hW0
      go_wp2_with (first
        | (go_at_call 35; (with_reducible refine FI.out.mono ?_); rintro e w1 ⟨rfl, hb1⟩)
        | (go_at_call 37; ((with_reducible refine (RD.out _).mono ?_); rintro e w2 ⟨B, M, N, ev, rfl, hN, ⟨ve, vv, vx, vp, us, hrd⟩, hb2, hev⟩; obtain rfl : ev = .nilIface := evNil hev; obtain ⟨ea, en, ec, rfl⟩ := own_slice hrd.oe; obtain ⟨va, vn, vc, rfl⟩ := own_slice hrd.ov; obtain ⟨pa, pn, pc, rfl⟩ := own_slice hrd.op; obtain ⟨xa, xn, xc, rfl⟩ := own_slice hrd.x; have hh2 := (hb2.block _ (by have := hb1.size; omega)).trans ((hb1.block _ hl0).trans HH0.out); obtain ⟨d0, d1, d2, d3, d4, d5, d6, d7⟩ := tag_cells hh2; have df0 := cells_frozen 0 hh2; have df1 := cells_frozen 1 hh2; have df2 := cells_frozen 2 hh2; have df3 := cells_frozen 3 hh2; have df4 := cells_frozen 4 hh2; have df5 := cells_frozen 5 hh2; have df6 := cells_frozen 6 hh2; have df7 := cells_frozen 7 hh2; have r0 : w2.cell? ⟨B, 0, none⟩ = some (.string st.T.lang) := rd_cell 0 hrd.hb rfl; have r1 : w2.cell? ⟨B, 1, none⟩ = some (.slice ea en ec) := rd_cell 1 hrd.hb rfl; have r2 : w2.cell? ⟨B, 2, none⟩ = some (.string st.T.script) := rd_cell 2 hrd.hb rfl; have r3 : w2.cell? ⟨B, 3, none⟩ = some (.string st.T.region) := rd_cell 3 hrd.hb rfl; have r4 : w2.cell? ⟨B, 4, none⟩ = some (.slice va vn vc) := rd_cell 4 hrd.hb rfl; have r5 : w2.cell? ⟨B, 5, none⟩ = some (.slice xa xn xc) := rd_cell 5 hrd.hb rfl; have r6 : w2.cell? ⟨B, 6, none⟩ = some (.slice pa pn pc) := rd_cell 6 hrd.hb rfl; have r7 : w2.cell? ⟨B, 7, none⟩ = some (.string ByteArray.empty) := rd_cell 7 hrd.hb rfl; have HRD := Lib.hid hrd; have HH2 := Lib.hid hh2; clear hrd hh2 hev)))
      obtain ⟨hk1, hk2⟩ := tag_store HH2.out (.string st.T.lang) (.slice ea en ec) (.string st.T.script) (.string st.T.region) (.slice va vn vc) (.slice xa xn xc) (.slice pa pn pc) (.string ByteArray.empty)
      refine bodyPost_ret (results_cell_tmp rfl _ _ w.heap.size 31 _ (0, 0) _ _ rfl rfl hk1 Tryz.underlying31 rfl tagSize) rfl ?_
      refine ⟨_, _, rfl, ?_, .inl ⟨by rw [HO.out], rfl⟩, ?_⟩
      · rw [HO.out]
        have hT0 : w.heap.size < N := by have := hb1.size; omega
        refine (HRD.out.same hk2.size (hk2.block B (lt_of_heap HRD.out.hb) ?_) (hk2.block M ?_ ?_) (fun k hk ⟨o, ho, _⟩ => hk2.block k (lt_of_heap ho) (fun e => by injection e with e; omega))).tag HG.out
        · intro e
          injection e with e
          have h1 := HRD.out.hb
          rw [e, HH2.out] at h1
          simp at h1
        · obtain ⟨n, _, hm⟩ := HRD.out.m
          exact hm.lt
        · intro e
          injection e with e
          obtain ⟨n, _, es, clock, hm, _⟩ := HRD.out.m
          rw [e, HH2.out] at hm
          simp at hm
      · exact (HB0.out.trans ((hb1.mono (by omega)).trans (hb2.mono (by have := hb1.size; omega)))).grown hk2 (by have := hb1.size; have := hb2.size; omega) (fun k hk => by cases hk; exact Nat.le_refl _)
    | some x =>
      have HO := Lib.hid (show parseS s = (pNo, some x) by rw [HP.out]; unfold outP; rw [show readS s = ((readS s).1, some x) by rw [← hr]])
      rw [hr] at RD
      generalize (readS s).1 = st at *
      clear hf hs hr
      go_enter Tryz.func16, Tryz.ntmps16
      go_upto_region 1 with fail
      change Code.wp _ _ _ _ (World.alloc _ (.cells #[.string ByteArray.empty, .slice none 0 0, .string ByteArray.empty, .string ByteArray.empty, .slice none 0 0, .slice none 0 0, .slice none 0 0, .string ByteArray.empty] _))
      rw [hW0]
      clear hW0
      go_wp2_with (first
        | (go_at_call 35; (with_reducible refine FI.out.mono ?_); rintro e w1 ⟨rfl, hb1⟩)
        | (go_at_call 37; (with_reducible refine (RD.out _).mono ?_); rintro e w2 ⟨B, M, N, ev, rfl, hN, hrd, hb2, hev⟩; obtain ⟨b, rfl, hfo⟩ := evSome hev; have hh2 := (hb2.block _ (by have := hb1.size; omega)).trans ((hb1.block _ hl0).trans HH0.out); obtain ⟨d0, d1, d2, d3, d4, d5, d6, d7⟩ := tag_cells hh2; have df0 := cells_frozen 0 hh2; have df1 := cells_frozen 1 hh2; have df2 := cells_frozen 2 hh2; have df3 := cells_frozen 3 hh2; have df4 := cells_frozen 4 hh2; have df5 := cells_frozen 5 hh2; have df6 := cells_frozen 6 hh2; have df7 := cells_frozen 7 hh2; have HH2 := Lib.hid hh2; have HFO := Lib.hid hfo; clear hrd hh2 hev hfo))
      obtain ⟨hk1, hk2⟩ := tag_store HH2.out (.string ByteArray.empty) (.slice none 0 0) (.string ByteArray.empty) (.string ByteArray.empty) (.slice none 0 0) (.slice none 0 0) (.slice none 0 0) (.string ByteArray.empty)
      refine bodyPost_ret (results_cell_tmp rfl _ _ w.heap.size 31 _ (0, 0) _ _ rfl rfl hk1 Tryz.underlying31 rfl tagSize) rfl ?_
      have hne : b ≠ w.heap.size := fun e => by
        have := HFO.out
        rw [e, HH2.out] at this
        simp [faultObj] at this
      refine ⟨_, _, rfl, ?_, .inr ⟨x, b, by rw [HO.out], rfl, (hk2.block b (lt_of_heap HFO.out) (fun e => hne (by injection e))).trans HFO.out⟩, ?_⟩
      · rw [HO.out]
        exact ⟨_, _, _, _, rfl, row_nil _, row_nil _, xrow_nil _, row_nil _⟩
      · exact (HB0.out.trans ((hb1.mono (by omega)).trans (hb2.mono (by have := hb1.size; omega)))).grown hk2 (by have := hb1.size; have := hb2.size; omega) (fun k hk => by cases hk; exact Nat.le_refl _)
end Go.Proofs.YtpnhjpplfjamkaaGreatDoor

/-! Package parse: what is wrong, asked for its kind and place; the statements' own examples. -/
namespace Go.Proofs.YtpnhjpplfjamkaaGreatDoor
open Go Go.RowKit

theorem ErrP.below {W W' : World} {r : Option PErr} {ev : Value} (h : ErrP W r ev) (hb : Below W.heap.size W W') : ErrP W' r ev := by
  rcases h with h | ⟨x, b, h1, h2, h3⟩
  · exact .inl h
  · exact .inr ⟨x, b, h1, h2, (hb.block b (lt_of_heap h3)).trans h3⟩
def kindR : Option PErr → Int
  | none => 0
  | some x => x.1
def placeR : Option PErr → Int
  | none => -1
  | some x => (x.2.1 : Int)
theorem ErrP.chain {W : World} {x : PErr} {b : Nat} (h : W.heap[b]? = some (faultObj (x.2.1 : Int) x.2.2 (.iface 44 (.int .i64 x.1)))) : Chain W W.heap.size (.iface 82 (.pointer (some ⟨b, 0, none⟩))) [.fault b (x.2.1 : Int) x.2.2, .num x.1] :=
  ⟨rfl, lt_of_heap h, _, h, rfl, rfl⟩
theorem kindP_any {r : Option PErr} {ev : Value} (w : World) (h : ErrP w r ev) (hg : TypeLaid w) :
    Calls Tryz.prog 17 #[ev] w fun e w' => e = .returned (.int .i64 (kindR r)) ∧ Below w.heap.size w w' := by
  rcases h with ⟨rfl, rfl⟩ | ⟨x, b, rfl, rfl, h3⟩
  · exact kind_nil w
  · exact kind_chain w (by simp) (Nat.le_refl _) (ErrP.chain h3) hg
theorem placeP_any {r : Option PErr} {ev : Value} (w : World) (h : ErrP w r ev) :
    Calls Tryz.prog 18 #[ev] w fun e w' => e = .returned (.int .i64 (placeR r)) ∧ Below w.heap.size w w' := by
  rcases h with ⟨rfl, rfl⟩ | ⟨x, b, rfl, rfl, h3⟩
  · exact place_chain (xs := []) w (by simp) (Nat.le_refl _) rfl
  · exact place_chain w (by simp) (Nat.le_refl _) (ErrP.chain h3)

/-! The examples. -/
def awk1 : ByteArray := ⟨#[122, 104, 45, 72, 97, 110, 116, 45, 84, 87, 45, 120, 45, 97]⟩
def awk2 : ByteArray := ⟨#[100, 101, 45, 49, 57, 48, 49, 45, 49, 57, 48, 49]⟩
theorem awk1_is : parseS awk1 = (⟨⟨#[122, 104]⟩, [], ⟨#[104, 97, 110, 116]⟩, ⟨#[116, 119]⟩, [], [], [⟨#[97]⟩], ⟨#[]⟩⟩, none) := by kernel_rfl
theorem awk2_is : parseS awk2 = (pNo, some (11, 8, sVar)) := by kernel_rfl

/-- What the laid variables are. -/
structure ParseLaid (w : World) : Prop where
  t : TypeLaid w
  g : GL w
theorem ParseLaid.below {w w' : World} (h : ParseLaid w) (hb : Below w.heap.size w w') : ParseLaid w' := ⟨h.t.below hb h.t.size, h.g.below hb h.g.size⟩
set_option maxRecDepth 100000 in
set_option maxHeartbeats 2000000 in
theorem awakeP_law (w : World) (hl : ParseLaid w) :
    Calls Tryz.prog 5 #[] w fun e w' => e = .returned (.bool true) ∧ Below w.heap.size w w' := by
  have P1 := Lib.hid (show Calls Tryz.prog 16 #[.string ⟨#[122, 104, 45, 72, 97, 110, 116, 45, 84, 87, 45, 120, 45, 97]⟩] w _ from parse_own awk1 w (by decide) hl.g)
  have P2 := Lib.hid (fun w5 (hb : Below w.heap.size w w5) => show Calls Tryz.prog 16 #[.string ⟨#[100, 101, 45, 49, 57, 48, 49, 45, 49, 57, 48, 49]⟩] w5 _ from parse_own awk2 w5 (by decide) (hl.below hb).g)
  rw [awk1_is] at P1
  rw [awk2_is] at P2
  have HL := Lib.hid hl
  clear hl
  go_enter Tryz.func5, Tryz.ntmps5
  go_wp2_with (first
    | (go_at_call 16; (with_reducible refine P1.out.mono ?_); rintro e w1 ⟨tv, ev, rfl, ⟨ve, vv, vx, vp, rfl, ⟨a1, c1, rfl, _⟩, ⟨a2, c2, rfl, _⟩, ⟨a3, c3, rfl, _⟩, ⟨a4, c4, rfl, _⟩⟩, he, hb1⟩; obtain rfl : ev = .nilIface := evNil he; clear he)
    | (go_at_call 16; (with_reducible refine (P2.out _ (Below.alloc hb1 hb1.size _)).mono ?_); rintro e w2 ⟨tv, ev, rfl, ⟨ve, vv, vx, vp, rfl, ⟨a5, c5, rfl, _⟩, ⟨a6, c6, rfl, _⟩, ⟨a7, c7, rfl, _⟩, ⟨a8, c8, rfl, _⟩⟩, he, hb2⟩; obtain ⟨b, rfl, _⟩ := evSome he; have hlt : w1.heap.size < w2.heap.size := (by have := hb2.size; simp at this; omega); have hb12 : Below w.heap.size w w2 := (Below.alloc hb1 hb1.size _).trans (hb2.mono (by have := hb1.size; simp; omega)); have KD := Lib.hid (fun w5 (hb : Below w2.heap.size w2 w5) => kindP_any w5 (he.below hb) ((HL.out.below hb12).below hb).t); have PD := Lib.hid (fun w5 (hb : Below w2.heap.size w2 w5) => placeP_any w5 (he.below hb)); have HE12 := Lib.hid hb12; have HH := Lib.hid (fun w5 (hb : Below w2.heap.size w2 w5) => tag_cells ((hb.block _ hlt).trans ((hb2.block _ (by simp)).trans (World.alloc_heap_new w1 _)))); obtain ⟨d0, d1, d2, d3, d4, d5, d6, d7⟩ := HH.out w2 (Below.refl _ _); clear he hb12)
    | (go_at_call 17; (with_reducible refine (KD.out _ ((Below.refl _ _).alloc (Nat.le_refl _) _)).mono ?_); rintro e w3 ⟨rfl, hb3⟩)
    | (go_at_call 18; (with_reducible refine (PD.out _ (((Below.refl _ _).alloc (Nat.le_refl _) _).trans (hb3.mono (by simp)))).mono ?_); rintro e w4 ⟨rfl, hb4⟩))
  go_ret
  have hs12 := HE12.out.size
  exact ⟨rfl, HE12.out.trans ((((Below.refl w2.heap.size w2).alloc (Nat.le_refl _) _).trans ((hb3.mono (by simp)).trans (hb4.mono (by have := hb3.size; simp at this; omega)))).mono hs12)⟩
end Go.Proofs.YtpnhjpplfjamkaaGreatDoor

/-! Package parse: cases change nothing (the mathematics); Valid. -/
namespace Go.Proofs.YtpnhjpplfjamkaaGreatDoor
open Go Go.RowKit

theorem spl_low (l : List UInt8) : spl (l.map lowB) = (spl l).map (·.map lowB) := by
  induction l with
  | nil => rfl
  | cons c r ih =>
    rw [List.map_cons]
    obtain ⟨h, t, e⟩ := spl_cons r
    by_cases hc : c = 45
    · simp [spl, hc, ih, show lowB 45 = 45 from rfl]
    · have h1 : ¬ lowB c = 45 := fun h => hc (lowB_dash c h)
      simp [spl, hc, h1, ih, e]
theorem placed_low (n : Nat) (ps : List (List UInt8)) : placed n (ps.map (·.map lowB)) = (placed n ps).map fun x => (x.1, lowS x.2) := by
  induction ps generalizing n with
  | nil => rfl
  | cons p r ih => simp [placed, ih, lowS, bs_ofL]
theorem pieces_low (s : ByteArray) : pieces (lowS s) = (pieces s).map fun x => (x.1, lowS x.2) := by
  unfold pieces
  rw [show bs (lowS s) = (bs s).map lowB by unfold lowS; rw [bs_ofL], spl_low, placed_low]
theorem runP_low (l : List (Nat × ByteArray)) (st : PSt) : runP (l.map fun x => (x.1, lowS x.2)) st = runP l st := by
  induction l generalizing st with
  | nil => rfl
  | cons x r ih =>
    simp only [List.map_cons, runP, low_lowS, size_lowS]
    cases takeP st x.1 (lowS x.2) with
    | error e => rfl
    | ok s2 => exact ih _
theorem findV_low (s : ByteArray) : findV (lowS s) = findV s := by
  cases h : findV s with
  | none =>
    cases h2 : findV (lowS s) with
    | none => rfl
    | some k =>
      have := (findV_iff (lowS s) k (findV_lt h2)).1 h2
      rw [low_lowS] at this
      exact absurd this (findV_none s h k (findV_lt h2))
  | some k =>
    have := (findV_iff s k (findV_lt h)).1 h
    exact (findV_iff (lowS s) k (findV_lt h)).2 (by rw [low_lowS]; exact this)
theorem readS_low (s : ByteArray) : readS (lowS s) = readS s := by
  unfold readS
  rw [pieces_low, runP_low, size_lowS]
/-- P7.1: cases change nothing. -/
theorem parseS_low (s : ByteArray) : parseS (lowS s) = parseS s := by
  unfold parseS
  rw [findV_low, readS_low, low_lowS]
theorem parseS_same {s t : ByteArray} (h : lowS s = lowS t) : parseS s = parseS t := by rw [← parseS_low s, h, parseS_low]

set_option maxRecDepth 100000 in
theorem valid_own (s : ByteArray) (w : World) (hs : s.size ≤ 1048576) (hg : GL w) :
    Calls Tryz.prog 30 #[.string s] w fun e w' => e = .returned (.bool (parseS s).2.isNone) ∧ Below w.heap.size w w' := by
  have P := Lib.hid (parse_own s w hs hg)
  cases hr : (parseS s).2 with
  | none =>
    rw [hr] at P
    clear hr hs hg
    go_enter Tryz.func30, Tryz.ntmps30
    go_wp2_with (go_at_call 16; (with_reducible refine P.out.mono ?_); rintro e w1 ⟨tv, ev, rfl, ⟨ve, vv, vx, vp, rfl, ⟨a1, c1, rfl, _⟩, ⟨a2, c2, rfl, _⟩, ⟨a3, c3, rfl, _⟩, ⟨a4, c4, rfl, _⟩⟩, he, hb1⟩; obtain rfl : ev = .nilIface := evNil he; clear he)
    go_ret
    exact ⟨rfl, hb1.alloc hb1.size _⟩
  | some x =>
    rw [hr] at P
    clear hr hs hg
    go_enter Tryz.func30, Tryz.ntmps30
    go_wp2_with (go_at_call 16; (with_reducible refine P.out.mono ?_); rintro e w1 ⟨tv, ev, rfl, ⟨ve, vv, vx, vp, rfl, ⟨a1, c1, rfl, _⟩, ⟨a2, c2, rfl, _⟩, ⟨a3, c3, rfl, _⟩, ⟨a4, c4, rfl, _⟩⟩, he, hb1⟩; obtain ⟨b, rfl, _⟩ := evSome he; clear he)
    go_ret
    exact ⟨rfl, hb1.alloc hb1.size _⟩
end Go.Proofs.YtpnhjpplfjamkaaGreatDoor
