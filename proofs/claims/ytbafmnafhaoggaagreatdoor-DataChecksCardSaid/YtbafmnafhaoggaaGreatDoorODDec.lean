/-
  image.Decode.
-/
import Derived.Test.YtbafmnafhaoggaaGreatDoorODUnp
import Derived.Test.YtbafmnafhaoggaaGreatDoorZEnc
namespace Go.Proofs.YtbafmnafhaoggaaGreatDoor
open Go Go.RowKit

theorem txD_small (b : ByteArray) (p k : Nat) : (txD b p k).size ≤ 1000 := Nat.le_trans (size_unT _) (by decide)
theorem wf_small (n : Nat) (h : n < 65536) : (Lit.int .i64 (n : Int)).wf = true := by
  unfold Lit.wf
  rw [Bool.and_eq_true, decide_eq_true_iff, decide_eq_true_iff]
  have h1 : IntKind.min .i64 = -9223372036854775808 := by decide
  have h2 : IntKind.max .i64 = 9223372036854775807 := by decide
  omega
theorem decV_small (r : ByteArray) : AlS (decV r) := by
  unfold decV
  split
  · exact unA_small r
  · exact ⟨by decide, by decide, by decide, by decide, by decide, by decide⟩
theorem lkD_small (b : ByteArray) (p : Nat) : LkS (lkD b p) := by
  intro t ht
  have h : t ∈ [txD b p 0, txD b p 1, txD b p 2, txD b p 3, txD b p 4, txD b p 5] := ht
  simp only [List.mem_cons, List.not_mem_nil, or_false] at h
  rcases h with h | h | h | h | h | h <;> (rw [h]; exact txD_small _ _ _)
theorem mbD_small (b : ByteArray) (p : Nat) : MbS (mbD b p) := ⟨txD_small b p 0, txD_small b p 1⟩
theorem rlD_small (b : ByteArray) (p : Nat) : RlS (rlD b p) := by
  refine ⟨?_, ?_, fun t ht => ?_⟩
  · show (Lit.int .i64 ((nb b p 1 : Nat) : Int)).wf = true
    exact wf_small _ (nb_lt _ _ 1 (by decide))
  · show (Lit.int .i64 ((nb b (p + 1) 1 : Nat) : Int)).wf = true
    exact wf_small _ (nb_lt _ _ 1 (by decide))
  · have h : t ∈ [txD b (p + 3) 0, txD b (p + 3) 1, txD b (p + 3) 2, txD b (p + 3) 3, txD b (p + 3) 4, txD b (p + 3) 5] := ht
    simp only [List.mem_cons, List.not_mem_nil, or_false] at h
    rcases h with h | h | h | h | h | h <;> (rw [h]; exact txD_small _ _ _)
theorem rowAD_small (b : ByteArray) (p n : Nat) (x : Al) (hx : x ∈ rowAD b p n) : AlS x := by
  unfold rowAD at hx
  obtain ⟨i, _, h⟩ := List.mem_map.1 hx
  rw [← h]
  exact decV_small _
theorem rowLD_small (b : ByteArray) (p n : Nat) (x : Lk) (hx : x ∈ rowLD b p n) : LkS x := by
  unfold rowLD at hx
  obtain ⟨i, _, h⟩ := List.mem_map.1 hx
  rw [← h]
  exact lkD_small _ _
theorem rowRD_small (b : ByteArray) (p n : Nat) (x : Rl) (hx : x ∈ rowRD b p n) : RlS x := by
  unfold rowRD at hx
  obtain ⟨i, _, h⟩ := List.mem_map.1 hx
  rw [← h]
  exact rlD_small _ _
theorem rowMD_small (b : ByteArray) (p n : Nat) (x : Mb) (hx : x ∈ rowMD b p n) : MbS x := by
  unfold rowMD at hx
  obtain ⟨i, _, h⟩ := List.mem_map.1 hx
  rw [← h]
  exact mbD_small _ _
theorem unpI_small (b : ByteArray) : ImS (unpI b) := by
  by_cases h : (lf b 14).size = cU b 0 * 41 + cU b 1 * 48 + cU b 2 * 51 + cU b 3 * 16
  · rw [unpI_whole b h]
    clear h
    generalize 14 + 41 * cU b 0 + 48 * cU b 1 + 51 * cU b 2 = p4
    generalize 14 + 41 * cU b 0 + 48 * cU b 1 = p3
    generalize 14 + 41 * cU b 0 = p2
    generalize cU b 0 = n0
    generalize cU b 1 = n1
    generalize cU b 2 = n2
    generalize cU b 3 = n3
    have h1 := rowAD_small b 14 n0
    have h2 := rowLD_small b p2 n1
    have h3 := rowRD_small b p3 n2
    have h4 := rowMD_small b p4 n3
    generalize rowAD b 14 n0 = l1 at *
    generalize rowLD b p2 n1 = l2 at *
    generalize rowRD b p3 n2 = l3 at *
    generalize rowMD b p4 n3 = l4 at *
    exact ⟨h1, h2, h3, h4⟩
  · rw [unpI_part b h]
    exact { als := fun x hx => (List.not_mem_nil hx).elim, lks := fun x hx => (List.not_mem_nil hx).elim, rls := fun x hx => (List.not_mem_nil hx).elim, mbs := fun x hx => (List.not_mem_nil hx).elim }
def decOk (b : ByteArray) : Prop := encE (unpI b) = none ∧ encB (unpI b) = b
def ZIm : Value := .agg #[.slice none 0 0, .slice none 0 0, .slice none 0 0, .slice none 0 0, .int .i64 0, .int .i64 0]
/-- What Decode answers. -/
def DecQ (b : ByteArray) (w' : World) (e : Ending) : Prop :=
  (decOk b ∧ ∃ v1 v2 v3 v4, e = .returned (.tuple #[.agg #[v1, v2, v3, v4, .int .i64 (unpI b).th, .int .i64 (unpI b).de], .nilIface]) ∧ ImR w' v1 v2 v3 v4 (unpI b)) ∨
  (¬ decOk b ∧ ∃ v, e = .returned (.tuple #[ZIm, v]) ∧ FaultZ w' v 12 0 IMAGE)
theorem results_cell_tmpD {P : Program} {fn : Func} {p q : Tmp} {ty : TypeId} (h : fn.results = #[.cell p ty, .tmp q]) (tmps : Array Value) (w : World) (g : Nat) (t : TypeId) (cs : Array Value) (fr : Nat × Nat) (d : TypeDesc) (v : Value)
    (hp : tmps.getD p undef = .pointer (some ⟨g, 0, none⟩)) (hv : tmps.getD q undef = v) (hg : w.heap[g]? = some (.cells cs t fr))
    (hu : P.underlying ty = some d) (hd : (match d with | .struct _ | .array _ _ => true | _ => false) = true) (hi : (P.info? ty).map (·.size) = some cs.size) :
    (results fn tmps).run P w = .ok (.tuple #[.agg cs, v]) w := results_cell_tmpY h tmps w g t cs fr d v hp hv hg hu hd hi

theorem FaultZ.keptD {W w' : World} {v : Value} {k p : Int} {s : ByteArray} {N : Nat} {cs : Array Value} {t : TypeId} (h : FaultZ W v k p s) (hg : W.grownBy w' (some N)) (hN : W.heap[N]? = some (.cells cs t (0, 0))) (hz : cs.size = 6) : FaultZ w' v k p s := by
  obtain ⟨b, rfl, hb⟩ := h
  have hne : b ≠ N := fun e => by
    subst e
    rw [hN] at hb
    have h1 := Option.some.inj hb
    unfold faultObj at h1
    injection h1 with h2
    rw [h2] at hz
    exact absurd hz (by simp)
  exact ⟨b, rfl, (hg.block _ (lt_of_block hb) (fun e => hne (Option.some.inj e))).trans hb⟩

set_option maxRecDepth 100000 in
set_option maxHeartbeats 8000000 in
theorem decode_im (b : ByteArray) (w : World) (hbs : b.size ≤ 1048576) (hg : GL w) :
    Calls Tryz.prog 12 #[.string b] w fun e w' => DecQ b w' e ∧ Below w.heap.size w w' := by
  have hgs := hg.size
  obtain ⟨W1, hW1⟩ : ∃ x, w.alloc (.cells #[.slice none 0 0, .slice none 0 0, .slice none 0 0, .slice none 0 0, .int .i64 0, .int .i64 0] 29) = x := ⟨_, rfl⟩
  have hb1 : Below w.heap.size w W1 := by rw [← hW1]; exact (Below.refl _ w).alloc (Nat.le_refl _) _
  have hA : W1.heap[w.heap.size]? = some (.cells #[.slice none 0 0, .slice none 0 0, .slice none 0 0, .slice none 0 0, .int .i64 0, .int .i64 0] 29 (0, 0)) := by rw [← hW1]; exact World.alloc_heap_new w _
  have hAl := lt_of_block hA
  have HU := Lib.hid (unpacked_any b W1 hbs (hg.below hb1 hgs))
  have HA := Lib.hid hA
  have HB1 := Lib.hid hb1
  have HG := Lib.hid (And.intro hg hgs)
  clear hA hb1 hg hgs
  go_enter Tryz.func12, Tryz.ntmps12
  go_upto_region 1 with fail
  clear hW1
  go_upto_region 2 with (go_at_call 25; (with_reducible refine HU.out.mono ?_); rintro e w2 ⟨v1, v2, v3, v4, rfl, hR2, hb2, hK2⟩; obtain ⟨a1, c1, a2, c2, a3, c3, a4, c4, rfl, rfl, rfl, rfl⟩ := hR2.slices; have HR2 := Lib.hid hR2; have HB2 := Lib.hid hb2; have HK2 := Lib.hid hK2; clear hR2 hb2 hK2)
  have hsm := unpI_small b
  have HOK := Lib.hid (show decOk b ↔ (encE (unpI b) = none ∧ encB (unpI b) = b) from Iff.rfl)
  have HQ := Lib.hid (show ∀ w' e, DecQ b w' e = ((decOk b ∧ ∃ v1 v2 v3 v4, e = .returned (.tuple #[.agg #[v1, v2, v3, v4, .int .i64 (unpI b).th, .int .i64 (unpI b).de], .nilIface]) ∧ ImR w' v1 v2 v3 v4 (unpI b)) ∨ (¬ decOk b ∧ ∃ v, e = .returned (.tuple #[ZIm, v]) ∧ FaultZ w' v 12 0 IMAGE)) from fun _ _ => rfl)
  generalize unpI b = im at *
  have hB12 : Below w.heap.size w w2 := HB1.out.trans (HB2.out.mono HB1.out.size)
  obtain ⟨W3, hW3⟩ : ∃ x, w2.alloc (.cells #[.slice a1 (cntN im 0) c1, .slice a2 (cntN im 1) c2, .slice a3 (cntN im 2) c3, .slice a4 (cntN im 3) c4, .int .i64 im.th, .int .i64 im.de] 29) = x := ⟨_, rfl⟩
  rw [hW3]
  have hb3 : Below w2.heap.size w2 W3 := by rw [← hW3]; exact (Below.refl _ w2).alloc (Nat.le_refl _) _
  have hA3 : W3.heap[w2.heap.size]? = some (.cells #[.slice a1 (cntN im 0) c1, .slice a2 (cntN im 1) c2, .slice a3 (cntN im 2) c3, .slice a4 (cntN im 3) c4, .int .i64 im.th, .int .i64 im.de] 29 (0, 0)) := by rw [← hW3]; exact World.alloc_heap_new w2 _
  have hN3 : W3.heap[w.heap.size]? = some (.cells #[.slice none 0 0, .slice none 0 0, .slice none 0 0, .slice none 0 0, .int .i64 0, .int .i64 0] 29 (0, 0)) := (hb3.block _ (Nat.lt_of_lt_of_le hAl HB2.out.size)).trans ((HB2.out.block _ hAl).trans HA.out)
  have hB3 : Below w.heap.size w W3 := hB12.trans (hb3.mono hB12.size)
  have HR3 := Lib.hid (HR2.out.below hb3)
  have HE := Lib.hid (encode_im a1 a2 a3 a4 c1 c2 c3 c4 im W3 HR3.out hsm (HG.out.1.below hB3 HG.out.2))
  have HF := Lib.hid (fun w' => newZ_any 12 0 IMAGE w' (by decide))
  have HB3 := Lib.hid hB3
  have HA3 := Lib.hid hA3
  have HN3 := Lib.hid hN3
  have HB23 := Lib.hid hb3
  have HPN := Lib.hid hAl
  have hlt3 := lt_of_block hA3
  have hne : w.heap.size < w2.heap.size := Nat.lt_of_lt_of_le hAl HB2.out.size
  obtain ⟨c10, c11, c12, c13, c14, c15⟩ := cells6 hA3
  clear hW3 hb3 hA3 hN3 hB3 hB12 HR2 HA HU hsm HG
  unfold IMAGE at HF
  clear HB1 hAl
  cases hee : encE im with
  | some t =>
    rw [hee] at HE
    have HNO := Lib.hid (show ¬ decOk b from fun h => by have := (HOK.out.1 h).1; rw [hee] at this; cases this)
    clear hee HOK
    go_upto_region 4 with (go_at_call 10; (with_reducible refine HE.out.mono ?_); rintro e w4 ⟨v, rfl, hz, hb4⟩; obtain ⟨bf, rfl, hbf⟩ := hz; have hN4 := (hb4.block _ (Nat.lt_trans hne hlt3)).trans HN3.out; have hA4 := (hb4.block _ hlt3).trans HA3.out; have HB4 := Lib.hid (HB3.out.trans (hb4.mono HB3.out.size)); have HB4l := Lib.hid hb4; clear hbf hb4)
    go_wp2_with (go_at_call 26; (with_reducible refine (HF.out _).mono ?_); rintro e w5 ⟨vf, rfl, hv5, hb5⟩; have hN5 := (hb5.block _ (lt_of_block hN4)).trans hN4; obtain ⟨⟨n0, n1, n2, n3, n4, n5⟩, f0, f1, f2, f3, f4, f5⟩ := al_cells hN5; have HS := Lib.hid (al_store hN5 (.slice none 0 0) (.slice none 0 0) (.slice none 0 0) (.slice none 0 0) (.int .i64 0) (.int .i64 0)); have HV := Lib.hid (hv5.keptD (al_storeG w5 w.heap.size (.slice none 0 0) (.slice none 0 0) (.slice none 0 0) (.slice none 0 0) (.int .i64 0) (.int .i64 0)) hN5 rfl); have HB5 := Lib.hid (HB4.out.trans (hb5.mono HB4.out.size)); clear hv5 hN5 hb5)
    refine bodyPost_ret (results_cell_tmpD rfl _ _ w.heap.size 29 _ (0, 0) _ _ rfl rfl HS.out.1 Tryz.underlying29 rfl sizeImD) rfl ?_
    rw [HQ.out]
    exact ⟨.inr ⟨HNO.out, _, rfl, HV.out⟩, HB5.out.trans (HS.out.2 _ (Nat.le_refl _))⟩
  | none =>
    rw [hee] at HE
    have HSB := Lib.hid (show ((encB im).toList == b.toList) = decide (encB im = b) from same_bool _ _)
    by_cases hq : encB im = b
    · have hcb : ((encB im).toList == b.toList) = true := by rw [HSB.out, decide_eq_true hq]
      have HYES := Lib.hid (HOK.out.2 ⟨hee, hq⟩)
      clear hee HOK hq HSB
      generalize encB im = eb at *
      go_upto_region 5 with (go_at_call 10; (with_reducible refine HE.out.mono ?_); rintro e w4 ⟨v, rfl, hz, hb4⟩; obtain rfl : v = .nilIface := hz; have hN4 := (hb4.block _ (Nat.lt_trans hne hlt3)).trans HN3.out; have hA4 := (hb4.block _ hlt3).trans HA3.out; have HB4 := Lib.hid (HB3.out.trans (hb4.mono HB3.out.size)); have HB4l := Lib.hid hb4; clear hb4)
      obtain ⟨j0, j1, j2, j3, j4, j5⟩ := cells6 hA4
      obtain ⟨⟨n0, n1, n2, n3, n4, n5⟩, f0, f1, f2, f3, f4, f5⟩ := al_cells hN4
      have HS := Lib.hid (al_store hN4 (.slice a1 (cntN im 0) c1) (.slice a2 (cntN im 1) c2) (.slice a3 (cntN im 2) c3) (.slice a4 (cntN im 3) c4) (.int .i64 im.th) (.int .i64 im.de))
      have HM := Lib.hid (HK2.out _ _ (grown_transR (grown_belR HB23.out) (grown_transR (grown_belR HB4l.out) (al_storeG w4 w.heap.size (.slice a1 (cntN im 0) c1) (.slice a2 (cntN im 1) c2) (.slice a3 (cntN im 2) c3) (.slice a4 (cntN im 3) c4) (.int .i64 im.th) (.int .i64 im.de)))) HPN.out)
      clear hA4 hN4
      go_wp2
      refine bodyPost_ret (results_cell_tmpD rfl _ _ w.heap.size 29 _ (0, 0) _ _ rfl rfl HS.out.1 Tryz.underlying29 rfl sizeImD) rfl ?_
      rw [HQ.out]
      exact ⟨.inl ⟨HYES.out, _, _, _, _, rfl, HM.out⟩, HB4.out.trans (HS.out.2 _ (Nat.le_refl _))⟩
    · have hcb : ((encB im).toList == b.toList) = false := by rw [HSB.out, decide_eq_false hq]
      have HNO := Lib.hid (show ¬ decOk b from fun h => hq (HOK.out.1 h).2)
      clear hee HOK hq HSB
      generalize encB im = eb at *
      go_upto_region 4 with (go_at_call 10; (with_reducible refine HE.out.mono ?_); rintro e w4 ⟨v, rfl, hz, hb4⟩; obtain rfl : v = .nilIface := hz; have hN4 := (hb4.block _ (Nat.lt_trans hne hlt3)).trans HN3.out; have hA4 := (hb4.block _ hlt3).trans HA3.out; have HB4 := Lib.hid (HB3.out.trans (hb4.mono HB3.out.size)); have HB4l := Lib.hid hb4; clear hb4)
      go_wp2_with (go_at_call 26; (with_reducible refine (HF.out _).mono ?_); rintro e w5 ⟨vf, rfl, hv5, hb5⟩; have hN5 := (hb5.block _ (lt_of_block hN4)).trans hN4; obtain ⟨⟨n0, n1, n2, n3, n4, n5⟩, f0, f1, f2, f3, f4, f5⟩ := al_cells hN5; have HS := Lib.hid (al_store hN5 (.slice none 0 0) (.slice none 0 0) (.slice none 0 0) (.slice none 0 0) (.int .i64 0) (.int .i64 0)); have HV := Lib.hid (hv5.keptD (al_storeG w5 w.heap.size (.slice none 0 0) (.slice none 0 0) (.slice none 0 0) (.slice none 0 0) (.int .i64 0) (.int .i64 0)) hN5 rfl); have HB5 := Lib.hid (HB4.out.trans (hb5.mono HB4.out.size)); clear hv5 hN5 hb5)
      refine bodyPost_ret (results_cell_tmpD rfl _ _ w.heap.size 29 _ (0, 0) _ _ rfl rfl HS.out.1 Tryz.underlying29 rfl sizeImD) rfl ?_
      rw [HQ.out]
      exact ⟨.inr ⟨HNO.out, _, rfl, HV.out⟩, HB5.out.trans (HS.out.2 _ (Nat.le_refl _))⟩
end Go.Proofs.YtbafmnafhaoggaaGreatDoor
