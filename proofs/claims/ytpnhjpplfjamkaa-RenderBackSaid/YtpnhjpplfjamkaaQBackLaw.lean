import Derived.Test.YtpnhjpplfjamkaaQText
import Derived.Test.YtpnhjpplfjamkaaQKit
import Derived.Test.YtpnhjpplfjamkaaPBackLaw
import Derived.Test.YtpnhjpplfjamkaaQParse
namespace Go.Proofs.Ytpnhjpplfjamkaa
open Go Go.RowKit
theorem tag_shape {W : World} {v : Value} {T : TagM} (h : TagIs W v T) : ∃ ae ac av vc ax xc ap pc, v = .agg #[.string T.lang, .slice ae T.extl.length ac, .string T.script, .string T.region, .slice av T.vars.length vc, .slice ax T.exts.length xc, .slice ap T.priv.length pc, .string T.grand] := by
  obtain ⟨_, _, _, _, rfl, ⟨_, _, rfl, _⟩, ⟨_, _, rfl, _⟩, ⟨_, _, rfl, _⟩, ⟨_, _, rfl, _⟩⟩ := h
  exact ⟨_, _, _, _, _, _, _, _, rfl⟩
theorem sameT_self (A : TagM) : sameT A A = true := by simp [sameT]
theorem pickT_size {l : List ByteArray} {m : Nat} (h : ∀ x ∈ l, x.size ≤ m) (n : Int) : (pickT l n).size ≤ m := by
  unfold pickT
  rcases Nat.lt_or_ge (pickI l.length n) l.length with h1 | h1
  · rw [List.getD_eq_getElem?_getD, List.getElem?_eq_getElem h1]
    exact h _ (List.getElem_mem h1)
  · rw [List.getD_eq_getElem?_getD, List.getElem?_eq_none h1]
    exact Nat.zero_le _
theorem addVs_mem {m : Nat} : ∀ (l : List Int) (acc : List ByteArray), (∀ x ∈ acc, x.size ≤ m) → (∀ x ∈ variantsL, x.size ≤ m) → ∀ x ∈ l.foldl (fun acc n => addP acc (pickT variantsL n)) acc, x.size ≤ m
  | [], _, h, _ => h
  | n :: r, acc, h, hv => by
    rw [List.foldl_cons]
    refine addVs_mem r _ (fun x hx => ?_) hv
    unfold addP at hx
    split at hx
    · exact h x hx
    · rcases List.mem_append.1 hx with h1 | h1
      · exact h x h1
      · simp at h1; subst h1; exact pickT_size hv n
theorem madeT_tiny (S : SeedM) : TagTiny (madeT S) := by
  have hE : ∀ y e, (madeE y e).length ≤ 1 := fun y e => by unfold madeE; split <;> simp
  have hV : (madeV S.vars).length ≤ 4 := by unfold madeV; have := addVs_len (S.vars.take 4); rw [List.length_take] at this; omega
  have hX : (madeX S.keys).length ≤ 3 := by unfold madeX; rw [extKs_len, List.length_take]; omega
  have hP : (madeP S.priv).length ≤ 3 := by unfold madeP; rw [List.length_map, List.length_take]; omega
  have sE : ∀ y e, ∀ x ∈ madeE y e, x.size ≤ 100 := fun y e x hx => by
    unfold madeE at hx
    split at hx
    · simp at hx; subst hx; exact pickT_size (by decide) _
    · simp at hx
  have sV : ∀ x ∈ madeV S.vars, x.size ≤ 100 := addVs_mem _ [] (fun x h => by simp at h) (by decide)
  have sP : ∀ x ∈ madeP S.priv, x.size ≤ 100 := fun x hx => by
    unfold madeP at hx
    obtain ⟨y, _, rfl⟩ := List.mem_map.1 hx
    exact pickT_size (by decide) _
  have sX : ∀ x ∈ madeX S.keys, x.1.size ≤ 100 ∧ x.2.length ≤ 8 ∧ ∀ y ∈ x.2, y.size ≤ 100 := fun x hx => by
    unfold madeX extKs at hx
    obtain ⟨y, _, rfl⟩ := List.mem_map.1 hx
    refine ⟨?_, ?_, ?_⟩
    · show (keyI y.2).size ≤ 100
      unfold keyI
      rcases Nat.lt_or_ge y.2 4 with h | h
      · have : ∀ k : Fin 4, (([⟨#[117]⟩, ⟨#[116]⟩, ⟨#[97]⟩, ⟨#[57]⟩] : List ByteArray).getD k.val ByteArray.empty).size ≤ 100 := by decide +kernel
        exact this ⟨y.2, h⟩
      · rw [List.getD_eq_getElem?_getD, List.getElem?_eq_none (by simpa using h)]
        exact Nat.zero_le _
    · show (subsN _).length ≤ 8
      unfold subsN
      rw [List.length_map, List.length_range]
      omega
    · intro z hz
      have hz : z ∈ subsN (pickI 1000 y.1) := hz
      unfold subsN at hz
      obtain ⟨k, _, rfl⟩ := List.mem_map.1 hz
      exact pickT_size (by decide) _
  have hE' := hE (pickT langsL S.lang) S.extl
  have sE' := sE (pickT langsL S.lang) S.extl
  have sl := langs_size S.lang
  have ss : (pickT scriptsL S.script).size ≤ 100 := pickT_size (by decide) _
  have sr : (pickT regionsL S.region).size ≤ 100 := pickT_size (by decide) _
  have add2 : ∀ {l m : List ByteArray}, (∀ x ∈ l, x.size ≤ 100) → (∀ x ∈ m, x.size ≤ 100) → ∀ x ∈ l ++ m, x.size ≤ 100 := fun h1 h2 x hx => (List.mem_append.1 hx).elim (h1 x) (h2 x)
  have addX : ∀ {m : List (ByteArray × List ByteArray)}, (∀ x ∈ m, x.1.size ≤ 100 ∧ x.2.length ≤ 8 ∧ ∀ y ∈ x.2, y.size ≤ 100) → ∀ x ∈ madeX S.keys ++ m, x.1.size ≤ 100 ∧ x.2.length ≤ 8 ∧ ∀ y ∈ x.2, y.size ≤ 100 := fun h2 x hx => (List.mem_append.1 hx).elim (sX x) (h2 x)
  unfold madeT spoiltT
  generalize pickT langsL S.lang = y1 at *
  generalize pickT scriptsL S.script = y2 at *
  generalize pickT regionsL S.region = y3 at *
  generalize madeE y1 S.extl = mE at *
  generalize madeV S.vars = mV at *
  generalize madeX S.keys = mX at *
  generalize madeP S.priv = mP at *
  split
  · exact ⟨by simp; omega, by simp; omega, by simp; omega, by simp; omega, by simp; omega, ss, sr, Nat.zero_le _, sE', add2 sV (by decide), sP, sX⟩
  split
  · exact ⟨by simp; omega, by simp; omega, by simp; omega, by simp; omega, by show (titleS y1).size ≤ 100; rw [size_titleS]; omega, ss, sr, Nat.zero_le _, sE', sV, sP, sX⟩
  split
  · exact ⟨by simp; omega, by simp; omega, by simp; omega, by simp; omega, by simp; omega, ss, sr, Nat.zero_le _, sE', sV, sP, addX (by decide)⟩
  split
  · exact ⟨by simp; omega, by simp; omega, by simp; omega, by simp; omega, by simp; omega, by show (⟨#[108, 97, 116]⟩ : ByteArray).size ≤ 100; decide, sr, Nat.zero_le _, sE', sV, sP, sX⟩
  split
  · exact ⟨by simp; omega, by simp; omega, by simp; omega, by simp; omega, by simp; omega, ss, sr, by show (⟨#[105, 45, 97, 109, 105]⟩ : ByteArray).size ≤ 100; decide, sE', sV, sP, sX⟩
  split
  · exact ⟨by simp; omega, by simp; omega, by simp; omega, by simp; omega, by simp; omega, ss, sr, Nat.zero_le _, sE', sV, add2 sP (by decide), sX⟩
  split
  · exact ⟨by simp; omega, by simp; omega, by simp; omega, by simp; omega, by simp; omega, ss, sr, Nat.zero_le _, sE', sV, sP, addX (by decide)⟩
  split
  · exact ⟨by simp; omega, by simp; omega, by simp; omega, by simp; omega, Nat.zero_le _, ss, sr, Nat.zero_le _, sE', sV, sP, sX⟩
  · exact ⟨by simp; omega, by simp; omega, by simp; omega, by simp; omega, by simp; omega, ss, sr, Nat.zero_le _, sE', sV, sP, sX⟩
def tag8 (W : World) (B : Nat) (a b c d e f g h : Value) : Prop :=
  W.cell? ⟨B, 0, none⟩ = some a ∧ W.cell? ⟨B, 1, none⟩ = some b ∧ W.cell? ⟨B, 2, none⟩ = some c ∧ W.cell? ⟨B, 3, none⟩ = some d ∧ W.cell? ⟨B, 4, none⟩ = some e ∧ W.cell? ⟨B, 5, none⟩ = some f ∧ W.cell? ⟨B, 6, none⟩ = some g ∧ W.cell? ⟨B, 7, none⟩ = some h
end Go.Proofs.Ytpnhjpplfjamkaa

namespace Go.Proofs.Ytpnhjpplfjamkaa
open Go Go.RowKit

theorem got_ok {W : World} {v : Value} {T : TagM} (h : GotR W v (T, none)) : ∃ g1 g2 g3 g4 g5 g6 g7 g8, v = .agg #[.string T.lang, .slice g1 T.extl.length g2, .string T.script, .string T.region, .slice g3 T.vars.length g4, .slice g5 T.exts.length g6, .slice g7 T.priv.length g8, .string T.grand, .int .i64 0, .int .i64 0, .string ⟨#[]⟩] ∧ TagIs W (.agg #[.string T.lang, .slice g1 T.extl.length g2, .string T.script, .string T.region, .slice g3 T.vars.length g4, .slice g5 T.exts.length g6, .slice g7 T.priv.length g8, .string T.grand]) T := by
  rcases h with ⟨x, h, _⟩ | ⟨t, ve, vv, vx, vp, h, rfl, ht⟩
  · cases h
  · obtain rfl : T = t := congrArg Prod.fst h
    obtain ⟨ae, ac, av, vc, ax, xc, ap, pc, hs⟩ := tag_shape ht
    have e : ve = .slice ae T.extl.length ac ∧ vv = .slice av T.vars.length vc ∧ vx = .slice ax T.exts.length xc ∧ vp = .slice ap T.priv.length pc := by simpa using hs
    obtain ⟨rfl, rfl, rfl, rfl⟩ := e
    exact ⟨ae, ac, av, vc, ax, xc, ap, pc, rfl, ht⟩
theorem got_err {W : World} {v : Value} {x : PErr} (h : GotR W v (pNo, some x)) : v = .agg #[.string ⟨#[]⟩, .slice none 0 0, .string ⟨#[]⟩, .string ⟨#[]⟩, .slice none 0 0, .slice none 0 0, .slice none 0 0, .string ⟨#[]⟩, .int .i64 x.1, .int .i64 (x.2.1 : Int), .string x.2.2] := by
  rcases h with ⟨y, h, rfl⟩ | ⟨t, ve, vv, vx, vp, h, _⟩
  · obtain rfl : x = y := Option.some.inj (congrArg Prod.snd h)
    rfl
  · cases h
theorem pNo_is (W : World) : TagIs W (.agg #[.string ⟨#[]⟩, .slice none 0 0, .string ⟨#[]⟩, .string ⟨#[]⟩, .slice none 0 0, .slice none 0 0, .slice none 0 0, .string ⟨#[]⟩]) pNo := zero_tagQ W ByteArray.empty
end Go.Proofs.Ytpnhjpplfjamkaa

namespace Go.Proofs.Ytpnhjpplfjamkaa
open Go Go.RowKit

theorem right_low {T : TagM} (h : rightT T = true) : lowS (joinS (subtagsT T)) = joinS (subtagsT T) := by
  unfold rightT smallT at h
  rw [Bool.and_eq_true, Bool.and_eq_true] at h
  obtain ⟨⟨hs, hgs⟩, h⟩ := h
  have hsm : ∀ p ∈ subtagsT T, lowS p = p := fun p hp => by
    unfold lowT at hs
    have := List.all_eq_true.1 hs p (List.mem_append_left _ hp)
    exact (of_decide_eq_true this).symm
  rw [← joinS_low, List.map_congr_left hsm, List.map_id']
theorem gotc_cells {W : World} {B : Nat} {a b c d e f g h i j k : Value} {t : TypeId} (hb : W.heap[B]? = some (.cells #[a, b, c, d, e, f, g, h, i, j, k] t (0, 0))) :
    W.cell? ⟨B, 0, none⟩ = some a ∧ W.cell? ⟨B, 1, none⟩ = some b ∧ W.cell? ⟨B, 2, none⟩ = some c ∧ W.cell? ⟨B, 3, none⟩ = some d ∧ W.cell? ⟨B, 4, none⟩ = some e ∧ W.cell? ⟨B, 5, none⟩ = some f ∧ W.cell? ⟨B, 6, none⟩ = some g ∧ W.cell? ⟨B, 7, none⟩ = some h := by
  simp [World.cell?, hb]

set_option maxRecDepth 100000 in
set_option maxHeartbeats 8000000 in
theorem rback_law (SA : SeedM) (va ka pa : Value) (w : World)
    (a1 : IntsA w va SA.vars) (a2 : IntsA w ka SA.keys) (a3 : IntsA w pa SA.priv) (a4 : -9223372036854775808 ≤ SA.extl) (a5 : SA.extl ≤ 9223372036854775807) :
    Calls Try.prog 3 #[.agg #[.int .i64 SA.lang, .int .i64 SA.extl, .int .i64 SA.script, .int .i64 SA.region, va, ka, pa, .int .i64 SA.odd]] w fun e w' => e = .returned (.bool true) ∧ Below w.heap.size w w' := by
  obtain ⟨W2, hW2⟩ : ∃ W2, w.alloc (.cells #[.int .i64 SA.lang, .int .i64 SA.extl, .int .i64 SA.script, .int .i64 SA.region, va, ka, pa, .int .i64 SA.odd] 24) = W2 := ⟨_, rfl⟩
  have hb2 : Below w.heap.size w W2 := by rw [← hW2]; exact (Below.refl _ w).alloc (Nat.le_refl _) _
  have hA : W2.heap[w.heap.size]? = some (.cells #[.int .i64 SA.lang, .int .i64 SA.extl, .int .i64 SA.script, .int .i64 SA.region, va, ka, pa, .int .i64 SA.odd] 24 (0, 0)) := by rw [← hW2]; exact World.alloc_heap_new w _
  have hlA := lt_of_heap hA
  have AW := Lib.hid (fun w5 (hb : Below W2.heap.size W2 w5) => (awake8_any w5).mono (R' := fun e w6 => e = .returned (.bool true) ∧ Below W2.heap.size W2 w6 ∧ tag8 w6 w.heap.size (.int .i64 SA.lang) (.int .i64 SA.extl) (.int .i64 SA.script) (.int .i64 SA.region) va ka pa (.int .i64 SA.odd)) fun e w6 ⟨p, q⟩ => ⟨p, hb.trans (q.mono hb.size), tag_cells (((hb.trans (q.mono hb.size)).block _ hlA).trans hA)⟩)
  have fA := madeT_tiny SA
  have MZ := Lib.hid (fun w5 (hb : Below W2.heap.size W2 w5) => (made_any SA va ka pa w5 ((a1.below hb2).below hb) ((a2.below hb2).below hb) ((a3.below hb2).below hb) a4 a5).mono (R' := fun e w7 => ∃ f1 f2 f3 f4 f5 f6 f7 f8, e = .returned (.agg #[.string (madeT SA).lang, .slice f1 (madeT SA).extl.length f2, .string (madeT SA).script, .string (madeT SA).region, .slice f3 (madeT SA).vars.length f4, .slice f5 (madeT SA).exts.length f6, .slice f7 (madeT SA).priv.length f8, .string (madeT SA).grand]) ∧ TagIs w7 (.agg #[.string (madeT SA).lang, .slice f1 (madeT SA).extl.length f2, .string (madeT SA).script, .string (madeT SA).region, .slice f3 (madeT SA).vars.length f4, .slice f5 (madeT SA).exts.length f6, .slice f7 (madeT SA).priv.length f8, .string (madeT SA).grand]) (madeT SA) ∧ Below W2.heap.size W2 w7) fun e w7 ⟨u, p, q, r⟩ => by
    obtain ⟨ae, ac, av, vc, ax, xc, ap, pc, rfl⟩ := tag_shape q
    exact ⟨ae, ac, av, vc, ax, xc, ap, pc, p, q, hb.trans (r.mono hb.size)⟩)
  have HB2 := Lib.hid hb2
  have hs2 := hb2.size
  clear a1 a2 a3 a4 a5 hA hlA hb2
  generalize madeT SA = TA at *
  go_enter Try.func3, Try.ntmps3
  go_upto_region 1 with fail
  clear hW2
  go_upto_region 3 with (first
    | (go_at_call 4; (with_reducible refine (AW.out _ (Below.refl _ _)).mono ?_); rintro e w5 ⟨rfl, hb5, ⟨q0, q1, q2, q3, q4, q5, q6, q7⟩⟩)
    | (go_at_call 5; (with_reducible refine (MZ.out _ hb5).mono ?_); rintro e w8 ⟨f1, f2, f3, f4, f5, f6, f7, f8, rfl, hI8, hb8⟩))
  obtain ⟨WT, hWT⟩ : ∃ W, w8.alloc (.cells #[.string TA.lang, .slice f1 TA.extl.length f2, .string TA.script, .string TA.region, .slice f3 TA.vars.length f4, .slice f5 TA.exts.length f6, .slice f7 TA.priv.length f8, .string TA.grand] 29) = W := ⟨_, rfl⟩
  have hbT : Below w8.heap.size w8 WT := by rw [← hWT]; exact (Below.refl _ _).alloc (Nat.le_refl _) _
  have hT : WT.heap[w8.heap.size]? = some (.cells #[.string TA.lang, .slice f1 TA.extl.length f2, .string TA.script, .string TA.region, .slice f3 TA.vars.length f4, .slice f5 TA.exts.length f6, .slice f7 TA.priv.length f8, .string TA.grand] 29 (0, 0)) := by rw [← hWT]; exact World.alloc_heap_new w8 _
  have hlT := lt_of_heap hT
  have hBT := hb8.trans (hbT.mono hb8.size)
  have HBT := Lib.hid hBT
  have hIT := hI8.below hbT
  have HIT := Lib.hid hIT
  have HCT := Lib.hid (fun (w' : World) (hb : Below WT.heap.size WT w') => tag_cells ((hb.block _ hlT).trans hT))
  have RT := Lib.hid (fun w5 (hb : Below WT.heap.size WT w5) => (right_ref2 (.agg #[.string TA.lang, .slice f1 TA.extl.length f2, .string TA.script, .string TA.region, .slice f3 TA.vars.length f4, .slice f5 TA.exts.length f6, .slice f7 TA.priv.length f8, .string TA.grand]) TA w5 (hIT.below hb) fA).mono (R' := fun e w7 => e = .returned (.bool (rightT TA)) ∧ Below WT.heap.size WT w7) fun e w7 ⟨p, q⟩ => ⟨p, hb.trans (q.mono hb.size)⟩)
  clear hI8 hb8 hb5 hbT hT q0 q1 q2 q3 q4 q5 q6 q7 hBT
  have hB9 : Below WT.heap.size WT WT := Below.refl _ _
  obtain ⟨q0, q1, q2, q3, q4, q5, q6, q7⟩ := HCT.out _ hB9
  rw [hWT]
  clear hWT
  cases hr : rightT TA with
  | false =>
    rw [hr] at RT
    clear hr hIT fA HIT
    go_wp2_with (go_at_call 6; (with_reducible refine (RT.out _ (by assumption)).mono ?_); rintro e w9 ⟨rfl, hB10⟩)
    go_ret
    exact ⟨rfl, HB2.out.trans ((HBT.out.trans (hB10.mono HBT.out.size)).mono hs2)⟩
  | true =>
  rw [hr] at RT
  have htx := tiny_join fA
  obtain ⟨j, hj⟩ : ∃ j, joinS (subtagsT TA) = j := ⟨_, rfl⟩
  obtain ⟨t, ht⟩ : ∃ t, caseS j = t := ⟨_, rfl⟩
  have htz : t.size ≤ 20200 := by rw [← ht, size_caseS, ← hj]; exact htx
  have hlow : lowS t = j := by rw [← ht, low_caseS, ← hj, right_low hr]
  have hpj : parseS j = (TA, none) := by rw [← hj]; exact parse_right TA hr
  have hps : parseS t = (TA, none) := by rw [← ht, parseS_same (low_caseS j), hpj]
  have hwide : TagWide TA := by have := parse_wide2 t (by omega); rwa [hps] at this
  have SV := Lib.hid (fun (v : Value) w5 (hv : TagIs w5 v TA) => (stringr_own v TA w5 hv fA).mono (R' := fun e w7 => e = .returned (.string t) ∧ Below w5.heap.size w5 w7) fun e w7 ⟨p, q⟩ => ⟨by rw [p, hj, ht], q⟩)
  have LO := Lib.hid (fun (WU : World) w5 (hc : Below WU.heap.size WU w5) (hb : Below WT.heap.size WT w5) => (lowr_own (.agg #[.string TA.lang, .slice f1 TA.extl.length f2, .string TA.script, .string TA.region, .slice f3 TA.vars.length f4, .slice f5 TA.exts.length f6, .slice f7 TA.priv.length f8, .string TA.grand]) TA w5 (hIT.below hb) fA).mono (R' := fun e w7 => e = .returned (.string j) ∧ Below WU.heap.size WU w7 ∧ Below WT.heap.size WT w7) fun e w7 ⟨p, q⟩ => ⟨by rw [p, hj], hc.trans (q.mono hc.size), hb.trans (q.mono hb.size)⟩)
  have LR := Lib.hid (fun (WU : World) w5 (hc : Below WU.heap.size WU w5) (hb : Below WT.heap.size WT w5) => (lower_ref t w5 (by omega)).mono (R' := fun e w7 => e = .returned (.string j) ∧ Below WU.heap.size WU w7 ∧ Below WT.heap.size WT w7) fun e w7 ⟨p, q⟩ => ⟨by rw [p, hlow], hc.trans (q.mono hc.size), hb.trans (q.mono hb.size)⟩)
  have PR := Lib.hid (fun w5 (hb : Below WT.heap.size WT w5) => (parse_ref t w5 (by omega)).mono (R' := fun e w7 => ∃ g1 g2 g3 g4 g5 g6 g7 g8, e = .returned (.agg #[.string TA.lang, .slice g1 TA.extl.length g2, .string TA.script, .string TA.region, .slice g3 TA.vars.length g4, .slice g5 TA.exts.length g6, .slice g7 TA.priv.length g8, .string TA.grand, .int .i64 0, .int .i64 0, .string ⟨#[]⟩]) ∧ TagIs w7 (.agg #[.string TA.lang, .slice g1 TA.extl.length g2, .string TA.script, .string TA.region, .slice g3 TA.vars.length g4, .slice g5 TA.exts.length g6, .slice g7 TA.priv.length g8, .string TA.grand]) TA ∧ Below WT.heap.size WT w7) fun e w7 ⟨v, p, q, r⟩ => by
    rw [hps] at q
    obtain ⟨g1, g2, g3, g4, g5, g6, g7, g8, rfl, hi⟩ := got_ok q
    exact ⟨g1, g2, g3, g4, g5, g6, g7, g8, p, hi, hb.trans (r.mono hb.size)⟩)
  have SMA := Lib.hid (fun (v : Value) w5 (hv : TagIs w5 v TA) (hb : Below WT.heap.size WT w5) => (same_wide v (.agg #[.string TA.lang, .slice f1 TA.extl.length f2, .string TA.script, .string TA.region, .slice f3 TA.vars.length f4, .slice f5 TA.exts.length f6, .slice f7 TA.priv.length f8, .string TA.grand]) TA TA w5 hv (HIT.out.below hb) hwide).mono (R' := fun e w7 => e = .returned (.bool true) ∧ Below w5.heap.size w5 w7 ∧ Below WT.heap.size WT w7) fun e w7 ⟨p, q⟩ => ⟨by rw [p, sameT_self], q, hb.trans (q.mono hb.size)⟩)
  clear hr fA htx hj ht htz hlow hpj hps hwide
  go_upto_region 8 with (first
    | (go_at_call 6; (with_reducible refine (RT.out _ (by assumption)).mono ?_); rintro e w9 ⟨rfl, hB10⟩; obtain ⟨p0, p1, p2, p3, p4, p5, p6, p7⟩ := HCT.out _ hB10)
    | (go_at_call 7; (with_reducible refine (SV.out _ _ (hIT.below hB10)).mono ?_); rintro e w10 ⟨rfl, hB11⟩; have hB11 := hB10.trans (hB11.mono hB10.size))
    | (go_at_call 8; (with_reducible refine (PR.out _ (by assumption)).mono ?_); rintro e w12 ⟨g1, g2, g3, g4, g5, g6, g7, g8, rfl, hI12, hB12⟩))
  obtain ⟨WU, hWU⟩ : ∃ W, w12.alloc (.cells #[.string TA.lang, .slice g1 TA.extl.length g2, .string TA.script, .string TA.region, .slice g3 TA.vars.length g4, .slice g5 TA.exts.length g6, .slice g7 TA.priv.length g8, .string TA.grand, .int .i64 0, .int .i64 0, .string ⟨#[]⟩] 35) = W := ⟨_, rfl⟩
  have hbU : Below w12.heap.size w12 WU := by rw [← hWU]; exact (Below.refl _ _).alloc (Nat.le_refl _) _
  have hU : WU.heap[w12.heap.size]? = some (.cells #[.string TA.lang, .slice g1 TA.extl.length g2, .string TA.script, .string TA.region, .slice g3 TA.vars.length g4, .slice g5 TA.exts.length g6, .slice g7 TA.priv.length g8, .string TA.grand, .int .i64 0, .int .i64 0, .string ⟨#[]⟩] 35 (0, 0)) := by rw [← hWU]; exact World.alloc_heap_new w12 _
  have hlU := lt_of_heap hU
  have hBU := hB12.trans (hbU.mono hB12.size)
  have hIU := hI12.below hbU
  have HIU := Lib.hid hIU
  have HCU := Lib.hid (fun (w' : World) (hb : Below WU.heap.size WU w') => gotc_cells ((hb.block _ hlU).trans hU))
  have SW := Lib.hid (fun w5 (hb : Below WU.heap.size WU w5) => (SV.out (.agg #[.string TA.lang, .slice g1 TA.extl.length g2, .string TA.script, .string TA.region, .slice g3 TA.vars.length g4, .slice g5 TA.exts.length g6, .slice g7 TA.priv.length g8, .string TA.grand]) w5 (hIU.below hb)).mono (R' := fun e w7 => e = .returned (.string t) ∧ Below WU.heap.size WU w7 ∧ Below WT.heap.size WT w7) fun e w7 ⟨p, q⟩ => ⟨p, hb.trans (q.mono hb.size), hBU.trans ((hb.trans (q.mono hb.size)).mono hBU.size)⟩)
  clear hI12 hbU hU q0 q1 q2 q3 q4 q5 q6 q7 p0 p1 p2 p3 p4 p5 p6 p7 hB10 hB11 hB9 SV
  have hBW : Below WU.heap.size WU WU := Below.refl _ _
  obtain ⟨q0, q1, q2, q3, q4, q5, q6, q7⟩ := HCT.out _ hBU
  obtain ⟨u0, u1, u2, u3, u4, u5, u6, u7⟩ := HCU.out _ hBW
  rw [hWU]
  clear hWU
  go_upto_region 9 with (go_at_call 9; (with_reducible refine (SMA.out _ _ hIU hBU).mono ?_); rintro e w13 ⟨rfl, hb13, hB13⟩)
  clear q0 q1 q2 q3 q4 q5 q6 q7 u0 u1 u2 u3 u4 u5 u6 u7
  have hD : Below WU.heap.size WU w13.drew := hb13.drew
  have hE : Below WT.heap.size WT w13.drew := hB13.drew
  obtain ⟨q0, q1, q2, q3, q4, q5, q6, q7⟩ := HCT.out _ hE
  obtain ⟨u0, u1, u2, u3, u4, u5, u6, u7⟩ := HCU.out _ hD
  clear hb13 hB13
  go_region_held3 (fun w' => Below WU.heap.size WU w' ∧ Below WT.heap.size WT w' ∧ w'.cell? ⟨w8.heap.size, 0, none⟩ = some (.string TA.lang) ∧ w'.cell? ⟨w8.heap.size, 1, none⟩ = some (.slice f1 TA.extl.length f2) ∧ w'.cell? ⟨w8.heap.size, 2, none⟩ = some (.string TA.script) ∧ w'.cell? ⟨w8.heap.size, 3, none⟩ = some (.string TA.region) ∧ w'.cell? ⟨w8.heap.size, 4, none⟩ = some (.slice f3 TA.vars.length f4) ∧ w'.cell? ⟨w8.heap.size, 5, none⟩ = some (.slice f5 TA.exts.length f6) ∧ w'.cell? ⟨w8.heap.size, 6, none⟩ = some (.slice f7 TA.priv.length f8) ∧ w'.cell? ⟨w8.heap.size, 7, none⟩ = some (.string TA.grand) ∧ w'.cell? ⟨w12.heap.size, 0, none⟩ = some (.string TA.lang) ∧ w'.cell? ⟨w12.heap.size, 1, none⟩ = some (.slice g1 TA.extl.length g2) ∧ w'.cell? ⟨w12.heap.size, 2, none⟩ = some (.string TA.script) ∧ w'.cell? ⟨w12.heap.size, 3, none⟩ = some (.string TA.region) ∧ w'.cell? ⟨w12.heap.size, 4, none⟩ = some (.slice g3 TA.vars.length g4) ∧ w'.cell? ⟨w12.heap.size, 5, none⟩ = some (.slice g5 TA.exts.length g6) ∧ w'.cell? ⟨w12.heap.size, 6, none⟩ = some (.slice g7 TA.priv.length g8) ∧ w'.cell? ⟨w12.heap.size, 7, none⟩ = some (.string TA.grand))
    (first | exact ⟨by assumption, by assumption, by assumption, by assumption, by assumption, by assumption, by assumption, by assumption, by assumption, by assumption, by assumption, by assumption, by assumption, by assumption, by assumption, by assumption, by assumption, by assumption⟩ | exact ⟨by assumption, by assumption, (HCT.out _ (by assumption)).1, (HCT.out _ (by assumption)).2.1, (HCT.out _ (by assumption)).2.2.1, (HCT.out _ (by assumption)).2.2.2.1, (HCT.out _ (by assumption)).2.2.2.2.1, (HCT.out _ (by assumption)).2.2.2.2.2.1, (HCT.out _ (by assumption)).2.2.2.2.2.2.1, (HCT.out _ (by assumption)).2.2.2.2.2.2.2, HCU.out _ (by assumption)⟩)
    (first
      | (go_at_call 7; (with_reducible refine (SW.out _ (by assumption)).mono ?_); rintro e w14 ⟨rfl, hD14, hB14⟩)
      | (go_at_call 10; (with_reducible refine (LR.out WU _ (by assumption) (by assumption)).mono ?_); rintro e w15 ⟨rfl, hD15, hB15⟩)
      | (go_at_call 11; (with_reducible refine (LO.out WU _ (by assumption) (by assumption)).mono ?_); rintro e w16 ⟨rfl, hD16, hB16⟩))
  all_goals
    (try go_wp2_with fail)
    go_ret
    exact ⟨rfl, HB2.out.trans ((HBT.out.trans (hB16.mono HBT.out.size)).mono hs2)⟩
end Go.Proofs.Ytpnhjpplfjamkaa
