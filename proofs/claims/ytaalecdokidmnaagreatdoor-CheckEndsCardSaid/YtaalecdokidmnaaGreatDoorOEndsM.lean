/-
  Merged: OFinal, OArgs, OEndsLaw.
-/
import Derived.Test.YtaalecdokidmnaaGreatDoorOAwake
import Derived.Test.YtaalecdokidmnaaGreatDoorWApp
import Derived.Test.YtaalecdokidmnaaGreatDoorZArgs
import Derived.Laws.IdiomArrays
import Derived.Deep.RegionLawGrows
import Derived.Deep.AppendLies
import Derived.Deep.CutRange
/-! OFinal -/
namespace Go.Proofs.YtaalecdokidmnaaGreatDoor
open Go Go.RowKit

set_option maxRecDepth 100000 in
set_option maxHeartbeats 2000000 in
theorem finO_any (ao : Option Addr) (c : Nat) (vl vr vm vt vd : Value) (L : List Al) (k : Int) (a b : ByteArray) (w : World) (hv : RowC w (.slice ao L.length c) 6 (L.map alC)) (hl : L.length ≤ 4000) (hs : ∀ x ∈ L, AlS x) (hk : (Lit.int .i64 k).wf = true) (ha : a.size ≤ maxLen) (hb : b.size ≤ maxLen) :
    Calls Tryz.prog 11 #[.agg #[.slice ao L.length c, vl, vr, vm, vt, vd], .int .i64 k, .string a, .string b] w fun e w' => e = .returned (.bool (finalN (kns L) k a b)) ∧ Below w.heap.size w w' := by
  obtain ⟨W1, hW1⟩ : ∃ W1, w.alloc (.cells #[.slice ao L.length c, vl, vr, vm, vt, vd] 34) = W1 := ⟨_, rfl⟩
  have hb1 : Below w.heap.size w W1 := by rw [← hW1]; exact (Below.refl _ w).alloc (Nat.le_refl _) _
  have hA : W1.heap[w.heap.size]? = some (.cells #[.slice ao L.length c, vl, vr, vm, vt, vd] 34 (0, 0)) := by rw [← hW1]; exact World.alloc_heap_new w _
  have HO := Lib.hid (oldAls_any _ L W1 (hv.below hb1) hl hs)
  have HF := Lib.hid (fun M w' h => final_any (kns L) M k a b w' hk ha hb h)
  have HB := Lib.hid hb1
  obtain ⟨d0, -, -, -, -, -⟩ := cells6 hA
  have HW1 := Lib.hid hW1
  clear hW1 hb1 hA hv hl hs hk ha hb
  go_enter Tryz.func11, Tryz.ntmps11
  go_upto_region 1 with fail
  rw [HW1.out]
  go_wp2_with (first
    | (go_at_call 33; (with_reducible refine HO.out.mono ?_); rintro e w2 ⟨M, rfl, h2, hb2⟩)
    | (go_at_call 34; (with_reducible refine (HF.out M _ h2).mono ?_); rintro e w3 ⟨rfl, hb3⟩))
  go_ret
  exact ⟨rfl, HB.out.trans ((hb2.trans (hb3.mono hb2.size)).mono HB.out.size)⟩

/-! What follows. -/
theorem right_full {x : Al} (h : rightA x = true) : (x.k = 2 → 0 < x.l.size) ∧ (x.k = 3 → 0 < x.l.size) ∧ (x.k = 4 → 0 < x.s.size) ∧ (x.k = 5 → 0 < x.r.size) := by
  unfold rightA at h
  rw [Bool.and_eq_true] at h
  have h := h.2
  have lang : ∀ s, (languageS s && smallS s) = true → 0 < s.size := fun s hs => by
    rw [Bool.and_eq_true] at hs
    have := hs.1
    unfold languageS lettersS at this
    rw [Bool.and_eq_true, Bool.and_eq_true, decide_eq_true_iff, decide_eq_true_iff] at this
    omega
  have scr : ∀ s, (scriptS s && smallS s) = true → 0 < s.size := fun s hs => by
    rw [Bool.and_eq_true] at hs
    have := hs.1
    unfold scriptS lettersS at this
    rw [Bool.and_eq_true, Bool.and_eq_true, decide_eq_true_iff, decide_eq_true_iff] at this
    omega
  have reg : ∀ s, (regionS s && smallS s) = true → 0 < s.size := fun s hs => by
    rw [Bool.and_eq_true] at hs
    have := hs.1
    unfold regionS lettersS at this
    rw [Bool.or_eq_true, Bool.and_eq_true, Bool.and_eq_true, Bool.and_eq_true, decide_eq_true_iff, decide_eq_true_iff, decide_eq_true_iff] at this
    omega
  refine ⟨fun e => ?_, fun e => ?_, fun e => ?_, fun e => ?_⟩ <;> rw [e] at h
  · have h : mustA ⟨languageS, regionS, languageS, noneS, noneS⟩ x = true := h
    unfold mustA at h
    rw [Bool.and_eq_true, Bool.and_eq_true (regionS x.b && smallS x.b), Bool.and_eq_true (languageS x.l && smallS x.l)] at h
    exact lang _ h.2.2.1
  · have h : mustA ⟨languageS, noneS, languageS, maybeS scriptS, maybeS regionS⟩ x = true := h
    unfold mustA at h
    rw [Bool.and_eq_true, Bool.and_eq_true (noneS x.b && smallS x.b), Bool.and_eq_true (languageS x.l && smallS x.l)] at h
    exact lang _ h.2.2.1
  · have h : mustA ⟨scriptS, noneS, noneS, scriptS, noneS⟩ x = true := h
    unfold mustA at h
    rw [Bool.and_eq_true, Bool.and_eq_true (noneS x.b && smallS x.b), Bool.and_eq_true (noneS x.l && smallS x.l), Bool.and_eq_true (scriptS x.s && smallS x.s)] at h
    exact scr _ h.2.2.2.1
  · have h : mustA ⟨regionS, noneS, noneS, noneS, regionS⟩ x = true := h
    unfold mustA at h
    rw [Bool.and_eq_true, Bool.and_eq_true (noneS x.b && smallS x.b), Bool.and_eq_true (noneS x.l && smallS x.l), Bool.and_eq_true (noneS x.s && smallS x.s)] at h
    exact reg _ h.2.2.2.2
theorem has_self {L : List Al} {x : Al} (h : x ∈ L) : hasN (kns L) x.k (nm x.k x.a x.b) = true := by
  unfold hasN
  rw [List.any_eq_true]
  exact ⟨(x.k, x.a, x.b), List.mem_map.2 ⟨x, h, rfl⟩, decide_eq_true ⟨rfl, rfl⟩⟩
theorem nm_ne {k : Int} (h : k ≠ 7) (a b b' : ByteArray) : nm k a b = nm k a b' := by unfold nm; rw [if_neg h, if_neg h]
/-- From what is not final to what is. -/
structure LeadsO (T : List Kn) (x : Al) : Prop where
  f2 : x.k = 2 ∨ x.k = 3 → finalN T 3 x.a ⟨#[]⟩ = false ∧ finalN T 3 x.l ⟨#[]⟩ = true
  f4 : x.k = 4 → finalN T x.k x.a ⟨#[]⟩ = false ∧ finalN T x.k x.s ⟨#[]⟩ = true
  f5 : x.k = 5 → finalN T x.k x.a ⟨#[]⟩ = false ∧ finalN T x.k x.r ⟨#[]⟩ = true
  f6 : x.k = 6 → finalN T x.k x.a ⟨#[]⟩ = false ∧ (0 < x.l.size → finalN T x.k x.l ⟨#[]⟩ = true)
  f7 : x.k = 7 → finalN T x.k x.a x.b = false ∧ finalN T x.k x.a x.l = true
theorem leads_of {im : Im} (h : chkE im = none) {x : Al} (hx : x ∈ im.als) : LeadsO (kns im.als) x := by
  obtain ⟨he, hm⟩ := chkE_none.1 h
  obtain ⟨n, hn⟩ := List.getElem?_of_mem hx
  have hends := hm 0 (by decide) n (List.getElem?_eq_some_iff.1 hn).1
  rw [holds_0 hn] at hends
  have hr : rightA x = true := by
    have := ((encE_noneZ im).1 he).2.2.1 0 (by decide)
    exact (badL_allZ.1 this) x hx
  obtain ⟨g2, g3, g4, g5⟩ := right_full hr
  have hself := has_self hx
  generalize kns im.als = T at *
  have fin4 : ∀ k a b, 4 ≤ k ∧ k ≤ 7 → finalN T k a b = !hasN T k (nm k a b) := fun k a b hk => by unfold finalN; rw [if_neg (by omega), if_pos hk]
  have fine : ∀ k s, fineN T k s = true → 0 < s.size → finalN T k s ⟨#[]⟩ = true := fun k s hf hs => by
    unfold fineN at hf
    rw [Bool.or_eq_true, decide_eq_true_iff] at hf
    exact hf.resolve_left (by omega)
  refine ⟨fun e => ?_, fun e => ?_, fun e => ?_, fun e => ?_, fun e => ?_⟩
  · have hk : x.k ≠ 7 := by omega
    have hl : 0 < x.l.size := by rcases e with e | e; exact g2 e; exact g3 e
    have h3 : fineN T 3 x.l = true := by
      unfold endsN at hends
      rw [if_neg (by omega), if_neg (by omega), Bool.and_eq_true] at hends
      exact hends.1
    refine ⟨?_, fine 3 _ h3 hl⟩
    rw [nm_ne hk x.a x.b ⟨#[]⟩] at hself
    unfold finalN
    rw [if_pos rfl]
    rcases e with e | e
    · rw [e] at hself; rw [hself]; simp
    · rw [e] at hself; rw [hself]; simp
  · have h3 : fineN T 4 x.s = true := by
      unfold endsN at hends
      rw [if_neg (by omega), if_neg (by omega), Bool.and_eq_true, Bool.and_eq_true] at hends
      exact hends.2.1
    have h3' := fine 4 _ h3 (g4 e)
    rw [fin4 _ _ _ (by omega), ← nm_ne (by omega) x.a x.b ⟨#[]⟩, hself]
    exact ⟨rfl, by rw [e]; exact h3'⟩
  · have h3 : fineN T 5 x.r = true := by
      unfold endsN at hends
      rw [if_neg (by omega), if_neg (by omega), Bool.and_eq_true, Bool.and_eq_true] at hends
      exact hends.2.2
    have h3' := fine 5 _ h3 (g5 e)
    rw [fin4 _ _ _ (by omega), ← nm_ne (by omega) x.a x.b ⟨#[]⟩, hself]
    exact ⟨rfl, by rw [e]; exact h3'⟩
  · have h3 : fineN T 6 x.l = true := by
      unfold endsN at hends
      rw [if_pos e] at hends
      exact hends
    rw [fin4 _ x.a _ (by omega), ← nm_ne (by omega) x.a x.b ⟨#[]⟩, hself]
    exact ⟨rfl, fun hs => by rw [e]; exact fine 6 _ h3 hs⟩
  · have h3 : finalN T 7 x.a x.l = true := by
      unfold endsN at hends
      rw [if_neg (by omega), if_pos e] at hends
      exact hends
    rw [fin4 _ x.a x.b (by omega), hself]
    exact ⟨rfl, by rw [e]; exact h3⟩

/-! An alias more. -/
theorem own_newsO {W : World} {b sz m c n : Nat} {ao : Option Addr} {e : TypeId} {xs : List Value} (h : W.ownsRow b e sz (.slice ao m c) n xs) : ∀ ad, ao = some ad → ∀ j u, xs[j]? = some u → W.cell? (ad.add j) = some u := fun ad ha j u hu => by
  subst ha
  rcases owned_casesW h with ⟨h1, -⟩ | ⟨g, cap, h1⟩
  · cases h1
  · injection h1 with h1 _ _
    injection h1 with h1
    subst h1
    exact h.cells rfl j u hu
theorem own_noneO {W : World} {b sz m c n : Nat} {e : TypeId} {xs : List Value} (h : W.ownsRow b e sz (.slice none m c) n xs) : m = 0 := by
  rcases owned_casesW h with ⟨h1, h0⟩ | ⟨g, cap, h1⟩
  · injection h1
  · cases h1
theorem own_emptyO (w : World) (e : TypeId) (sz : Nat) : (w.alloc (.cells #[] e)).ownsRow w.heap.size e sz (.slice (some ⟨w.heap.size, 0, none⟩) 0 0) 0 [] :=
  ⟨by simp, .inr ⟨w.heap.size, 0, #[], rfl, Nat.le_refl _, World.alloc_heap_new _ _, Nat.le_refl _, Nat.zero_le _, by simp, by simp⟩⟩
theorem flat_lenO (l : List Al) : ((l.map alC).flatMap id).length = l.length * 6 := by
  induction l with
  | nil => rfl
  | cons x l ih => rw [List.map_cons, List.flatMap_cons, List.length_append, ih, List.length_cons, Nat.succ_mul]; show 6 + _ = _; omega
/-- An image's box at I, and one at X with one alias more (or the same box). -/
structure EnI (w wr : World) (I b : Nat) (im : Im) (va vl vr vm : Value) : Prop where
  i : wr.heap[I]? = some (.cells #[va, vl, vr, vm, .int .i64 im.th, .int .i64 im.de] 34 (0, 0))
  o : Own4 wr b im va vl vr vm
  bel : Below w.heap.size w wr
  lI : w.heap.size ≤ I
  lb : b ≤ wr.heap.size
theorem EnI.below {w wr w' : World} {I b : Nat} {im : Im} {va vl vr vm : Value} (h : EnI w wr I b im va vl vr vm) (hb : Below wr.heap.size wr w') : EnI w w' I b im va vl vr vm :=
  { h with i := (hb.block _ (lt_of_block h.i)).trans h.i, o := h.o.below hb, bel := h.bel.trans (hb.mono h.bel.size), lb := Nat.le_trans h.lb hb.size }
theorem EnI.more {w wr w8 : World} {I b n : Nat} {im : Im} {va vl vr vm v' : Value} {y : Al} (h : EnI w wr I b im va vl vr vm) (hb : Below wr.heap.size wr w8)
    (hown : w8.ownsRow wr.heap.size 37 6 v' n ((im.als.map alC).flatMap id ++ alC y)) (hn : n = im.als.length + 1) (hy : AlS y) : EnI w (w8.setCell ⟨I, 0, none⟩ v') I b { im with als := im.als ++ [y] } v' vl vr vm := by
  subst hn
  have h8 := h.below hb
  have hz : Own4 w8 b { im with als := im.als ++ [y] } v' vl vr vm := by
    refine { l := h8.o.l, r := h8.o.r, m := h8.o.m, a := own_lowW (B := wr.heap.size) ?_ h.lb, s := { h8.o.s with als := fun x hx => ?_ } }
    · show w8.ownsRow wr.heap.size 37 6 v' (im.als ++ [y]).length (((im.als ++ [y]).map alC).flatMap id)
      rw [List.length_append, List.map_append, List.flatMap_append]
      simpa using hown
    · rcases List.mem_append.1 hx with hx | hx
      · exact h.o.s.als x hx
      · obtain rfl := List.mem_singleton.1 hx
        exact hy
  exact ⟨setY h8.i v', hz.kept (gr_setZ gr_reflZ 0 v') h8.i, h8.bel.setCell (p := ⟨I, 0, none⟩) h.lI v', h.lI, by simp [World.setCell]; exact h8.lb⟩
end Go.Proofs.YtaalecdokidmnaaGreatDoor

/-! OArgs -/
namespace Go.Proofs.YtaalecdokidmnaaGreatDoor
open Go.ChangeShapes Go.WideShapes Go.ChangeAt Go.RowKit

section
variable {H : Type} {enc : TypeId × Value → H} {w : World} {base : Nat} {spare : Nat → Bool} {held : Bool}
set_option maxRecDepth 100000 in
theorem trod_pairO {P : Program} {t e : TypeId} {c : Nat} {fuel : Nat} {l0 l1 : List Value} {x : DataW H × List MemPlace} (ht : P.underlying t = some (.array 2 e)) (hce : P.cellsOf e = c) (h0 : l0.length = c) (h1 : l1.length = c)
    (h : DataW.trod enc P w base spare held fuel t (l0 ++ l1) = some x) : ∃ y0 y1 n, DataW.trod enc P w base spare held n e l0 = some y0 ∧ DataW.trod enc P w base spare held n e l1 = some y1 := by
  cases fuel with
  | zero => simp [DataW.trod] at h
  | succ n =>
    unfold DataW.trod at h
    rw [ht] at h
    have r2 : List.range 2 = [0, 1] := rfl
    have e0 : ((l0 ++ l1).drop (0 * c)).take c = l0 := by rw [Nat.zero_mul, List.drop_zero, List.take_left' h0]
    have e1 : ((l0 ++ l1).drop (1 * c)).take c = l1 := by rw [Nat.one_mul, List.drop_left' h0, List.take_of_length_le (by omega)]
    simp only [r2, hce, List.mapM_cons, List.mapM_nil, e0, e1] at h
    cases hy0 : DataW.trod enc P w base spare held n e l0 with
    | none => simp [hy0] at h
    | some y0 =>
      cases hy1 : DataW.trod enc P w base spare held n e l1 with
      | none => simp [hy0, hy1] at h
      | some y1 => exact ⟨y0, y1, n, hy0, hy1⟩
set_option maxRecDepth 100000 in
theorem okWide_twoO {t e : TypeId} {r : Reach} {b0 : Nat} {v : Value} (ht : Tryz.prog.underlying t = some (.array 2 e)) (hval : Value.okWide Tryz.prog w r b0 t v) : ∃ cs, v = .agg cs ∧ cs.size = Tryz.prog.cellsOf t := by
  unfold Value.okWide at hval
  rw [ht] at hval
  obtain ⟨cs, h1, h2, _⟩ := hval
  exact ⟨cs, h1, h2⟩
set_option maxRecDepth 100000 in
theorem cellsInt2O : Tryz.prog.cellsOf 57 = 2 := by kernel_rfl
set_option maxRecDepth 100000 in
theorem open_seed12O {r : Reach} {b0 : Nat} {v : Value} {d : DataW H} {ps : List MemPlace} (hval : Value.okWide Tryz.prog w r b0 27 v) (h : DataW.Trod enc Tryz.prog w base spare held 27 v d ps) : ∃ S : Sd, v = .agg #[.int .i64 S.kind, .int .i64 S.a, .int .i64 S.b, .int .i64 S.l, .int .i64 S.s, .int .i64 S.r, .int .i64 S.odd] := by
  obtain ⟨cs, rfl, hsz⟩ := okWide_struct Tryz.underlying27 hval
  rw [cellsSeed] at hsz
  obtain ⟨fuel, hf⟩ := h
  obtain ⟨l⟩ := cs
  match l, hsz with
  | [a0, a1, a2, a3, a4, a5, a6], _ =>
    have hf' : DataW.trod enc Tryz.prog w base spare held fuel 27 [a0, a1, a2, a3, a4, a5, a6] = some (d, ps) := hf
    obtain ⟨S, e⟩ := seed12_cells hf'
    exact ⟨S, by rw [e]⟩
set_option maxRecDepth 100000 in
theorem open_ints2O {r : Reach} {b0 : Nat} {v : Value} {d : DataW H} {ps : List MemPlace} (hval : Value.okWide Tryz.prog w r b0 57 v) (h : DataW.Trod enc Tryz.prog w base spare held 57 v d ps) : ∃ p q : Int, v = .agg #[.int .i64 p, .int .i64 q] ∧ (Lit.int .i64 p).wf = true ∧ (Lit.int .i64 q).wf = true := by
  obtain ⟨cs, rfl, hsz⟩ := okWide_twoO Tryz.underlying57 hval
  rw [cellsInt2O] at hsz
  obtain ⟨fuel, hf⟩ := h
  obtain ⟨l⟩ := cs
  match l, hsz with
  | [a0, a1], _ =>
    have hf' : DataW.trod enc Tryz.prog w base spare held fuel 57 ([a0] ++ [a1]) = some (d, ps) := hf
    obtain ⟨y0, y1, n, h0, h1⟩ := trod_pairO Tryz.underlying57 cellsI rfl rfl hf'
    obtain ⟨p, e0, _, w0⟩ := DataW.trod_int Tryz.underlying3 h0
    obtain ⟨q, e1, _, w1⟩ := DataW.trod_int Tryz.underlying3 h1
    simp only [List.cons.injEq, and_true] at e0 e1
    subst e0 e1
    exact ⟨p, q, rfl, w0, w1⟩
end
set_option maxRecDepth 100000 in
theorem cellsA4O : Tryz.prog.cellsOf 46 = 4 := by kernel_rfl
set_option maxRecDepth 100000 in
theorem open_arr4O {H : Type} {enc : TypeId × Value → H} {w : World} {r : Reach} {b0 base : Nat} {sp : Nat → Bool} {held : Bool} {v : Value} {d : DataW H} {ps : List MemPlace}
    (hval : Value.okWide Tryz.prog w r b0 46 v) (hd : DataW.Trod enc Tryz.prog w base sp held 46 v d ps) :
    ∃ a b c e : Int, v = .agg #[.int .i64 a, .int .i64 b, .int .i64 c, .int .i64 e] ∧ d = .agg [.lit (.int .i64 a), .lit (.int .i64 b), .lit (.int .i64 c), .lit (.int .i64 e)] ∧ ps = [] ∧ (Lit.int .i64 a).wf = true ∧ (Lit.int .i64 b).wf = true ∧ (Lit.int .i64 c).wf = true ∧ (Lit.int .i64 e).wf = true := by
  have ht := Tryz.underlying46
  obtain ⟨cs, rfl, hsz⟩ : ∃ cs, v = .agg cs ∧ cs.size = Tryz.prog.cellsOf 46 := by
    unfold Value.okWide at hval
    rw [ht] at hval
    obtain ⟨cs, h1, h2, _⟩ := hval
    exact ⟨cs, h1, h2⟩
  rw [cellsA4O] at hsz
  obtain ⟨c0, c1, c2, c3, rfl⟩ : ∃ c0 c1 c2 c3, cs = #[c0, c1, c2, c3] := by
    obtain ⟨l⟩ := cs
    match l, hsz with
    | [c0, c1, c2, c3], _ => exact ⟨c0, c1, c2, c3, rfl⟩
  obtain ⟨fuel, hf⟩ := hd
  have hf' : DataW.trod enc Tryz.prog w base sp held fuel 46 [c0, c1, c2, c3] = some (d, ps) := hf
  obtain ⟨y0, y1, y2, y3, n, hx, h0, h1, h2, h3⟩ := trod_array4 ht cellsI hf'
  obtain ⟨a, e0, rfl, w0⟩ := DataW.trod_int Tryz.underlying3 h0
  obtain ⟨b, e1, rfl, w1⟩ := DataW.trod_int Tryz.underlying3 h1
  obtain ⟨c, e2, rfl, w2⟩ := DataW.trod_int Tryz.underlying3 h2
  obtain ⟨z, e3, rfl, w3⟩ := DataW.trod_int Tryz.underlying3 h3
  simp only [List.cons.injEq, and_true] at e0 e1 e2 e3
  subst e0 e1 e2 e3
  simp only [Prod.mk.injEq] at hx
  exact ⟨a, b, c, z, rfl, hx.1, hx.2, w0, w1, w2, w3⟩
end Go.Proofs.YtaalecdokidmnaaGreatDoor

/-! OEndsLaw -/
namespace Go.Proofs.YtaalecdokidmnaaGreatDoor
open Go Go.RowKit

set_option maxRecDepth 100000 in
set_option maxHeartbeats 16000000 in
theorem checkEnds_law (S : SeedZ) (va0 vl0 vr0 vm0 : Value) (T : Sd) (w : World) (hS : SdR w va0 vl0 vr0 vm0 S) (hL : TypeLaid w ∧ GL w) :
    Calls Tryz.prog 3 #[.agg #[va0, vl0, vr0, vm0, .int .i64 S.th, .int .i64 S.de, .int .i64 S.odd], .agg #[.int .i64 T.kind, .int .i64 T.a, .int .i64 T.b, .int .i64 T.l, .int .i64 T.s, .int .i64 T.r, .int .i64 T.odd]] w fun e w' => e = .returned (.bool true) ∧ Below w.heap.size w w' := by
  obtain ⟨hT, hg⟩ := hL
  obtain ⟨W0, hW0⟩ : ∃ W0, w.alloc (.cells #[va0, vl0, vr0, vm0, .int .i64 S.th, .int .i64 S.de, .int .i64 S.odd] 25) = W0 := ⟨_, rfl⟩
  obtain ⟨W1, hW1⟩ : ∃ W1, W0.alloc (.cells #[.int .i64 T.kind, .int .i64 T.a, .int .i64 T.b, .int .i64 T.l, .int .i64 T.s, .int .i64 T.r, .int .i64 T.odd] 27) = W1 := ⟨_, rfl⟩
  have hs0 : W0.heap.size = w.heap.size + 1 := by rw [← hW0]; simp
  have hb0 : Below w.heap.size w W0 := by rw [← hW0]; exact (Below.refl _ w).alloc (Nat.le_refl _) _
  have hb1 : Below w.heap.size w W1 := by rw [← hW1]; exact hb0.alloc hb0.size _
  have hA : W1.heap[w.heap.size]? = some (.cells #[va0, vl0, vr0, vm0, .int .i64 S.th, .int .i64 S.de, .int .i64 S.odd] 25 (0, 0)) := by rw [← hW1]; refine (Below.heap_alloc _ _ _ (by omega)).trans ?_; rw [← hW0]; exact World.alloc_heap_new w _
  have hD : W1.heap[w.heap.size + 1]? = some (.cells #[.int .i64 T.kind, .int .i64 T.a, .int .i64 T.b, .int .i64 T.l, .int .i64 T.s, .int .i64 T.r, .int .i64 T.odd] 27 (0, 0)) := by rw [← hW1, ← hs0]; exact World.alloc_heap_new W0 _
  have H7 := Lib.hid (fun w' (h : Below W1.heap.size W1 w') => cells7 ((h.block _ (lt_of_block hA)).trans hA))
  have HSD1 := Lib.hid (fun w' (h : Below W1.heap.size W1 w') => cells7 ((h.block _ (lt_of_block hD)).trans hD))
  have HAW := Lib.hid (awake14_any W1 (hT.below hb1 hT.size) (hg.below hb1 hg.size))
  have HMD := Lib.hid (fun w' (h : Below W1.heap.size W1 w') => made13_any S va0 vl0 vr0 vm0 w' (hS.below (hb1.trans (h.mono hb1.size))))
  have HMK := Lib.hid (fun w' => made_any T w')
  have HGL := Lib.hid (fun w' (h : Below w.heap.size w w') => hg.below h hg.size)
  have HTL := Lib.hid (fun w' (h : Below w.heap.size w w') => hT.below h hT.size)
  have HB1 := Lib.hid hb1
  have HW0 := Lib.hid hW0
  have HW1 := Lib.hid hW1
  have HS0 := Lib.hid hs0
  clear hW0 hW1 hs0 hb0 hA hD hb1 hS hg hT
  go_enter Tryz.func3, Tryz.ntmps3
  go_upto_region 1 with fail
  try rw [HW0.out]
  try rw [HW1.out]
  try rw [HS0.out]
  go_upto_region 2 with (go_at_call 7; (with_reducible refine HAW.out.mono ?_); rintro e w2 ⟨rfl, hb2⟩)
  obtain ⟨d0, d1, d2, d3, d4, d5, d6⟩ := H7.out _ hb2
  have HM2 := Lib.hid (HMD.out _ hb2)
  have HB2 := Lib.hid hb2
  clear hb2
  go_upto_region 3 with (go_at_call 8; (with_reducible refine HM2.out.mono ?_); intro e w5 hE; unfold MdE ImO at hE; obtain ⟨im0, hBI, va, vl, vr, vm, rfl, hO5, hb5⟩ := hE; obtain ⟨a1, c1, a2, c2, a3, c3, a4, c4, h1, h2, h3, h4⟩ := hO5.rows.slices; subst h1 h2 h3 h4)
  have hFW := hBI.few (restV S.odd 12)
  generalize spI im0 (restV S.odd 12) = im at *
  obtain ⟨wr, hW6⟩ : ∃ W6, w5.alloc (.cells #[.slice a1 (cntN im 0) c1, .slice a2 (cntN im 1) c2, .slice a3 (cntN im 2) c3, .slice a4 (cntN im 3) c4, .int .i64 im.th, .int .i64 im.de] 34) = W6 := ⟨_, rfl⟩
  have hI6 : wr.heap[w5.heap.size]? = some (.cells #[.slice a1 (cntN im 0) c1, .slice a2 (cntN im 1) c2, .slice a3 (cntN im 2) c3, .slice a4 (cntN im 3) c4, .int .i64 im.th, .int .i64 im.de] 34 (0, 0)) := by rw [← hW6]; exact World.alloc_heap_new _ _
  have hb6 : Below w5.heap.size w5 wr := by rw [← hW6]; exact (Below.refl _ _).alloc (Nat.le_refl _) _
  have hB56 : Below W1.heap.size W1 wr := (HB2.out.trans (hb5.mono HB2.out.size)).trans (hb6.mono (Nat.le_trans HB2.out.size hb5.size))
  have hz : w2.heap.size ≤ wr.heap.size := Nat.le_trans hb5.size hb6.size
  have hEN : EnI w wr w5.heap.size w2.heap.size im (.slice a1 (cntN im 0) c1) (.slice a2 (cntN im 1) c2) (.slice a3 (cntN im 2) c3) (.slice a4 (cntN im 3) c4) := ⟨hI6, hO5.below hb6, HB1.out.trans (hB56.mono HB1.out.size), Nat.le_trans HB1.out.size (Nat.le_trans HB2.out.size hb5.size), hz⟩
  have HSD := Lib.hid (fun w' (h : Below wr.heap.size wr w') => HSD1.out w' (hB56.trans (h.mono hB56.size)))
  rw [hW6]
  clear hW6 hb6 hO5 hBI d0 d1 d2 d3 d4 d5 d6 HM2 HMD HAW hb5 HB2 hI6 hB56 hz HSD1 H7 HB1
  generalize w5.heap.size = nI at *
  generalize w2.heap.size = b at *
  have HEN := Lib.hid hEN
  have hle := hFW.a
  have HFW := Lib.hid hFW
  have hcnt : cntN im 0 = im.als.length := rfl
  have HCN := Lib.hid hcnt
  have HN1 := Lib.hid (own_belowW (own_emptyO wr 37 6) (Below.drew (Below.refl _ _)))
  have HLS := Lib.hid (show (wr.alloc (.cells #[] 37)).drew.heap.size = wr.heap.size + 1 by simp)
  have HBN := Lib.hid (show Below wr.heap.size wr (wr.alloc (.cells #[] 37)).drew from Below.drew ((Below.refl wr.heap.size wr).alloc (Nat.le_refl _) _))
  have HNO := Lib.hid (fun (h : a1 = none) => show cntN im 0 = 0 by subst h; exact own_noneO hEN.o.a)
  have HNW := Lib.hid (own_newsO (own_belowW hEN.o.a HBN.out))
  have hl60 : cntN im 0 ≤ 60 := hle
  obtain ⟨i0, hi, hz0, hz1, hz2⟩ := info_parts alInfo
  obtain ⟨x0, x1, x2, x3, x4, x5⟩ := cells6 (hEN.below (Below.drew (Below.refl _ _))).i
  obtain ⟨y0, y1, y2, y3, y4, y5⟩ := cells6 (hEN.below HBN.out).i
  obtain ⟨s0, s1, s2, s3, s4, s5, s6⟩ := HSD.out _ (Below.drew (Below.refl _ _))
  obtain ⟨t0, t1, t2, t3, t4, t5, t6⟩ := HSD.out _ HBN.out
  have hlt := lt_of_block hEN.i
  have hlw := hEN.bel.size
  clear hEN hFW hcnt
  go_cut [22] from 14 to 22 (fun u wx => u = .pointer (some ⟨nI, 0, none⟩) ∧ ∃ a9 n9 c9, EnI w wx nI b { im with als := im.als ++ [madeA T] } (.slice a9 n9 c9) (.slice a2 (cntN im 1) c2) (.slice a3 (cntN im 2) c3) (.slice a4 (cntN im 3) c4))
  case first =>
    go_region_law (first
    | (refine step_append_anyW _ rfl _ _ 29 rfl wr.heap.size 37 i0 (.agg #[.int .i64 0, .string ByteArray.empty, .string ByteArray.empty, .string ByteArray.empty, .string ByteArray.empty, .string ByteArray.empty]) 6 88 Tryz.underlying29 hi hz0 hz1 hz2 rfl (by decide) _ 0 [] rfl HN1.out _ _ _ ((im.als.map alC).flatMap id) rfl (flat_lenO _) HNO.out HNW.out (alC_oneZ _) (by unfold maxLen; omega) (by omega) (by rw [HLS.out]; omega) ?_; intro v6 w6 hown6 hgrow6; have hb6 := Lib.hid (HBN.out.grown hgrow6 (by rw [HLS.out]; omega) (fun r e => by cases e; exact Nat.le_refl _)); have HO6 := Lib.hid hown6; clear hown6 hgrow6; obtain ⟨b0, b1, b2, b3, b4, b5, b6⟩ := HSD.out _ hb6.out)
    | (go_simp; go_at_call 9; (with_reducible refine (HMK.out w6).mono ?_); rintro e w7 ⟨rfl, hb7⟩; have HB7 := Lib.hid (hb6.out.trans (hb7.mono hb6.out.size)); have HO7 := Lib.hid (own_belowW HO6.out hb7); have HNA := Lib.hid (World.alloc_heap_new w7 (.cells #[.int .i64 (madeA T).k, .string (madeA T).a, .string (madeA T).b, .string (madeA T).l, .string (madeA T).s, .string (madeA T).r] 37)); clear hb7)
    | (refine step_append_anyW _ rfl _ _ 29 rfl wr.heap.size 37 i0 (.agg #[.int .i64 0, .string ByteArray.empty, .string ByteArray.empty, .string ByteArray.empty, .string ByteArray.empty, .string ByteArray.empty]) 6 88 Tryz.underlying29 hi hz0 hz1 hz2 rfl (by decide) _ _ _ rfl (HO7.out.alloc _) _ 1 1 [.int .i64 (madeA T).k, .string (madeA T).a, .string (madeA T).b, .string (madeA T).l, .string (madeA T).s, .string (madeA T).r] rfl rfl (fun h => by cases h) (fun ad ha => by cases ha; exact World.news_of_block HNA.out) (fun u hu => List.all_eq_true.1 (show ([.int .i64 (madeA T).k, .string (madeA T).a, .string (madeA T).b, .string (madeA T).l, .string (madeA T).s, .string (madeA T).r] : List Value).all (·.oneCell') = true from rfl) u hu) (by unfold maxLen; omega) (by omega) (by have := HB7.out.size; simp; omega) ?_; intro v8 w8 hown8 hgrow8; have hb8 := (HB7.out.alloc HB7.out.size (.cells #[.int .i64 (madeA T).k, .string (madeA T).a, .string (madeA T).b, .string (madeA T).l, .string (madeA T).s, .string (madeA T).r] 37)).grown hgrow8 (by have := HB7.out.size; simp; omega) (fun r e => (HO7.out.lt r e).1); have hE8 := HEN.out.more hb8 (y := madeA T) hown8 (by have := HCN.out; omega) (made_small T); have hx8 := (HEN.out.below hb8).i; obtain ⟨q0, q1, q2, q3, q4, q5⟩ := cells6 hx8; have f7 := frozenY hx8 0; have HE8 := Lib.hid hE8; obtain ⟨va8, vn8, vc8, rfl⟩ := own_sliceZ hown8; clear hown8 hgrow8 hb8 hE8 hx8))
    all_goals (try go_wp2_with fail)
    all_goals go_meet
    all_goals exact ⟨rfl, va8, vn8, vc8, HE8.out⟩
  case rest =>
    obtain ⟨rfl, a9, n9, c9, hE9⟩ := hcut
    obtain ⟨wo, rfl⟩ : ∃ x, x = wc := ⟨_, rfl⟩
    clear x0 x1 x2 x3 x4 x5 y0 y1 y2 y3 y4 y5 s0 s1 s2 s3 s4 s5 s6 t0 t1 t2 t3 t4 t5 t6 hlt hlw HNW HNO HBN HLS HN1 HEN HSD HMK hi hz0 hz1 hz2
    obtain ⟨L, hL⟩ : ∃ L, im.als ++ [madeA T] = L := ⟨_, rfl⟩
    have hLl : L.length ≤ 61 := by rw [← hL, List.length_append]; show im.als.length + 1 ≤ 61; omega
    rw [hL] at hE9
    have hn9 : n9 = L.length := (own_lenZ hE9.o.a).1
    subst hn9
    have HE := Lib.hid hE9
    have hR := hE9.o.rows
    have hs := hE9.o.s
    have HC0 := Lib.hid (chkO_any a9 a2 a3 a4 c9 c2 c3 c4 { im with als := L } wo hR hs (HGL.out _ hE9.bel))
    have HC := Lib.hid (show Calls Tryz.prog 10 #[.agg #[.slice a9 L.length c9, .slice a2 (cntN im 1) c2, .slice a3 (cntN im 2) c3, .slice a4 (cntN im 3) c4, .int .i64 im.th, .int .i64 im.de]] wo (fun e w' => ∃ v, e = .returned v ∧ EncZ w' v (chkE { im with als := L }) ∧ Below wo.heap.size wo w') from HC0.out)
    have HX := Lib.hid (fun w' (hb : Below wo.heap.size wo w') => show w'.cell? ⟨nI, 0, none⟩ = some (.slice a9 L.length c9) ∧ w'.cell? ⟨nI, 1, none⟩ = some (.slice a2 (cntN im 1) c2) ∧ w'.cell? ⟨nI, 2, none⟩ = some (.slice a3 (cntN im 2) c3) ∧ w'.cell? ⟨nI, 3, none⟩ = some (.slice a4 (cntN im 3) c4) ∧ w'.cell? ⟨nI, 4, none⟩ = some (.int .i64 im.th) ∧ w'.cell? ⟨nI, 5, none⟩ = some (.int .i64 im.de) from cells6 ((hb.block _ (lt_of_block hE9.i)).trans hE9.i))
    have HRC := Lib.hid (show RowC wo (.slice a9 L.length c9) 6 (L.map alC) from hR.a)
    have HSL := Lib.hid (show ∀ x ∈ L, AlS x from hs.als)
    obtain ⟨x0, x1, x2, x3, x4, x5⟩ := HX.out _ (Below.refl _ _)
    have HBL := Lib.hid (fun w' (hb : Below wo.heap.size wo w') => hE9.bel.trans (hb.mono hE9.bel.size))
    clear hE9 hR hs HC0 hL hle hl60 HCN HGL HTL
    cases hc : chkE { im with als := L } with
    | some z =>
      obtain ⟨zk, zp, zs⟩ := z
      rw [hc] at HC
      clear hc
      go_wp2_with (go_at_call 10; (with_reducible refine HC.out.mono ?_); rintro e w6 ⟨v5, rfl, hz5, hb5⟩; obtain ⟨q5, rfl, hq5⟩ : FaultZ w6 v5 zk zp zs := hz5)
      go_ret
      exact ⟨rfl, HBL.out _ hb5⟩
    | none =>
      have HLD := Lib.hid (fun x (hx : x ∈ L) => leads_of hc hx)
      rw [hc] at HC
      clear hc
      go_upto_region 6 with (go_at_call 10; (with_reducible refine HC.out.mono ?_); rintro e w6 ⟨v5, rfl, hz5, hb5⟩; obtain rfl : v5 = .nilIface := hz5)
      have HB5 := Lib.hid hb5
      clear x0 x1 x2 x3 x4 x5 hb5
      go_wp2_with fail
      go_loopw [7] (fun i wx => ∃ n : Nat, n ≤ L.length ∧ i = .int .i64 (n : Int) ∧ Below wo.heap.size wo wx) (fun i _ => L.length - (intOf i).toNat)
      case atStart => exact ⟨0, Nat.zero_le _, rfl, HB5.out⟩
      case round =>
        obtain ⟨n, hn, rfl, hB⟩ := hrel
        obtain ⟨x0, x1, x2, x3, x4, x5⟩ := HX.out _ hB
        by_cases hlt : n < L.length
        · have hlt' : (n : Int) < (L.length : Int) := by omega
          have hn0 : (0 : Int) ≤ (n : Int) := by omega
          obtain ⟨x, hx⟩ : ∃ x, L[n]? = some x := ⟨_, List.getElem?_eq_getElem hlt⟩
          obtain ⟨g, o, hgo, hcc⟩ := HRC.out.openM n x hx
          cases hgo
          have hmem := List.mem_of_getElem? hx
          have hxs := HSL.out x hmem
          have hld := HLD.out x hmem
          have e0 := show World.cell? _ ⟨g, o + n * 6, none⟩ = some (.int .i64 x.k) from hcc _ hB 0 _ rfl
          have e1 := show World.cell? _ ⟨g, o + n * 6 + 1, none⟩ = some (.string x.a) from hcc _ hB 1 _ rfl
          have e2 := show World.cell? _ ⟨g, o + n * 6 + 2, none⟩ = some (.string x.b) from hcc _ hB 2 _ rfl
          have e3 := show World.cell? _ ⟨g, o + n * 6 + 3, none⟩ = some (.string x.l) from hcc _ hB 3 _ rfl
          have e4 := show World.cell? _ ⟨g, o + n * 6 + 4, none⟩ = some (.string x.s) from hcc _ hB 4 _ rfl
          have e5 := show World.cell? _ ⟨g, o + n * 6 + 5, none⟩ = some (.string x.r) from hcc _ hB 5 _ rfl
          obtain ⟨W8, hW8⟩ : ∃ W, wr.alloc (.cells #[.int .i64 x.k, .string x.a, .string x.b, .string x.l, .string x.s, .string x.r] 37) = W := ⟨_, rfl⟩
          have hb8 : Below wo.heap.size wo W8 := by rw [← hW8]; exact hB.alloc hB.size _
          have hX8 : W8.heap[wr.heap.size]? = some (.cells #[.int .i64 x.k, .string x.a, .string x.b, .string x.l, .string x.s, .string x.r] 37 (0, 0)) := by rw [← hW8]; exact World.alloc_heap_new wr _
          obtain ⟨B8, hN8⟩ : ∃ B, wr.heap.size = B := ⟨_, rfl⟩
          rw [hN8] at hX8
          have HN8 := Lib.hid hN8
          have HW8 := Lib.hid hW8
          have HC8 := Lib.hid (fun w' (h : Below W8.heap.size W8 w') => And.intro (hb8.trans (h.mono hb8.size)) (And.intro (cells6 ((h.block _ (lt_of_block hX8)).trans hX8)) (HX.out _ (hb8.trans (h.mono hb8.size)))))
          have la : x.a.size ≤ maxLen := by have := hxs.a; unfold maxLen; omega
          have lb : x.b.size ≤ maxLen := by have := hxs.b; unfold maxLen; omega
          have ll : x.l.size ≤ maxLen := by have := hxs.l; unfold maxLen; omega
          have ls : x.s.size ≤ maxLen := by have := hxs.s; unfold maxLen; omega
          have lr : x.r.size ≤ maxLen := by have := hxs.r; unfold maxLen; omega
          have l0 : (⟨#[]⟩ : ByteArray).size ≤ maxLen := Nat.zero_le _
          have hwf := hxs.k
          have HF := Lib.hid (fun (k : Int) (a b : ByteArray) (w' : World) (hb : Below W8.heap.size W8 w') (hk : (Lit.int .i64 k).wf = true) (ha : a.size ≤ maxLen) (hbb : b.size ≤ maxLen) (z : Bool) (hz : finalN (kns L) k a b = z) => (finO_any (some ⟨g, o, none⟩) c9 (.slice a2 (cntN im 1) c2) (.slice a3 (cntN im 2) c3) (.slice a4 (cntN im 3) c4) (.int .i64 im.th) (.int .i64 im.de) L k a b w' (HRC.out.below (hb8.trans (hb.mono hb8.size))) (by omega) HSL.out hk ha hbb).mono (R' := fun e w'' => e = .returned (.bool z) ∧ Below wo.heap.size wo w'' ∧ Below W8.heap.size W8 w'') fun e w'' ⟨p, q⟩ => ⟨by rw [p, hz], (hb8.trans (hb.mono hb8.size)).trans (q.mono (Nat.le_trans hb8.size hb.size)), hb.trans (q.mono hb.size)⟩)
          obtain ⟨-, ⟨d0, d1, d2, d3, d4, d5⟩, f0, f1, f2, f3, f4, f5⟩ := HC8.out _ (Below.refl _ _)
          have hr8 : Below W8.heap.size W8 W8 := Below.refl _ _
          have HX8 := Lib.hid hX8
          have HB8 := Lib.hid hb8
          clear hx hcc hmem hxs hB hW8 hN8 hb8 hX8
          go_upto_region 10 with fail
          try rw [HW8.out]
          try rw [HN8.out]
          clear x0 x1 x2 x3 x4 x5 e0 e1 e2 e3 e4 e5
          rcases (show x.k = 2 ∨ x.k = 3 ∨ x.k = 4 ∨ x.k = 5 ∨ x.k = 6 ∨ x.k = 7 ∨ ¬ (2 ≤ x.k ∧ x.k ≤ 7) by omega) with hk | hk | hk | hk | hk | hk | hk
          · have hF := hld.f2 (.inl hk)
            have K1 := Lib.hid (HF.out 3 x.a ⟨#[]⟩ W8 hr8 (by decide) la l0 false hF.1)
            have K2 := Lib.hid (fun w' hb => HF.out 3 x.l ⟨#[]⟩ w' hb (by decide) ll l0 true hF.2)
            have q2 : (x.k == 2) = true := by rw [beq_iff_eq]; omega
            clear hF hld la lb ll ls lr l0 HF hwf
            have HKK := Lib.hid hk
            clear hk
            go_wp2_with (first
              | (go_at_call 11; (with_reducible refine K1.out.mono ?_); rintro e w9 ⟨rfl, hb9, hb89⟩; obtain ⟨-, ⟨d0, d1, d2, d3, d4, d5⟩, f0, f1, f2, f3, f4, f5⟩ := HC8.out _ hb89)
              | (go_at_call 11; (with_reducible refine (K2.out _ hb89).mono ?_); rintro e w10 ⟨rfl, hb10, -⟩))
            go_roundw
            case rel => exact ⟨n + 1, by omega, by go_num, hb10⟩
            case measure => simp [intOf]; omega
          · have hF := hld.f2 (.inr hk)
            have K1 := Lib.hid (HF.out 3 x.a ⟨#[]⟩ W8 hr8 (by decide) la l0 false hF.1)
            have K2 := Lib.hid (fun w' hb => HF.out 3 x.l ⟨#[]⟩ w' hb (by decide) ll l0 true hF.2)
            have q2 : (x.k == 2) = false := by rw [beq_eq_false_iff_ne]; omega
            have q3 : (x.k == 3) = true := by rw [beq_iff_eq]; omega
            clear hF hld la lb ll ls lr l0 HF hwf
            have HKK := Lib.hid hk
            clear hk
            go_wp2_with (first
              | (go_at_call 11; (with_reducible refine K1.out.mono ?_); rintro e w9 ⟨rfl, hb9, hb89⟩; obtain ⟨-, ⟨d0, d1, d2, d3, d4, d5⟩, f0, f1, f2, f3, f4, f5⟩ := HC8.out _ hb89)
              | (go_at_call 11; (with_reducible refine (K2.out _ hb89).mono ?_); rintro e w10 ⟨rfl, hb10, -⟩))
            go_roundw
            case rel => exact ⟨n + 1, by omega, by go_num, hb10⟩
            case measure => simp [intOf]; omega
          · have hF := hld.f4 hk
            have K1 := Lib.hid (HF.out x.k x.a ⟨#[]⟩ W8 hr8 hwf la l0 false hF.1)
            have K2 := Lib.hid (fun w' hb => HF.out x.k x.s ⟨#[]⟩ w' hb hwf ls l0 true hF.2)
            have q2 : (x.k == 2) = false := by rw [beq_eq_false_iff_ne]; omega
            have q3 : (x.k == 3) = false := by rw [beq_eq_false_iff_ne]; omega
            have q4 : (x.k == 4) = true := by rw [beq_iff_eq]; omega
            clear hF hld la lb ll ls lr l0 HF hwf
            have HKK := Lib.hid hk
            clear hk
            go_wp2_with (first
              | (go_at_call 11; (with_reducible refine K1.out.mono ?_); rintro e w9 ⟨rfl, hb9, hb89⟩; obtain ⟨-, ⟨d0, d1, d2, d3, d4, d5⟩, f0, f1, f2, f3, f4, f5⟩ := HC8.out _ hb89)
              | (go_at_call 11; (with_reducible refine (K2.out _ hb89).mono ?_); rintro e w10 ⟨rfl, hb10, -⟩))
            go_roundw
            case rel => exact ⟨n + 1, by omega, by go_num, hb10⟩
            case measure => simp [intOf]; omega
          · have hF := hld.f5 hk
            have K1 := Lib.hid (HF.out x.k x.a ⟨#[]⟩ W8 hr8 hwf la l0 false hF.1)
            have K2 := Lib.hid (fun w' hb => HF.out x.k x.r ⟨#[]⟩ w' hb hwf lr l0 true hF.2)
            have q2 : (x.k == 2) = false := by rw [beq_eq_false_iff_ne]; omega
            have q3 : (x.k == 3) = false := by rw [beq_eq_false_iff_ne]; omega
            have q4 : (x.k == 4) = false := by rw [beq_eq_false_iff_ne]; omega
            have q5 : (x.k == 5) = true := by rw [beq_iff_eq]; omega
            clear hF hld la lb ll ls lr l0 HF hwf
            have HKK := Lib.hid hk
            clear hk
            go_wp2_with (first
              | (go_at_call 11; (with_reducible refine K1.out.mono ?_); rintro e w9 ⟨rfl, hb9, hb89⟩; obtain ⟨-, ⟨d0, d1, d2, d3, d4, d5⟩, f0, f1, f2, f3, f4, f5⟩ := HC8.out _ hb89)
              | (go_at_call 11; (with_reducible refine (K2.out _ hb89).mono ?_); rintro e w10 ⟨rfl, hb10, -⟩))
            go_roundw
            case rel => exact ⟨n + 1, by omega, by go_num, hb10⟩
            case measure => simp [intOf]; omega
          · have hF := hld.f6 hk
            have K1 := Lib.hid (HF.out x.k x.a ⟨#[]⟩ W8 hr8 hwf la l0 false hF.1)
            have q2 : (x.k == 2) = false := by rw [beq_eq_false_iff_ne]; omega
            have q3 : (x.k == 3) = false := by rw [beq_eq_false_iff_ne]; omega
            have q4 : (x.k == 4) = false := by rw [beq_eq_false_iff_ne]; omega
            have q5 : (x.k == 5) = false := by rw [beq_eq_false_iff_ne]; omega
            have q6 : (x.k == 6) = true := by rw [beq_iff_eq]; omega
            by_cases h0 : x.l.size = 0
            · have he := empty_true h0
              clear hF hld la lb ll ls lr l0 HF hwf h0
              have HKK := Lib.hid hk
              clear hk
              go_wp2_with (go_at_call 11; (with_reducible refine K1.out.mono ?_); rintro e w9 ⟨rfl, hb9, hb89⟩; obtain ⟨-, ⟨d0, d1, d2, d3, d4, d5⟩, f0, f1, f2, f3, f4, f5⟩ := HC8.out _ hb89)
              go_roundw
              case rel => exact ⟨n + 1, by omega, by go_num, hb9⟩
              case measure => simp [intOf]; omega
            · have he := empty_false (show 0 < x.l.size by omega)
              have K2 := Lib.hid (fun w' hb => HF.out x.k x.l ⟨#[]⟩ w' hb hwf ll l0 true (hF.2 (by omega)))
              clear hF hld la lb ll ls lr l0 HF hwf h0
              have HKK := Lib.hid hk
              clear hk
              go_wp2_with (first
                | (go_at_call 11; (with_reducible refine K1.out.mono ?_); rintro e w9 ⟨rfl, hb9, hb89⟩; obtain ⟨-, ⟨d0, d1, d2, d3, d4, d5⟩, f0, f1, f2, f3, f4, f5⟩ := HC8.out _ hb89)
                | (go_at_call 11; (with_reducible refine (K2.out _ hb89).mono ?_); rintro e w10 ⟨rfl, hb10, -⟩))
              go_roundw
              case rel => exact ⟨n + 1, by omega, by go_num, hb10⟩
              case measure => simp [intOf]; omega
          · have hF := hld.f7 hk
            have K1 := Lib.hid (HF.out x.k x.a x.b W8 hr8 hwf la lb false hF.1)
            have K2 := Lib.hid (fun w' hb => HF.out x.k x.a x.l w' hb hwf la ll true hF.2)
            have q2 : (x.k == 2) = false := by rw [beq_eq_false_iff_ne]; omega
            have q3 : (x.k == 3) = false := by rw [beq_eq_false_iff_ne]; omega
            have q4 : (x.k == 4) = false := by rw [beq_eq_false_iff_ne]; omega
            have q5 : (x.k == 5) = false := by rw [beq_eq_false_iff_ne]; omega
            have q6 : (x.k == 6) = false := by rw [beq_eq_false_iff_ne]; omega
            have q7 : (x.k == 7) = true := by rw [beq_iff_eq]; omega
            clear hF hld la lb ll ls lr l0 HF hwf
            have HKK := Lib.hid hk
            clear hk
            go_wp2_with (first
              | (go_at_call 11; (with_reducible refine K1.out.mono ?_); rintro e w9 ⟨rfl, hb9, hb89⟩; obtain ⟨-, ⟨d0, d1, d2, d3, d4, d5⟩, f0, f1, f2, f3, f4, f5⟩ := HC8.out _ hb89)
              | (go_at_call 11; (with_reducible refine (K2.out _ hb89).mono ?_); rintro e w10 ⟨rfl, hb10, -⟩))
            go_roundw
            case rel => exact ⟨n + 1, by omega, by go_num, hb10⟩
            case measure => simp [intOf]; omega
          · have q2 : (x.k == 2) = false := by rw [beq_eq_false_iff_ne]; omega
            have q3 : (x.k == 3) = false := by rw [beq_eq_false_iff_ne]; omega
            have q4 : (x.k == 4) = false := by rw [beq_eq_false_iff_ne]; omega
            have q5 : (x.k == 5) = false := by rw [beq_eq_false_iff_ne]; omega
            have q6 : (x.k == 6) = false := by rw [beq_eq_false_iff_ne]; omega
            have q7 : (x.k == 7) = false := by rw [beq_eq_false_iff_ne]; omega
            clear hld la lb ll ls lr l0 HF hwf hk
            go_wp2_with fail
            go_roundw
            case rel => exact ⟨n + 1, by omega, by go_num, HB8.out⟩
            case measure => simp [intOf]; omega
        · obtain rfl : n = L.length := by omega
          have hki : ¬ (L.length : Int) < (L.length : Int) := by omega
          go_wp2_with fail
          go_ret
          exact ⟨rfl, HBL.out _ hB⟩
end Go.Proofs.YtaalecdokidmnaaGreatDoor
