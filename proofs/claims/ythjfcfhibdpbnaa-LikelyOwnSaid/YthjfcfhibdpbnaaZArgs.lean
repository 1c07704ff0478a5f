/-
  An image's seed as an argument, opened. (Printed by wip/gen_zargs.py.)
-/
import Derived.Test.YthjfcfhibdpbnaaZMadeM
import Derived.Test.YthjfcfhibdpbnaaYArgs
import Derived.Deep.Slices
import Derived.ChangeArms
import Derived.Laws.IdiomArrays
import Derived.Deep.Fields
import Derived.ChangeSame
import Derived.Carry
namespace Go.Proofs.Ythjfcfhibdpbnaa
open Go.ChangeShapes Go.WideShapes Go.ChangeAt Go.ChangeMaps Go.RowKit Go.Deep
section
variable {H : Type} {enc : TypeId × Value → H} {w : World} {base : Nat} {spare : Nat → Bool} {held : Bool}
set_option maxRecDepth 100000 in
/-- A row that came in, of whatever elements. -/
theorem open_rowZ {α : Type} {t e : TypeId} {n : Nat} (Q : List Value → α → Prop) (ht : Try.prog.underlying t = some (.slice e)) (hn : Try.prog.cellsOf e = n) (hn0 : 0 < n)
    (hQ : ∀ (fuel : Nat) (cs : List Value) (x : DataW H × List MemPlace), cs.length = n → DataW.trod enc Try.prog w base spare held fuel e cs = some x → ∃ a, Q cs a) {fuel : Nat} {cs : List Value} {x : DataW H × List MemPlace} (h : DataW.trod enc Try.prog w base spare held fuel t cs = some x) :
    ∃ (ao : Option Addr) (cap : Nat) (l : List α), cs = [.slice ao l.length cap] ∧ l.length ≤ maxLen ∧ ∀ i a, l[i]? = some a → ∃ b o ys, ao = some ⟨b, o, none⟩ ∧ (∀ j v, ys[j]? = some v → w.cell? ⟨b, o + (i * n + j), none⟩ = some v) ∧ Q ys a := by
  rcases open_slice ht h with ⟨rfl, _⟩ | ⟨a, len, cap, m, fl, D, Pl, rfl, _, hl, hm, hmm, _, hi⟩
  · exact ⟨none, 0, [], rfl, by simp, fun i a h => by simp at h⟩
  · have hml : len ≤ m := by rw [hmm]; split <;> omega
    have hit : ∀ i, i < len → ∃ (y : α) (ys : List Value), ys.length = n ∧ (∀ j, j < n → w.cell? ((a.add (i * n)).add j) = ys[j]?) ∧ Q ys y := by
      intro i hil
      obtain ⟨cs', hc, htr⟩ := hi i (by omega)
      rw [hn] at hc
      obtain ⟨_, hcl, hat⟩ := World.cells?_some hc
      obtain ⟨y, hy⟩ := hQ _ _ _ hcl htr
      exact ⟨y, cs', hcl, hat, hy⟩
    obtain ⟨l, hll, hlg⟩ : ∃ l : List α, l.length = len ∧ ∀ i y, l[i]? = some y → ∃ ys : List Value, ys.length = n ∧ (∀ j, j < n → w.cell? ((a.add (i * n)).add j) = ys[j]?) ∧ Q ys y := by
      refine ⟨(List.range len).pmap (fun i hi => Classical.choose (hit i hi)) (fun i hi => List.mem_range.1 hi), by simp, fun i y hy => ?_⟩
      have hlt : i < len := by have := (List.getElem?_eq_some_iff.1 hy).1; simpa using this
      rw [List.getElem?_pmap] at hy
      simp [hlt] at hy
      subst hy
      exact Classical.choose_spec (hit i hlt)
    refine ⟨some a, cap, l, by rw [hll], by omega, fun i y hy => ?_⟩
    obtain ⟨ys, hys, hc, hq⟩ := hlg i y hy
    obtain ⟨b, o, spot⟩ := a
    obtain ⟨y0, hy0⟩ : ∃ y0, l[0]? = some y0 := ⟨_, List.getElem?_eq_getElem (by have := (List.getElem?_eq_some_iff.1 hy).1; omega)⟩
    obtain ⟨ys0, hys0, hc0, _⟩ := hlg 0 y0 hy0
    have h0 := hc0 0 hn0
    rw [List.getElem?_eq_getElem (by omega)] at h0
    have hs : spot = none := by simpa [Addr.add] using World.cell?_spot h0
    subst hs
    refine ⟨b, o, ys, rfl, fun j v hv => ?_, hq⟩
    have hj : j < n := by have := (List.getElem?_eq_some_iff.1 hv).1; omega
    have := hc j hj
    rw [add_plain, add_plain, hv] at this
    rw [show o + (i * n + j) = o + i * n + j by omega]
    exact this
set_option maxRecDepth 100000 in
theorem open_ints13 {fuel : Nat} {cs : List Value} {x : DataW H × List MemPlace} (h : DataW.trod enc Try.prog w base spare held fuel 23 cs = some x) : ∃ (v : Value) (l : List Int), cs = [v] ∧ RowC w v 1 (l.map inC) := by
  obtain ⟨ao, cap, l, rfl, hl, hi⟩ := open_rowZ (fun cs (s : Int) => cs = inC s) Try.underlying23 (show Try.prog.cellsOf 3 = 1 by kernel_rfl) (by decide) (fun fuel cs x _ h => by
    obtain ⟨s, h1, _, h2⟩ := DataW.trod_int Try.underlying3 h
    exact ⟨s, h1⟩) h
  refine ⟨_, l, rfl, ao, cap, by rw [List.length_map], fun i c hc => ?_⟩
  rw [List.getElem?_map] at hc
  obtain ⟨n, hn, rfl⟩ := Option.map_eq_some_iff.1 hc
  obtain ⟨b, o, ys, h1, h2, rfl⟩ := hi i n hn
  exact ⟨b, o, h1, fun k x hk => by have := h2 k x hk; rwa [← Nat.add_assoc] at this⟩
set_option maxRecDepth 100000 in
theorem open_sds13 {fuel : Nat} {cs : List Value} {x : DataW H × List MemPlace} (h : DataW.trod enc Try.prog w base spare held fuel 22 cs = some x) : ∃ (v : Value) (l : List Sd), cs = [v] ∧ RowC w v 7 (l.map sdC) := by
  obtain ⟨ao, cap, l, rfl, hl, hi⟩ := open_rowZ (fun cs (s : Sd) => cs = sdC s) Try.underlying22 cellsSeed (by decide) (fun fuel cs x hcl h => by
    match cs, hcl, h with
    | [a0, a1, a2, a3, a4, a5, a6], _, h => exact seed12_cells h) h
  refine ⟨_, l, rfl, ao, cap, by rw [List.length_map], fun i c hc => ?_⟩
  rw [List.getElem?_map] at hc
  obtain ⟨n, hn, rfl⟩ := Option.map_eq_some_iff.1 hc
  obtain ⟨b, o, ys, h1, h2, rfl⟩ := hi i n hn
  exact ⟨b, o, h1, fun k x hk => by have := h2 k x hk; rwa [← Nat.add_assoc] at this⟩
set_option maxRecDepth 100000 in
theorem open_seed13 {r : Reach} {b0 : Nat} {v : Value} {d : DataW H} {ps : List MemPlace} (hval : Value.okWide Try.prog w r b0 25 v) (h : DataW.Trod enc Try.prog w base spare held 25 v d ps) : ∃ (S : SeedZ) (va vl vr vm : Value), v = .agg #[va, vl, vr, vm, .int .i64 S.th, .int .i64 S.de, .int .i64 S.odd] ∧ SdR w va vl vr vm S := by
  obtain ⟨cs, rfl, hsz⟩ := okWide_struct Try.underlying25 hval
  rw [show Try.prog.cellsOf 25 = 7 by kernel_rfl] at hsz
  obtain ⟨fuel, hf0⟩ := h
  obtain ⟨xs, n, _, _, _, hxl, hf⟩ := DataW.trod_struct Try.underlying25 hf0
  have hx : xs.length = 7 := hxl
  obtain ⟨l⟩ := cs
  match l, hsz with
  | [a0, a1, a2, a3, a4, a5, a6], _ =>
    have f0 := hf 0 _ rfl
    have f1 := hf 1 _ rfl
    have f2 := hf 2 _ rfl
    have f3 := hf 3 _ rfl
    have f4 := hf 4 _ rfl
    have f5 := hf 5 _ rfl
    have f6 := hf 6 _ rfl
    rw [List.getElem?_eq_getElem (by omega)] at f0 f1 f2 f3 f4 f5 f6
    obtain ⟨v0, r0, g0, z0⟩ := open_sds13 f0
    have e0 : a0 = v0 := by
      have q : List.take (Try.prog.cellsOf 22) (List.drop 0 [a0, a1, a2, a3, a4, a5, a6]) = [a0] := by rw [show Try.prog.cellsOf 22 = 1 by kernel_rfl]; rfl
      exact (List.cons.inj (q.symm.trans g0)).1
    obtain ⟨v1, r1, g1, z1⟩ := open_ints13 f1
    have e1 : a1 = v1 := by
      have q : List.take (Try.prog.cellsOf 23) (List.drop 1 [a0, a1, a2, a3, a4, a5, a6]) = [a1] := by rw [show Try.prog.cellsOf 23 = 1 by kernel_rfl]; rfl
      exact (List.cons.inj (q.symm.trans g1)).1
    obtain ⟨v2, r2, g2, z2⟩ := open_ints13 f2
    have e2 : a2 = v2 := by
      have q : List.take (Try.prog.cellsOf 23) (List.drop 2 [a0, a1, a2, a3, a4, a5, a6]) = [a2] := by rw [show Try.prog.cellsOf 23 = 1 by kernel_rfl]; rfl
      exact (List.cons.inj (q.symm.trans g2)).1
    obtain ⟨v3, r3, g3, z3⟩ := open_ints13 f3
    have e3 : a3 = v3 := by
      have q : List.take (Try.prog.cellsOf 23) (List.drop 3 [a0, a1, a2, a3, a4, a5, a6]) = [a3] := by rw [show Try.prog.cellsOf 23 = 1 by kernel_rfl]; rfl
      exact (List.cons.inj (q.symm.trans g3)).1
    obtain ⟨s4, e4, z4⟩ := int_at (a := a4) (show List.take (Try.prog.cellsOf 3) (List.drop 4 [a0, a1, a2, a3, a4, a5, a6]) = [a4] by rw [cellsI]; rfl) f4
    obtain ⟨s5, e5, z5⟩ := int_at (a := a5) (show List.take (Try.prog.cellsOf 3) (List.drop 5 [a0, a1, a2, a3, a4, a5, a6]) = [a5] by rw [cellsI]; rfl) f5
    obtain ⟨s6, e6, z6⟩ := int_at (a := a6) (show List.take (Try.prog.cellsOf 3) (List.drop 6 [a0, a1, a2, a3, a4, a5, a6]) = [a6] by rw [cellsI]; rfl) f6
    subst e0 e1 e2 e3 e4 e5 e6
    exact ⟨⟨r0, r1, r2, r3, s4, s5, s6⟩, _, _, _, _, rfl, ⟨z0, z1, z2, z3⟩⟩
set_option maxRecDepth 100000 in
theorem open_likely13 {r : Reach} {b0 : Nat} {v : Value} {d : DataW H} {ps : List MemPlace} (hval : Value.okWide Try.prog w r b0 61 v) (h : DataW.Trod enc Try.prog w base spare held 61 v d ps) : ∃ x : Lk, v = .agg #[.string x.l, .string x.s, .string x.r, .string x.tl, .string x.ts, .string x.tr] ∧ ∀ t ∈ lkT x, t.size ≤ maxLen := by
  obtain ⟨cs, rfl, hsz⟩ := okWide_struct Try.underlying61 hval
  rw [show Try.prog.cellsOf 61 = 6 by kernel_rfl] at hsz
  obtain ⟨fuel, hf0⟩ := h
  obtain ⟨xs, n, _, _, _, hxl, hf⟩ := DataW.trod_struct Try.underlying61 hf0
  have hx : xs.length = 6 := hxl
  obtain ⟨l⟩ := cs
  match l, hsz with
  | [a0, a1, a2, a3, a4, a5], _ =>
    have f0 := hf 0 _ rfl
    have f1 := hf 1 _ rfl
    have f2 := hf 2 _ rfl
    have f3 := hf 3 _ rfl
    have f4 := hf 4 _ rfl
    have f5 := hf 5 _ rfl
    rw [List.getElem?_eq_getElem (by omega)] at f0 f1 f2 f3 f4 f5
    obtain ⟨s0, e0, z0⟩ := str_at (a := a0) (show List.take (Try.prog.cellsOf 9) (List.drop 0 [a0, a1, a2, a3, a4, a5]) = [a0] by rw [cellsSt]; rfl) f0
    obtain ⟨s1, e1, z1⟩ := str_at (a := a1) (show List.take (Try.prog.cellsOf 9) (List.drop 1 [a0, a1, a2, a3, a4, a5]) = [a1] by rw [cellsSt]; rfl) f1
    obtain ⟨s2, e2, z2⟩ := str_at (a := a2) (show List.take (Try.prog.cellsOf 9) (List.drop 2 [a0, a1, a2, a3, a4, a5]) = [a2] by rw [cellsSt]; rfl) f2
    obtain ⟨s3, e3, z3⟩ := str_at (a := a3) (show List.take (Try.prog.cellsOf 9) (List.drop 3 [a0, a1, a2, a3, a4, a5]) = [a3] by rw [cellsSt]; rfl) f3
    obtain ⟨s4, e4, z4⟩ := str_at (a := a4) (show List.take (Try.prog.cellsOf 9) (List.drop 4 [a0, a1, a2, a3, a4, a5]) = [a4] by rw [cellsSt]; rfl) f4
    obtain ⟨s5, e5, z5⟩ := str_at (a := a5) (show List.take (Try.prog.cellsOf 9) (List.drop 5 [a0, a1, a2, a3, a4, a5]) = [a5] by rw [cellsSt]; rfl) f5
    subst e0 e1 e2 e3 e4 e5
    refine ⟨⟨s0, s1, s2, s3, s4, s5⟩, rfl, fun t ht => ?_⟩
    rcases List.mem_cons.1 ht with rfl | ht
    · exact z0
    rcases List.mem_cons.1 ht with rfl | ht
    · exact z1
    rcases List.mem_cons.1 ht with rfl | ht
    · exact z2
    rcases List.mem_cons.1 ht with rfl | ht
    · exact z3
    rcases List.mem_cons.1 ht with rfl | ht
    · exact z4
    rcases List.mem_cons.1 ht with rfl | ht
    · exact z5
    cases ht
set_option maxRecDepth 100000 in
theorem open_three {fuel : Nat} {a b c : Value} {x : DataW H × List MemPlace} (h : DataW.trod enc Try.prog w base spare held fuel 62 [a, b, c] = some x) : ∃ s0 s1 s2 : ByteArray, a = .string s0 ∧ b = .string s1 ∧ c = .string s2 ∧ s0.size ≤ maxLen ∧ s1.size ≤ maxLen ∧ s2.size ≤ maxLen := by
  obtain ⟨y0, y1, y2, n, _, h0, h1, h2⟩ := trod_array3 Try.underlying62 cellsSt h
  obtain ⟨s0, e0, z0⟩ := str_at rfl h0
  obtain ⟨s1, e1, z1⟩ := str_at rfl h1
  obtain ⟨s2, e2, z2⟩ := str_at rfl h2
  exact ⟨s0, s1, s2, e0, e1, e2, z0, z1, z2⟩
set_option maxRecDepth 100000 in
theorem open_rule13 {r : Reach} {b0 : Nat} {v : Value} {d : DataW H} {ps : List MemPlace} (hval : Value.okWide Try.prog w r b0 64 v) (h : DataW.Trod enc Try.prog w base spare held 64 v d ps) : ∃ x : Rl, v = .agg #[.int .i64 x.lv, .int .i64 x.co, .bool x.ow, .string x.d0, .string x.d1, .string x.d2, .string x.s0, .string x.s1, .string x.s2] ∧ (∀ t ∈ rlT x, t.size ≤ maxLen) ∧ (Lit.int .i64 x.lv).wf = true ∧ (Lit.int .i64 x.co).wf = true := by
  obtain ⟨cs, rfl, hsz⟩ := okWide_struct Try.underlying64 hval
  rw [show Try.prog.cellsOf 64 = 9 by kernel_rfl] at hsz
  obtain ⟨fuel, hf0⟩ := h
  obtain ⟨xs, n, _, _, _, hxl, hf⟩ := DataW.trod_struct Try.underlying64 hf0
  have hx : xs.length = 5 := hxl
  obtain ⟨l⟩ := cs
  match l, hsz with
  | [a0, a1, a2, a3, a4, a5, a6, a7, a8], _ =>
    have f0 := hf 0 _ rfl
    have f1 := hf 1 _ rfl
    have f2 := hf 2 _ rfl
    have f3 := hf 3 _ rfl
    have f4 := hf 4 _ rfl
    rw [List.getElem?_eq_getElem (by omega)] at f0 f1 f2 f3 f4
    obtain ⟨s0, e0, z0⟩ := int_at (a := a0) (show List.take (Try.prog.cellsOf 3) (List.drop 0 [a0, a1, a2, a3, a4, a5, a6, a7, a8]) = [a0] by rw [cellsI]; rfl) f0
    obtain ⟨s1, e1, z1⟩ := int_at (a := a1) (show List.take (Try.prog.cellsOf 3) (List.drop 1 [a0, a1, a2, a3, a4, a5, a6, a7, a8]) = [a1] by rw [cellsI]; rfl) f1
    obtain ⟨s2, q2, _⟩ := DataW.trod_bool Try.underlying4 f2
    have e2 : a2 = .bool s2 := by
      have q : List.take (Try.prog.cellsOf 4) (List.drop 2 [a0, a1, a2, a3, a4, a5, a6, a7, a8]) = [a2] := by rw [show Try.prog.cellsOf 4 = 1 by kernel_rfl]; rfl
      exact (List.cons.inj (q.symm.trans q2)).1
    have f3' := (congrArg (fun l => DataW.trod enc Try.prog w base spare held n 62 l) (show List.take (Try.prog.cellsOf 62) (List.drop 3 [a0, a1, a2, a3, a4, a5, a6, a7, a8]) = [a3, a4, a5] by rw [show Try.prog.cellsOf 62 = 3 by kernel_rfl]; rfl)).symm.trans f3
    obtain ⟨s3, s4, s5, e3, e4, e5, z3, z4, z5⟩ := open_three f3'
    have f4' := (congrArg (fun l => DataW.trod enc Try.prog w base spare held n 62 l) (show List.take (Try.prog.cellsOf 62) (List.drop 6 [a0, a1, a2, a3, a4, a5, a6, a7, a8]) = [a6, a7, a8] by rw [show Try.prog.cellsOf 62 = 3 by kernel_rfl]; rfl)).symm.trans f4
    obtain ⟨s6, s7, s8, e6, e7, e8, z6, z7, z8⟩ := open_three f4'
    subst e0 e1 e2 e3 e4 e5 e6 e7 e8
    refine ⟨⟨s0, s1, s2, s3, s4, s5, s6, s7, s8⟩, rfl, fun t ht => ?_, z0, z1⟩
    rcases List.mem_cons.1 ht with rfl | ht
    · exact z3
    rcases List.mem_cons.1 ht with rfl | ht
    · exact z4
    rcases List.mem_cons.1 ht with rfl | ht
    · exact z5
    rcases List.mem_cons.1 ht with rfl | ht
    · exact z6
    rcases List.mem_cons.1 ht with rfl | ht
    · exact z7
    rcases List.mem_cons.1 ht with rfl | ht
    · exact z8
    cases ht
end
end Go.Proofs.Ythjfcfhibdpbnaa
