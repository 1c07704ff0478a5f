import Derived.Test.YtpnhjpplfjamkaaRows
import Derived.Test.YtpnhjpplfjamkaaIMade
import Derived.ProofKit
import Derived.OpenShut
import Derived.Deep.Slices
import Derived.Deep.Fields
import Derived.ChangeSame
import Derived.ChangeMaps5
import Derived.RowKit
import Derived.Carry
import Derived.Test.YtpnhjpplfjamkaaQBackLaw
namespace Go.Proofs.Ytpnhjpplfjamkaa
open Go.ChangeShapes Go.WideShapes Go.ChangeAt Go.RowKit Go.Deep

set_option maxRecDepth 100000 in
theorem laidOut6 : laidOutB Try.prog = true := by kernel_rfl
section
variable {H : Type} {enc : TypeId × Value → H} {w : World} {base : Nat} {spare : Nat → Bool} {held : Bool}
set_option maxRecDepth 100000 in
/-- A row that came in, of whatever elements. -/
theorem open_rowG {α : Type} {t e : TypeId} {n : Nat} (Q : List Value → α → Prop) (ht : Try.prog.underlying t = some (.slice e)) (hn : Try.prog.cellsOf e = n) (hn0 : 0 < n)
    (hQ : ∀ (fuel : Nat) (cs : List Value) (x : DataW H × List MemPlace), cs.length = n → DataW.trod enc Try.prog w base spare held fuel e cs = some x → ∃ a, Q cs a) {fuel : Nat} {cs : List Value} {x : DataW H × List MemPlace} (h : DataW.trod enc Try.prog w base spare held fuel t cs = some x) :
    ∃ (ao : Option Addr) (cap : Nat) (l : List α), cs = [.slice ao l.length cap] ∧ l.length ≤ maxLen ∧ ∀ i a, l[i]? = some a → ∃ b o ys, ao = some ⟨b, o, none⟩ ∧ (∀ j v, ys[j]? = some v → w.cell? ⟨b, o + (i * n + j), none⟩ = some v) ∧ Q ys a := by
  rcases open_slice ht h with ⟨rfl, _⟩ | ⟨a, len, cap, m, fl, D, Pl, rfl, _, hl, hm, hmm, _, hi⟩
  · exact ⟨none, 0, [], rfl, by simp, fun i a h => by simp at h⟩
  · have hml : len ≤ m := by rw [hmm]; split <;> omega
    have hit : ∀ i, i < len → ∃ (y : α) (ys : List Value), ys.length = n ∧ (∀ j, j < n → w.cell? ((a.add (i * n)).add j) = ys[j]?) ∧ Q ys y := by
      intro i hil
      obtain ⟨cs', hc, htr⟩ := hi i (by omega)
      rw [hn] at hc
      obtain ⟨_, hcl, hat⟩ := World.cells?_some hc
      obtain ⟨y, hy⟩ := hQ _ _ _ hcl htr
      exact ⟨y, cs', hcl, hat, hy⟩
    obtain ⟨l, hll, hlg⟩ : ∃ l : List α, l.length = len ∧ ∀ i y, l[i]? = some y → ∃ ys : List Value, ys.length = n ∧ (∀ j, j < n → w.cell? ((a.add (i * n)).add j) = ys[j]?) ∧ Q ys y := by
      refine ⟨(List.range len).pmap (fun i hi => Classical.choose (hit i hi)) (fun i hi => List.mem_range.1 hi), by simp, fun i y hy => ?_⟩
      have hlt : i < len := by have := (List.getElem?_eq_some_iff.1 hy).1; simpa using this
      rw [List.getElem?_pmap] at hy
      simp [hlt] at hy
      subst hy
      exact Classical.choose_spec (hit i hlt)
    refine ⟨some a, cap, l, by rw [hll], by omega, fun i y hy => ?_⟩
    obtain ⟨ys, hys, hc, hq⟩ := hlg i y hy
    obtain ⟨b, o, spot⟩ := a
    obtain ⟨y0, hy0⟩ : ∃ y0, l[0]? = some y0 := ⟨_, List.getElem?_eq_getElem (by have := (List.getElem?_eq_some_iff.1 hy).1; omega)⟩
    obtain ⟨ys0, hys0, hc0, _⟩ := hlg 0 y0 hy0
    have h0 := hc0 0 hn0
    rw [List.getElem?_eq_getElem (by omega)] at h0
    have hs : spot = none := by simpa [Addr.add] using World.cell?_spot h0
    subst hs
    refine ⟨b, o, ys, rfl, fun j v hv => ?_, hq⟩
    have hj : j < n := by have := (List.getElem?_eq_some_iff.1 hv).1; omega
    have := hc j hj
    rw [add_plain, add_plain, hv] at this
    rw [show o + (i * n + j) = o + i * n + j by omega]
    exact this
set_option maxRecDepth 100000 in
theorem open_texts6 {fuel : Nat} {cs : List Value} {x : DataW H × List MemPlace} (h : DataW.trod enc Try.prog w base spare held fuel 26 cs = some x) : ∃ v l, cs = [v] ∧ RowA w v l := by
  obtain ⟨ao, cap, l, rfl, hl, hi⟩ := open_rowG (fun cs (s : ByteArray) => cs = [.string s] ∧ s.size ≤ maxLen) Try.underlying26 (show Try.prog.cellsOf 9 = 1 by kernel_rfl) (by decide) (fun fuel cs x _ h => by
    obtain ⟨s, h1, _, h2⟩ := DataW.trod_string Try.underlying9 h
    exact ⟨s, h1, h2⟩) h
  refine ⟨_, l, rfl, ao, cap, rfl, hl, fun i x hx => ?_⟩
  obtain ⟨b, o, ys, h1, h2, rfl, h3⟩ := hi i x hx
  have := h2 0 _ rfl
  simp at this
  exact ⟨b, o, h1, this, h3⟩
set_option maxRecDepth 100000 in
theorem open_ints6 {fuel : Nat} {cs : List Value} {x : DataW H × List MemPlace} (h : DataW.trod enc Try.prog w base spare held fuel 22 cs = some x) : ∃ v l, cs = [v] ∧ IntsA w v l := by
  obtain ⟨ao, cap, l, rfl, hl, hi⟩ := open_rowG (fun cs (s : Int) => cs = [.int .i64 s]) Try.underlying22 (show Try.prog.cellsOf 3 = 1 by kernel_rfl) (by decide) (fun fuel cs x _ h => by
    obtain ⟨s, h1, _, h2⟩ := DataW.trod_int Try.underlying3 h
    exact ⟨s, h1⟩) h
  refine ⟨_, l, rfl, ao, cap, rfl, hl, fun i x hx => ?_⟩
  obtain ⟨b, o, ys, h1, h2, rfl⟩ := hi i x hx
  have := h2 0 _ rfl
  simp at this
  exact ⟨b, o, h1, this⟩
set_option maxRecDepth 100000 in
theorem open_exts6 {fuel : Nat} {cs : List Value} {x : DataW H × List MemPlace} (h : DataW.trod enc Try.prog w base spare held fuel 27 cs = some x) : ∃ v l, cs = [v] ∧ ExtA w v l := by
  obtain ⟨ao, cap, l, rfl, hl, hi⟩ := open_rowG (fun cs (x : ByteArray × List ByteArray) => ∃ vs, cs = [.string x.1, vs] ∧ x.1.size ≤ maxLen ∧ RowA w vs x.2) Try.underlying27 (show Try.prog.cellsOf 43 = 2 by kernel_rfl) (by decide) (fun fuel cs x hcl h => by
    obtain ⟨xs, n, _, _, _, hxl, hf⟩ := DataW.trod_struct Try.underlying43 h
    have f0 := hf 0 _ rfl
    have f1 := hf 1 _ rfl
    have hx2 : xs.length = 2 := hxl
    rw [List.getElem?_eq_getElem (by omega)] at f0 f1
    obtain ⟨s, h1, _, h2⟩ := DataW.trod_string Try.underlying9 f0
    obtain ⟨v, r, h3, h4⟩ := open_texts6 f1
    match cs, hcl, h1, h3 with
    | [a, b], _, h1, h3 =>
      have e0 : a = .string s := by
        have : List.take (Try.prog.cellsOf 9) (List.drop 0 [a, b]) = [a] := by rw [show Try.prog.cellsOf 9 = 1 by kernel_rfl]; rfl
        exact (List.cons.inj (this.symm.trans h1)).1
      have e1 : b = v := by
        have : List.take (Try.prog.cellsOf 26) (List.drop 1 [a, b]) = [b] := by rw [show Try.prog.cellsOf 26 = 1 by kernel_rfl]; rfl
        exact (List.cons.inj (this.symm.trans h3)).1
      exact ⟨(s, r), v, by rw [e0, e1], h2, h4⟩) h
  refine ⟨_, l, rfl, ao, cap, rfl, hl, fun i x hx => ?_⟩
  obtain ⟨b, o, ys, h1, h2, vs, rfl, h3, h4⟩ := hi i x hx
  have c0 := h2 0 _ rfl
  have c1 := h2 1 _ rfl
  exact ⟨b, o, vs, h1, c0, c1, h3, h4⟩
set_option maxRecDepth 100000 in
theorem open_tag6 {r : Reach} {b0 : Nat} {v : Value} {d : DataW H} {ps : List MemPlace} (hval : Value.okWide Try.prog w r b0 29 v) (h : DataW.Trod enc Try.prog w base spare held 29 v d ps) : ∃ (l : ByteArray) (ve : Value) (s r : ByteArray) (vv vx vp : Value) (g : ByteArray) (E V : List ByteArray) (X : List (ByteArray × List ByteArray)) (P : List ByteArray), v = .agg #[.string l, ve, .string s, .string r, vv, vx, vp, .string g] ∧ l.size ≤ maxLen ∧ s.size ≤ maxLen ∧ r.size ≤ maxLen ∧ g.size ≤ maxLen ∧ RowA w ve E ∧ RowA w vv V ∧ ExtA w vx X ∧ RowA w vp P := by
  obtain ⟨cs, rfl, hsz⟩ := okWide_struct Try.underlying29 hval
  rw [show Try.prog.cellsOf 29 = 8 by kernel_rfl] at hsz
  obtain ⟨fuel, hf0⟩ := h
  obtain ⟨xs, n, _, _, _, hxl, hf⟩ := DataW.trod_struct Try.underlying29 hf0
  have hx8 : xs.length = 8 := hxl
  obtain ⟨l⟩ := cs
  match l, hsz with
  | [a0, a1, a2, a3, a4, a5, a6, a7], _ =>
    have f0 := hf 0 _ rfl
    have f1 := hf 1 _ rfl
    have f2 := hf 2 _ rfl
    have f3 := hf 3 _ rfl
    have f4 := hf 4 _ rfl
    have f5 := hf 5 _ rfl
    have f6 := hf 6 _ rfl
    have f7 := hf 7 _ rfl
    rw [List.getElem?_eq_getElem (by omega)] at f0 f1 f2 f3 f4 f5 f6 f7
    obtain ⟨s0, g0, _, z0⟩ := DataW.trod_string Try.underlying9 f0
    have e0 : a0 = .string s0 := by
      have q : List.take (Try.prog.cellsOf 9) (List.drop 0 [a0, a1, a2, a3, a4, a5, a6, a7]) = [a0] := by rw [show Try.prog.cellsOf 9 = 1 by kernel_rfl]; rfl
      exact (List.cons.inj (q.symm.trans g0)).1
    obtain ⟨v1, r1, g1, z1⟩ := open_texts6 f1
    have e1 : a1 = v1 := by
      have q : List.take (Try.prog.cellsOf 26) (List.drop 1 [a0, a1, a2, a3, a4, a5, a6, a7]) = [a1] := by rw [show Try.prog.cellsOf 26 = 1 by kernel_rfl]; rfl
      exact (List.cons.inj (q.symm.trans g1)).1
    obtain ⟨s2, g2, _, z2⟩ := DataW.trod_string Try.underlying9 f2
    have e2 : a2 = .string s2 := by
      have q : List.take (Try.prog.cellsOf 9) (List.drop 2 [a0, a1, a2, a3, a4, a5, a6, a7]) = [a2] := by rw [show Try.prog.cellsOf 9 = 1 by kernel_rfl]; rfl
      exact (List.cons.inj (q.symm.trans g2)).1
    obtain ⟨s3, g3, _, z3⟩ := DataW.trod_string Try.underlying9 f3
    have e3 : a3 = .string s3 := by
      have q : List.take (Try.prog.cellsOf 9) (List.drop 3 [a0, a1, a2, a3, a4, a5, a6, a7]) = [a3] := by rw [show Try.prog.cellsOf 9 = 1 by kernel_rfl]; rfl
      exact (List.cons.inj (q.symm.trans g3)).1
    obtain ⟨v4, r4, g4, z4⟩ := open_texts6 f4
    have e4 : a4 = v4 := by
      have q : List.take (Try.prog.cellsOf 26) (List.drop 4 [a0, a1, a2, a3, a4, a5, a6, a7]) = [a4] := by rw [show Try.prog.cellsOf 26 = 1 by kernel_rfl]; rfl
      exact (List.cons.inj (q.symm.trans g4)).1
    obtain ⟨v5, r5, g5, z5⟩ := open_exts6 f5
    have e5 : a5 = v5 := by
      have q : List.take (Try.prog.cellsOf 27) (List.drop 5 [a0, a1, a2, a3, a4, a5, a6, a7]) = [a5] := by rw [show Try.prog.cellsOf 27 = 1 by kernel_rfl]; rfl
      exact (List.cons.inj (q.symm.trans g5)).1
    obtain ⟨v6, r6, g6, z6⟩ := open_texts6 f6
    have e6 : a6 = v6 := by
      have q : List.take (Try.prog.cellsOf 26) (List.drop 6 [a0, a1, a2, a3, a4, a5, a6, a7]) = [a6] := by rw [show Try.prog.cellsOf 26 = 1 by kernel_rfl]; rfl
      exact (List.cons.inj (q.symm.trans g6)).1
    obtain ⟨s7, g7, _, z7⟩ := DataW.trod_string Try.underlying9 f7
    have e7 : a7 = .string s7 := by
      have q : List.take (Try.prog.cellsOf 9) (List.drop 7 [a0, a1, a2, a3, a4, a5, a6, a7]) = [a7] := by rw [show Try.prog.cellsOf 9 = 1 by kernel_rfl]; rfl
      exact (List.cons.inj (q.symm.trans g7)).1
    subst e0 e1 e2 e3 e4 e5 e6 e7
    exact ⟨s0, a1, s2, s3, a4, a5, a6, s7, r1, r4, r5, r6, rfl, z0, z2, z3, z7, z1, z4, z5, z6⟩
set_option maxRecDepth 100000 in
theorem open_seed6 {r : Reach} {b0 : Nat} {v : Value} {d : DataW H} {ps : List MemPlace} (hval : Value.okWide Try.prog w r b0 24 v) (h : DataW.Trod enc Try.prog w base spare held 24 v d ps) : ∃ (S : SeedM) (vv vk vp : Value), v = .agg #[.int .i64 S.lang, .int .i64 S.extl, .int .i64 S.script, .int .i64 S.region, vv, vk, vp, .int .i64 S.odd] ∧ IntsA w vv S.vars ∧ IntsA w vk S.keys ∧ IntsA w vp S.priv ∧ -9223372036854775808 ≤ S.extl ∧ S.extl ≤ 9223372036854775807 := by
  obtain ⟨cs, rfl, hsz⟩ := okWide_struct Try.underlying24 hval
  rw [show Try.prog.cellsOf 24 = 8 by kernel_rfl] at hsz
  obtain ⟨fuel, hf0⟩ := h
  obtain ⟨xs, n, _, _, _, hxl, hf⟩ := DataW.trod_struct Try.underlying24 hf0
  have hx8 : xs.length = 8 := hxl
  obtain ⟨l⟩ := cs
  match l, hsz with
  | [a0, a1, a2, a3, a4, a5, a6, a7], _ =>
    have f0 := hf 0 _ rfl
    have f1 := hf 1 _ rfl
    have f2 := hf 2 _ rfl
    have f3 := hf 3 _ rfl
    have f4 := hf 4 _ rfl
    have f5 := hf 5 _ rfl
    have f6 := hf 6 _ rfl
    have f7 := hf 7 _ rfl
    rw [List.getElem?_eq_getElem (by omega)] at f0 f1 f2 f3 f4 f5 f6 f7
    obtain ⟨s0, g0, _, z0⟩ := DataW.trod_int Try.underlying3 f0
    have e0 : a0 = .int .i64 s0 := by
      have q : List.take (Try.prog.cellsOf 3) (List.drop 0 [a0, a1, a2, a3, a4, a5, a6, a7]) = [a0] := by rw [show Try.prog.cellsOf 3 = 1 by kernel_rfl]; rfl
      exact (List.cons.inj (q.symm.trans g0)).1
    obtain ⟨s1, g1, _, z1⟩ := DataW.trod_int Try.underlying3 f1
    have e1 : a1 = .int .i64 s1 := by
      have q : List.take (Try.prog.cellsOf 3) (List.drop 1 [a0, a1, a2, a3, a4, a5, a6, a7]) = [a1] := by rw [show Try.prog.cellsOf 3 = 1 by kernel_rfl]; rfl
      exact (List.cons.inj (q.symm.trans g1)).1
    obtain ⟨s2, g2, _, z2⟩ := DataW.trod_int Try.underlying3 f2
    have e2 : a2 = .int .i64 s2 := by
      have q : List.take (Try.prog.cellsOf 3) (List.drop 2 [a0, a1, a2, a3, a4, a5, a6, a7]) = [a2] := by rw [show Try.prog.cellsOf 3 = 1 by kernel_rfl]; rfl
      exact (List.cons.inj (q.symm.trans g2)).1
    obtain ⟨s3, g3, _, z3⟩ := DataW.trod_int Try.underlying3 f3
    have e3 : a3 = .int .i64 s3 := by
      have q : List.take (Try.prog.cellsOf 3) (List.drop 3 [a0, a1, a2, a3, a4, a5, a6, a7]) = [a3] := by rw [show Try.prog.cellsOf 3 = 1 by kernel_rfl]; rfl
      exact (List.cons.inj (q.symm.trans g3)).1
    obtain ⟨v4, r4, g4, z4⟩ := open_ints6 f4
    have e4 : a4 = v4 := by
      have q : List.take (Try.prog.cellsOf 22) (List.drop 4 [a0, a1, a2, a3, a4, a5, a6, a7]) = [a4] := by rw [show Try.prog.cellsOf 22 = 1 by kernel_rfl]; rfl
      exact (List.cons.inj (q.symm.trans g4)).1
    obtain ⟨v5, r5, g5, z5⟩ := open_ints6 f5
    have e5 : a5 = v5 := by
      have q : List.take (Try.prog.cellsOf 22) (List.drop 5 [a0, a1, a2, a3, a4, a5, a6, a7]) = [a5] := by rw [show Try.prog.cellsOf 22 = 1 by kernel_rfl]; rfl
      exact (List.cons.inj (q.symm.trans g5)).1
    obtain ⟨v6, r6, g6, z6⟩ := open_ints6 f6
    have e6 : a6 = v6 := by
      have q : List.take (Try.prog.cellsOf 22) (List.drop 6 [a0, a1, a2, a3, a4, a5, a6, a7]) = [a6] := by rw [show Try.prog.cellsOf 22 = 1 by kernel_rfl]; rfl
      exact (List.cons.inj (q.symm.trans g6)).1
    obtain ⟨s7, g7, _, z7⟩ := DataW.trod_int Try.underlying3 f7
    have e7 : a7 = .int .i64 s7 := by
      have q : List.take (Try.prog.cellsOf 3) (List.drop 7 [a0, a1, a2, a3, a4, a5, a6, a7]) = [a7] := by rw [show Try.prog.cellsOf 3 = 1 by kernel_rfl]; rfl
      exact (List.cons.inj (q.symm.trans g7)).1
    subst e0 e1 e2 e3 e4 e5 e6 e7
    exact ⟨⟨s0, s1, s2, s3, r4, r5, r6, s7⟩, a4, a5, a6, rfl, z4, z5, z6, bounds_i64 z1⟩
end
end Go.Proofs.Ytpnhjpplfjamkaa

namespace Go.Proofs.Ytpnhjpplfjamkaa
open Go.ChangeShapes Go.WideShapes Go.ChangeAt Go.ChangeMaps Go.RowKit

theorem renderBack_own : ownKnob Try.prog.godebug = none := by kernel_rfl

set_option maxRecDepth 100000 in
theorem renderBack_lifted (os : Os) (started : os.Started) (H : Type) (enc : TypeId × Value → H) :
    ReturnsInHanded {} Try.checked os 3 .any (Rows.renderBackSpec.pre6 enc Try.prog Try.f3 Rows.renderBackRow.domain false) (Rows.renderBackSpec.post enc Try.prog Try.f3 false true false false) := by
  refine returnsInHanded_of_change (C := Try.checked) renderBack_own started (by kernel_rfl) Try.func3
    (ChangeSpec.witness6 (enc := enc) (C := Try.checked) false ⟨#[], #[.agg #[.int .i64 0, .int .i64 0, .int .i64 0, .int .i64 0, .slice none 0 0, .slice none 0 0, .slice none 0 0, .int .i64 0]], []⟩ 8 (by kernel_rfl) (by kernel_rfl) (by kernel_rfl) (by kernel_rfl)) ?_
  intro W base args ds gs before hval0 hW _ _
  have hval : ∀ (j : Nat) t v, Try.f3.params[j]? = some t → args[j]? = some v → Value.okWide Try.prog W .any base t v := hval0
  have hW' := hW
  obtain ⟨p, q, hA0, hV, rfl, hfz, hnd⟩ := hW
  have hA : DataW.TrodAll enc Try.prog W 0 (fun _ => true) true Try.f3.params.toList args.toList ds p := hA0
  rw [Try.params3] at hA hval
  obtain ⟨v0, vs0, d0, ds0, p0, q0, hargs, rfl, rfl, h0, r0⟩ := trodAll_cons hA
  obtain ⟨rfl, rfl, rfl⟩ := trodAll_nil r0
  obtain rfl : args = #[v0] := by cases args; simp_all
  obtain ⟨rfl, rfl⟩ := trodVars_none hV
  have k0 := h0
  have lt0 : ∀ x ∈ p0, x.block < W.heap.size := by obtain ⟨m, hm⟩ := k0; exact DataW.trod_lt m _ _ _ hm
  obtain ⟨S0, sv0, sk0, sp0, rfl, sa0, sb0, sc0, sd0, se0⟩ := open_seed6 (hval 0 24 v0 rfl rfl) h0
  clear hA0 hval0
  refine (rback_law S0 sv0 sk0 sp0 W sa0 sb0 sc0 sd0 se0).mono fun e W' ⟨he, bel⟩ => ?_
  subst he
  exact ⟨_, rfl, _, _, _, [], _, [], hW', trodAll_mk1 (shut_bool Try.underlying4 _), (trodAll_cons_mk (Below.trod laidOut6 (by kernel_rfl) (of_decide_eq_true (by kernel_rfl)) k0 bel lt0) trodAll_mk0), rfl, bel.frame _, fun h => by cases h⟩

/-- The statement. -/
theorem renderBack_holds : Rows.RenderBackSaid :=
  OpenClaim.holds_of_wide 3 Try.f3 rfl rfl rfl rfl rfl rfl rfl ⟨rfl, rfl, rfl, rfl, rfl⟩ rfl rfl rfl rfl rfl (by kernel_rfl) Try.func3 (by kernel_rfl)
    (of_decide_eq_true (by kernel_rfl)) (by unfold Func.isWrapper; rw [if_neg (of_decide_eq_false (by kernel_rfl))]; exact ⟨rfl, rfl⟩)
    (fun os started H enc _ => renderBack_lifted os started H enc)
end Go.Proofs.Ytpnhjpplfjamkaa
