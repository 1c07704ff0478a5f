/-
  Layer 12's arguments: aliases, seeds, rows of two of them or of two texts, two ints, opened. (Printed by wip/gen_yargs.py.)
-/
import Derived.Test.YtaoggmfedocfeaaGreatDoorRows
import Derived.Test.YtaoggmfedocfeaaGreatDoorYMades
import Derived.ProofKit
import Derived.OpenShut
import Derived.ChangeSame
import Derived.ChangeMaps5
import Derived.RowKit
import Derived.Carry
namespace Go.Proofs.YtaoggmfedocfeaaGreatDoor
open Go.ChangeShapes Go.WideShapes Go.ChangeAt Go.RowKit

set_option maxRecDepth 100000 in
theorem laidOut6 : laidOutB Tryz.prog = true := by kernel_rfl
section
variable {H : Type} {enc : TypeId × Value → H} {w : World} {base : Nat} {spare : Nat → Bool} {held : Bool}
theorem trod_pair {P : Program} {t e : TypeId} {c : Nat} {fuel : Nat} {l0 l1 : List Value} {x : DataW H × List MemPlace} (ht : P.underlying t = some (.array 2 e)) (hce : P.cellsOf e = c) (h0 : l0.length = c) (h1 : l1.length = c)
    (h : DataW.trod enc P w base spare held fuel t (l0 ++ l1) = some x) : ∃ y0 y1 n, DataW.trod enc P w base spare held n e l0 = some y0 ∧ DataW.trod enc P w base spare held n e l1 = some y1 := by
  cases fuel with
  | zero => simp [DataW.trod] at h
  | succ n =>
    unfold DataW.trod at h
    rw [ht] at h
    have r2 : List.range 2 = [0, 1] := rfl
    have e0 : ((l0 ++ l1).drop (0 * c)).take c = l0 := by rw [Nat.zero_mul, List.drop_zero, List.take_left' h0]
    have e1 : ((l0 ++ l1).drop (1 * c)).take c = l1 := by rw [Nat.one_mul, List.drop_left' h0, List.take_of_length_le (by omega)]
    simp only [r2, hce, List.mapM_cons, List.mapM_nil, e0, e1] at h
    cases hy0 : DataW.trod enc P w base spare held n e l0 with
    | none => simp [hy0] at h
    | some y0 =>
      cases hy1 : DataW.trod enc P w base spare held n e l1 with
      | none => simp [hy0, hy1] at h
      | some y1 => exact ⟨y0, y1, n, hy0, hy1⟩
set_option maxRecDepth 100000 in
theorem okWide_two {t e : TypeId} {r : Reach} {b0 : Nat} {v : Value} (ht : Tryz.prog.underlying t = some (.array 2 e)) (hval : Value.okWide Tryz.prog w r b0 t v) : ∃ cs, v = .agg cs ∧ cs.size = Tryz.prog.cellsOf t := by
  unfold Value.okWide at hval
  rw [ht] at hval
  obtain ⟨cs, h1, h2, _⟩ := hval
  exact ⟨cs, h1, h2⟩
theorem cellsI : Tryz.prog.cellsOf 3 = 1 := by kernel_rfl
theorem int_at {fuel : Nat} {l : List Value} {a : Value} {x : DataW H × List MemPlace} (ha : l = [a]) (h : DataW.trod enc Tryz.prog w base spare held fuel 3 l = some x) : ∃ s, a = .int .i64 s ∧ (Lit.int .i64 s).wf = true := by
  rw [ha] at h
  obtain ⟨s, g, _, z⟩ := DataW.trod_int Tryz.underlying3 h
  exact ⟨s, (List.cons.inj g).1, z⟩
theorem seed12_cells {fuel : Nat} {a0 a1 a2 a3 a4 a5 a6 : Value} {x : DataW H × List MemPlace} (h : DataW.trod enc Tryz.prog w base spare held fuel 57 [a0, a1, a2, a3, a4, a5, a6] = some x) : ∃ S : Sd, [a0, a1, a2, a3, a4, a5, a6] = [.int .i64 S.kind, .int .i64 S.a, .int .i64 S.b, .int .i64 S.l, .int .i64 S.s, .int .i64 S.r, .int .i64 S.odd] := by
  obtain ⟨xs, n, _, _, _, hxl, hf⟩ := DataW.trod_struct Tryz.underlying57 h
  have hx : xs.length = 7 := hxl
  have f0 := hf 0 _ rfl
  have f1 := hf 1 _ rfl
  have f2 := hf 2 _ rfl
  have f3 := hf 3 _ rfl
  have f4 := hf 4 _ rfl
  have f5 := hf 5 _ rfl
  have f6 := hf 6 _ rfl
  rw [List.getElem?_eq_getElem (by omega)] at f0 f1 f2 f3 f4 f5 f6
  obtain ⟨s0, e0, z0⟩ := int_at (a := a0) (show List.take (Tryz.prog.cellsOf 3) (List.drop 0 [a0, a1, a2, a3, a4, a5, a6]) = [a0] by rw [cellsI]; rfl) f0
  obtain ⟨s1, e1, z1⟩ := int_at (a := a1) (show List.take (Tryz.prog.cellsOf 3) (List.drop 1 [a0, a1, a2, a3, a4, a5, a6]) = [a1] by rw [cellsI]; rfl) f1
  obtain ⟨s2, e2, z2⟩ := int_at (a := a2) (show List.take (Tryz.prog.cellsOf 3) (List.drop 2 [a0, a1, a2, a3, a4, a5, a6]) = [a2] by rw [cellsI]; rfl) f2
  obtain ⟨s3, e3, z3⟩ := int_at (a := a3) (show List.take (Tryz.prog.cellsOf 3) (List.drop 3 [a0, a1, a2, a3, a4, a5, a6]) = [a3] by rw [cellsI]; rfl) f3
  obtain ⟨s4, e4, z4⟩ := int_at (a := a4) (show List.take (Tryz.prog.cellsOf 3) (List.drop 4 [a0, a1, a2, a3, a4, a5, a6]) = [a4] by rw [cellsI]; rfl) f4
  obtain ⟨s5, e5, z5⟩ := int_at (a := a5) (show List.take (Tryz.prog.cellsOf 3) (List.drop 5 [a0, a1, a2, a3, a4, a5, a6]) = [a5] by rw [cellsI]; rfl) f5
  obtain ⟨s6, e6, z6⟩ := int_at (a := a6) (show List.take (Tryz.prog.cellsOf 3) (List.drop 6 [a0, a1, a2, a3, a4, a5, a6]) = [a6] by rw [cellsI]; rfl) f6
  subst e0 e1 e2 e3 e4 e5 e6
  exact ⟨⟨s0, s1, s2, s3, s4, s5, s6⟩, rfl⟩
set_option maxRecDepth 100000 in
theorem cellsSeed : Tryz.prog.cellsOf 57 = 7 := by kernel_rfl
set_option maxRecDepth 100000 in
theorem cellsInt2 : Tryz.prog.cellsOf 26 = 2 := by kernel_rfl
set_option maxRecDepth 100000 in
theorem open_ints2 {r : Reach} {b0 : Nat} {v : Value} {d : DataW H} {ps : List MemPlace} (hval : Value.okWide Tryz.prog w r b0 26 v) (h : DataW.Trod enc Tryz.prog w base spare held 26 v d ps) : ∃ p q : Int, v = .agg #[.int .i64 p, .int .i64 q] ∧ (Lit.int .i64 p).wf = true ∧ (Lit.int .i64 q).wf = true := by
  obtain ⟨cs, rfl, hsz⟩ := okWide_two Tryz.underlying26 hval
  rw [cellsInt2] at hsz
  obtain ⟨fuel, hf⟩ := h
  obtain ⟨l⟩ := cs
  match l, hsz with
  | [a0, a1], _ =>
    have hf' : DataW.trod enc Tryz.prog w base spare held fuel 26 ([a0] ++ [a1]) = some (d, ps) := hf
    obtain ⟨y0, y1, n, h0, h1⟩ := trod_pair Tryz.underlying26 cellsI rfl rfl hf'
    obtain ⟨p, e0, _, w0⟩ := DataW.trod_int Tryz.underlying3 h0
    obtain ⟨q, e1, _, w1⟩ := DataW.trod_int Tryz.underlying3 h1
    simp only [List.cons.injEq, and_true] at e0 e1
    subst e0 e1
    exact ⟨p, q, rfl, w0, w1⟩
end
end Go.Proofs.YtaoggmfedocfeaaGreatDoor
