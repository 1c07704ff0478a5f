/-
  Layer 12's arguments: aliases, seeds, rows of two of them or of two texts, two ints, opened. (Printed by wip/gen_yargs.py.)
-/
import Derived.Test.YthjfcfhibdpbnaaRows
import Derived.Test.YthjfcfhibdpbnaaYMades
import Derived.ProofKit
import Derived.OpenShut
import Derived.ChangeSame
import Derived.ChangeMaps5
import Derived.RowKit
import Derived.Carry
namespace Go.Proofs.Ythjfcfhibdpbnaa
open Go.ChangeShapes Go.WideShapes Go.ChangeAt Go.RowKit

set_option maxRecDepth 100000 in
theorem laidOut6 : laidOutB Try.prog = true := by kernel_rfl
section
variable {H : Type} {enc : TypeId × Value → H} {w : World} {base : Nat} {spare : Nat → Bool} {held : Bool}
theorem cellsI : Try.prog.cellsOf 3 = 1 := by kernel_rfl
theorem cellsSt : Try.prog.cellsOf 9 = 1 := by kernel_rfl
theorem int_at {fuel : Nat} {l : List Value} {a : Value} {x : DataW H × List MemPlace} (ha : l = [a]) (h : DataW.trod enc Try.prog w base spare held fuel 3 l = some x) : ∃ s, a = .int .i64 s ∧ (Lit.int .i64 s).wf = true := by
  rw [ha] at h
  obtain ⟨s, g, _, z⟩ := DataW.trod_int Try.underlying3 h
  exact ⟨s, (List.cons.inj g).1, z⟩
theorem str_at {fuel : Nat} {l : List Value} {a : Value} {x : DataW H × List MemPlace} (ha : l = [a]) (h : DataW.trod enc Try.prog w base spare held fuel 9 l = some x) : ∃ s, a = .string s ∧ s.size ≤ maxLen := by
  rw [ha] at h
  obtain ⟨s, g, _, z⟩ := DataW.trod_string Try.underlying9 h
  exact ⟨s, (List.cons.inj g).1, z⟩
theorem seed12_cells {fuel : Nat} {a0 a1 a2 a3 a4 a5 a6 : Value} {x : DataW H × List MemPlace} (h : DataW.trod enc Try.prog w base spare held fuel 57 [a0, a1, a2, a3, a4, a5, a6] = some x) : ∃ S : Sd, [a0, a1, a2, a3, a4, a5, a6] = [.int .i64 S.kind, .int .i64 S.a, .int .i64 S.b, .int .i64 S.l, .int .i64 S.s, .int .i64 S.r, .int .i64 S.odd] := by
  obtain ⟨xs, n, _, _, _, hxl, hf⟩ := DataW.trod_struct Try.underlying57 h
  have hx : xs.length = 7 := hxl
  have f0 := hf 0 _ rfl
  have f1 := hf 1 _ rfl
  have f2 := hf 2 _ rfl
  have f3 := hf 3 _ rfl
  have f4 := hf 4 _ rfl
  have f5 := hf 5 _ rfl
  have f6 := hf 6 _ rfl
  rw [List.getElem?_eq_getElem (by omega)] at f0 f1 f2 f3 f4 f5 f6
  obtain ⟨s0, e0, z0⟩ := int_at (a := a0) (show List.take (Try.prog.cellsOf 3) (List.drop 0 [a0, a1, a2, a3, a4, a5, a6]) = [a0] by rw [cellsI]; rfl) f0
  obtain ⟨s1, e1, z1⟩ := int_at (a := a1) (show List.take (Try.prog.cellsOf 3) (List.drop 1 [a0, a1, a2, a3, a4, a5, a6]) = [a1] by rw [cellsI]; rfl) f1
  obtain ⟨s2, e2, z2⟩ := int_at (a := a2) (show List.take (Try.prog.cellsOf 3) (List.drop 2 [a0, a1, a2, a3, a4, a5, a6]) = [a2] by rw [cellsI]; rfl) f2
  obtain ⟨s3, e3, z3⟩ := int_at (a := a3) (show List.take (Try.prog.cellsOf 3) (List.drop 3 [a0, a1, a2, a3, a4, a5, a6]) = [a3] by rw [cellsI]; rfl) f3
  obtain ⟨s4, e4, z4⟩ := int_at (a := a4) (show List.take (Try.prog.cellsOf 3) (List.drop 4 [a0, a1, a2, a3, a4, a5, a6]) = [a4] by rw [cellsI]; rfl) f4
  obtain ⟨s5, e5, z5⟩ := int_at (a := a5) (show List.take (Try.prog.cellsOf 3) (List.drop 5 [a0, a1, a2, a3, a4, a5, a6]) = [a5] by rw [cellsI]; rfl) f5
  obtain ⟨s6, e6, z6⟩ := int_at (a := a6) (show List.take (Try.prog.cellsOf 3) (List.drop 6 [a0, a1, a2, a3, a4, a5, a6]) = [a6] by rw [cellsI]; rfl) f6
  subst e0 e1 e2 e3 e4 e5 e6
  exact ⟨⟨s0, s1, s2, s3, s4, s5, s6⟩, rfl⟩
set_option maxRecDepth 100000 in
theorem cellsSeed : Try.prog.cellsOf 57 = 7 := by kernel_rfl
end
end Go.Proofs.Ythjfcfhibdpbnaa
