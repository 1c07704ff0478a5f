/-
  Arguments of layer 9's laws: rows of texts, keywords.
-/
import Derived.Test.YtgdcdijdpflmdaaKArgs
import Derived.Test.YtgdcdijdpflmdaaURead
namespace Go.Proofs.Ytgdcdijdpflmdaa
open Go.ChangeShapes Go.WideShapes Go.ChangeAt Go.ChangeMaps Go.RowKit

section
variable {H : Type} {enc : TypeId × Value → H} {w : World} {base : Nat} {spare : Nat → Bool} {held : Bool}
set_option maxRecDepth 100000 in
theorem open_row9 {r : Reach} {b0 : Nat} {v : Value} {d : DataW H} {ps : List MemPlace} (hval : Value.okWide Try.prog w r b0 26 v) (h : DataW.Trod enc Try.prog w base spare held 26 v d ps) : ∃ l, RowA w v l := by
  obtain ⟨a, n, c, rfl⟩ := okWide_slice Try.underlying26 hval
  obtain ⟨fuel, hf⟩ := h
  obtain ⟨v, l, h1, h2⟩ := open_texts6 hf
  have e : (Value.slice a n c).cells.toList = [.slice a n c] := rfl
  rw [e] at h1
  obtain rfl := (List.cons.inj h1).1
  exact ⟨l, h2⟩
set_option maxRecDepth 100000 in
theorem open_keys9 {r : Reach} {b0 : Nat} {v : Value} {d : DataW H} {ps : List MemPlace} (hval : Value.okWide Try.prog w r b0 41 v) (h : DataW.Trod enc Try.prog w base spare held 41 v d ps) : ∃ va vk A K, v = .agg #[va, vk] ∧ RowA w va A ∧ ExtA w vk K := by
  obtain ⟨cs, rfl, hsz⟩ := okWide_struct Try.underlying41 hval
  rw [show Try.prog.cellsOf 41 = 2 by kernel_rfl] at hsz
  obtain ⟨fuel, hf0⟩ := h
  obtain ⟨xs, n, _, _, _, hxl, hf⟩ := DataW.trod_struct Try.underlying41 hf0
  have hx2 : xs.length = 2 := hxl
  obtain ⟨l⟩ := cs
  match l, hsz with
  | [a0, a1], _ =>
    have f0 := hf 0 _ rfl
    have f1 := hf 1 _ rfl
    rw [List.getElem?_eq_getElem (by omega)] at f0 f1
    obtain ⟨v0, r0, g0, z0⟩ := open_texts6 f0
    have e0 : a0 = v0 := by
      have q : List.take (Try.prog.cellsOf 26) (List.drop 0 [a0, a1]) = [a0] := by rw [show Try.prog.cellsOf 26 = 1 by kernel_rfl]; rfl
      exact (List.cons.inj (q.symm.trans g0)).1
    obtain ⟨v1, r1, g1, z1⟩ := open_exts6 f1
    have e1 : a1 = v1 := by
      have q : List.take (Try.prog.cellsOf 27) (List.drop 1 [a0, a1]) = [a1] := by rw [show Try.prog.cellsOf 27 = 1 by kernel_rfl]; rfl
      exact (List.cons.inj (q.symm.trans g1)).1
    subst e0 e1
    exact ⟨_, _, r0, r1, rfl, z0, z1⟩
end
end Go.Proofs.Ytgdcdijdpflmdaa
