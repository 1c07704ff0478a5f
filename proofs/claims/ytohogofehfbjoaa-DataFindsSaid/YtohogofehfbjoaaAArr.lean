/-
  A row of three texts as an argument: opened, and shut again.
-/
import Derived.Test.YtohogofehfbjoaaRows
import Derived.Laws.IdiomArrays
import Derived.ProofKit
import Derived.OpenShut
namespace Go.Proofs.Ytohogofehfbjoaa
open Go.ChangeShapes Go.WideShapes Go.RowKit

theorem cellsT3 : Try.prog.cellsOf 22 = 3 := by kernel_rfl
theorem cellsT1 : Try.prog.cellsOf 9 = 1 := by kernel_rfl
set_option maxRecDepth 100000 in
theorem open_strs3 {H : Type} {enc : TypeId × Value → H} {w : World} {r : Reach} {b0 base : Nat} {sp : Nat → Bool} {held : Bool} {v : Value} {d : DataW H} {ps : List MemPlace}
    (hval : Value.okWide Try.prog w r b0 22 v) (hd : DataW.Trod enc Try.prog w base sp held 22 v d ps) :
    ∃ a b c : ByteArray, v = .agg #[.string a, .string b, .string c] ∧ d = .agg [.lit (.string a.data.toList), .lit (.string b.data.toList), .lit (.string c.data.toList)] ∧ ps = [] ∧ a.size ≤ maxLen ∧ b.size ≤ maxLen ∧ c.size ≤ maxLen := by
  have ht := Try.underlying22
  obtain ⟨cs, rfl, hsz⟩ : ∃ cs, v = .agg cs ∧ cs.size = Try.prog.cellsOf 22 := by
    unfold Value.okWide at hval
    rw [ht] at hval
    obtain ⟨cs, h1, h2, _⟩ := hval
    exact ⟨cs, h1, h2⟩
  rw [cellsT3] at hsz
  obtain ⟨c0, c1, c2, rfl⟩ : ∃ c0 c1 c2, cs = #[c0, c1, c2] := by
    obtain ⟨l⟩ := cs
    match l, hsz with
    | [c0, c1, c2], _ => exact ⟨c0, c1, c2, rfl⟩
  obtain ⟨fuel, hf⟩ := hd
  have hf' : DataW.trod enc Try.prog w base sp held fuel 22 [c0, c1, c2] = some (d, ps) := hf
  obtain ⟨y0, y1, y2, n, hx, h0, h1, h2⟩ := trod_array3 ht cellsT1 hf'
  obtain ⟨a, e0, rfl, w0⟩ := DataW.trod_string Try.underlying9 h0
  obtain ⟨b, e1, rfl, w1⟩ := DataW.trod_string Try.underlying9 h1
  obtain ⟨c, e2, rfl, w2⟩ := DataW.trod_string Try.underlying9 h2
  simp only [List.cons.injEq, and_true] at e0 e1 e2
  subst e0 e1 e2
  simp only [Prod.mk.injEq] at hx
  exact ⟨a, b, c, rfl, hx.1, hx.2, w0, w1, w2⟩
set_option maxRecDepth 100000 in
theorem shut_strs3 {H : Type} {enc : TypeId × Value → H} {w : World} {base : Nat} {sp : Nat → Bool} {held : Bool} {a b c : ByteArray} (h0 : a.size ≤ maxLen) (h1 : b.size ≤ maxLen) (h2 : c.size ≤ maxLen) :
    DataW.Trod enc Try.prog w base sp held 22 (.agg #[.string a, .string b, .string c]) (.agg [.lit (.string a.data.toList), .lit (.string b.data.toList), .lit (.string c.data.toList)]) [] := by
  have ht := Try.underlying22
  have he := Try.underlying9
  refine ⟨2, ?_⟩
  show DataW.trod enc Try.prog w base sp held 2 22 [.string a, .string b, .string c] = _
  have r3 : List.range 3 = [0, 1, 2] := rfl
  have key : ∀ z : ByteArray, z.size ≤ maxLen → DataW.trod enc Try.prog w base sp held 1 9 [.string z] = some (.lit (.string z.data.toList), []) := fun z hz => by unfold DataW.trod; rw [he]; simp [hz]
  unfold DataW.trod
  rw [ht]
  simp [r3, cellsT1, cellsT3, key a h0, key b h1, key c h2]
end Go.Proofs.Ytohogofehfbjoaa
