/-
  Rows of three and of four ints as arguments: opened, and shut again.
-/
import Derived.Test.YtbkbnkpgldemkaaGreatDoorRows
import Derived.Laws.IdiomArrays
import Derived.ProofKit
import Derived.OpenShut
namespace Go.Proofs.YtbkbnkpgldemkaaGreatDoor
open Go.ChangeShapes Go.WideShapes Go.RowKit

theorem cellsI : Tryz.prog.cellsOf 3 = 1 := by kernel_rfl
theorem cellsA4 : Tryz.prog.cellsOf 23 = 4 := by kernel_rfl
set_option maxRecDepth 100000 in
theorem open_arr4 {H : Type} {enc : TypeId × Value → H} {w : World} {r : Reach} {b0 base : Nat} {sp : Nat → Bool} {held : Bool} {v : Value} {d : DataW H} {ps : List MemPlace}
    (hval : Value.okWide Tryz.prog w r b0 23 v) (hd : DataW.Trod enc Tryz.prog w base sp held 23 v d ps) :
    ∃ a b c e : Int, v = .agg #[.int .i64 a, .int .i64 b, .int .i64 c, .int .i64 e] ∧ d = .agg [.lit (.int .i64 a), .lit (.int .i64 b), .lit (.int .i64 c), .lit (.int .i64 e)] ∧ ps = [] ∧ (Lit.int .i64 a).wf = true ∧ (Lit.int .i64 b).wf = true ∧ (Lit.int .i64 c).wf = true ∧ (Lit.int .i64 e).wf = true := by
  have ht := Tryz.underlying23
  obtain ⟨cs, rfl, hsz⟩ : ∃ cs, v = .agg cs ∧ cs.size = Tryz.prog.cellsOf 23 := by
    unfold Value.okWide at hval
    rw [ht] at hval
    obtain ⟨cs, h1, h2, _⟩ := hval
    exact ⟨cs, h1, h2⟩
  rw [cellsA4] at hsz
  obtain ⟨c0, c1, c2, c3, rfl⟩ : ∃ c0 c1 c2 c3, cs = #[c0, c1, c2, c3] := by
    obtain ⟨l⟩ := cs
    match l, hsz with
    | [c0, c1, c2, c3], _ => exact ⟨c0, c1, c2, c3, rfl⟩
  obtain ⟨fuel, hf⟩ := hd
  have hf' : DataW.trod enc Tryz.prog w base sp held fuel 23 [c0, c1, c2, c3] = some (d, ps) := hf
  obtain ⟨y0, y1, y2, y3, n, hx, h0, h1, h2, h3⟩ := trod_array4 ht cellsI hf'
  obtain ⟨a, e0, rfl, w0⟩ := DataW.trod_int Tryz.underlying3 h0
  obtain ⟨b, e1, rfl, w1⟩ := DataW.trod_int Tryz.underlying3 h1
  obtain ⟨c, e2, rfl, w2⟩ := DataW.trod_int Tryz.underlying3 h2
  obtain ⟨z, e3, rfl, w3⟩ := DataW.trod_int Tryz.underlying3 h3
  simp only [List.cons.injEq, and_true] at e0 e1 e2 e3
  subst e0 e1 e2 e3
  simp only [Prod.mk.injEq] at hx
  exact ⟨a, b, c, z, rfl, hx.1, hx.2, w0, w1, w2, w3⟩
set_option maxRecDepth 100000 in
theorem shut_arr4 {H : Type} {enc : TypeId × Value → H} {w : World} {base : Nat} {sp : Nat → Bool} {held : Bool} {a b c z : Int} (h0 : (Lit.int .i64 a).wf = true) (h1 : (Lit.int .i64 b).wf = true) (h2 : (Lit.int .i64 c).wf = true) (h3 : (Lit.int .i64 z).wf = true) :
    DataW.Trod enc Tryz.prog w base sp held 23 (.agg #[.int .i64 a, .int .i64 b, .int .i64 c, .int .i64 z]) (.agg [.lit (.int .i64 a), .lit (.int .i64 b), .lit (.int .i64 c), .lit (.int .i64 z)]) [] := by
  have ht := Tryz.underlying23
  have he := Tryz.underlying3
  refine ⟨2, ?_⟩
  show DataW.trod enc Tryz.prog w base sp held 2 23 [.int .i64 a, .int .i64 b, .int .i64 c, .int .i64 z] = _
  have r3 : List.range 4 = [0, 1, 2, 3] := rfl
  have key : ∀ x, (Lit.int .i64 x).wf = true → DataW.trod enc Tryz.prog w base sp held 1 3 [.int .i64 x] = some (.lit (.int .i64 x), []) := fun x hz => trod_int_mk 0 he hz
  unfold DataW.trod
  rw [ht]
  simp [r3, cellsI, cellsA4, key a h0, key b h1, key c h2, key z h3]

end Go.Proofs.YtbkbnkpgldemkaaGreatDoor
