/-
  Layer 11's arguments: rows of texts that came in; a row of two ints opened and shut.
-/
import Derived.Test.YtbkbnkpgldemkaaDoorDRowKit
import Derived.Test.YtbkbnkpgldemkaaDoorWMem
namespace Go.Proofs.YtbkbnkpgldemkaaDoor
open Go.ChangeShapes Go.WideShapes Go.RowKit

theorem rowW_texts {W : World} {v : Value} {l : List ByteArray} (h : TextsIn W v l) : RowW W v l ∧ ∀ x ∈ l, x.size ≤ maxLen := by
  rcases h with ⟨rfl, rfl⟩ | ⟨a, cap, rfl, h1, h2, h3⟩
  · exact ⟨RowW.nil W 0, fun x hx => by simp at hx⟩
  · refine ⟨⟨some a, cap, rfl, fun i x hx => ?_⟩, fun x hx => ?_⟩
    · have hc := (h3 i x hx).1
      have h0 : ∃ y, l[0]? = some y := ⟨_, List.getElem?_eq_getElem (by have := (List.getElem?_eq_some_iff.1 hx).1; omega)⟩
      obtain ⟨y, hy⟩ := h0
      have hc0 := (h3 0 y hy).1
      obtain ⟨b, o, spot⟩ := a
      have hsp : spot = none := by
        cases spot with
        | none => rfl
        | some z =>
          have e : ((⟨b, o, some z⟩ : Addr).add 0) = ⟨b, o, some z⟩ := rfl
          rw [e] at hc0
          unfold World.cell? at hc0
          simp at hc0
          split at hc0 <;> cases hc0
      subst hsp
      rw [Go.WideShapes.add_plain] at hc
      exact ⟨b, o, rfl, hc⟩
    · obtain ⟨i, hi⟩ := List.getElem?_of_mem hx
      exact (h3 i x hi).2

section
variable {H : Type} {enc : TypeId × Value → H} {P : Program} {w : World} {base : Nat} {spare : Nat → Bool} {held : Bool}
theorem trod_array2 {t e : TypeId} {fuel : Nat} {c0 c1 : Value} {x : DataW H × List MemPlace} (ht : P.underlying t = some (.array 2 e)) (hce : P.cellsOf e = 1)
    (h : DataW.trod enc P w base spare held fuel t [c0, c1] = some x) :
    ∃ y0 y1 n, x = (.agg [y0.1, y1.1], y0.2 ++ y1.2) ∧ DataW.trod enc P w base spare held n e [c0] = some y0 ∧ DataW.trod enc P w base spare held n e [c1] = some y1 := by
  cases fuel with
  | zero => simp [DataW.trod] at h
  | succ n =>
    unfold DataW.trod at h
    rw [ht] at h
    have r2 : List.range 2 = [0, 1] := rfl
    simp [r2, hce] at h
    obtain ⟨_, h⟩ := h
    cases h0 : DataW.trod enc P w base spare held n e [c0] with
    | none => simp [h0] at h
    | some y0 =>
      cases h1 : DataW.trod enc P w base spare held n e [c1] with
      | none => simp [h0, h1] at h
      | some y1 =>
        simp [h0, h1] at h
        exact ⟨y0, y1, n, h.symm, h0, h1⟩
end
theorem cellsA2 : Tryd.prog.cellsOf 48 = 2 := by kernel_rfl
theorem cellsIW : Tryd.prog.cellsOf 3 = 1 := by kernel_rfl
set_option maxRecDepth 100000 in
theorem open_arr2 {H : Type} {enc : TypeId × Value → H} {w : World} {r : Reach} {b0 base : Nat} {sp : Nat → Bool} {held : Bool} {v : Value} {d : DataW H} {ps : List MemPlace}
    (hval : Value.okWide Tryd.prog w r b0 48 v) (hd : DataW.Trod enc Tryd.prog w base sp held 48 v d ps) :
    ∃ a b : Int, v = .agg #[.int .i64 a, .int .i64 b] ∧ d = .agg [.lit (.int .i64 a), .lit (.int .i64 b)] ∧ ps = [] ∧ (Lit.int .i64 a).wf = true ∧ (Lit.int .i64 b).wf = true := by
  have ht := Tryd.underlying48
  obtain ⟨cs, rfl, hsz⟩ : ∃ cs, v = .agg cs ∧ cs.size = Tryd.prog.cellsOf 48 := by
    unfold Value.okWide at hval
    rw [ht] at hval
    obtain ⟨cs, h1, h2, _⟩ := hval
    exact ⟨cs, h1, h2⟩
  rw [cellsA2] at hsz
  obtain ⟨c0, c1, rfl⟩ : ∃ c0 c1, cs = #[c0, c1] := by
    obtain ⟨l⟩ := cs
    match l, hsz with
    | [c0, c1], _ => exact ⟨c0, c1, rfl⟩
  obtain ⟨fuel, hf⟩ := hd
  have hf' : DataW.trod enc Tryd.prog w base sp held fuel 48 [c0, c1] = some (d, ps) := hf
  obtain ⟨y0, y1, n, hx, h0, h1⟩ := trod_array2 ht cellsIW hf'
  obtain ⟨a, e0, rfl, w0⟩ := DataW.trod_int Tryd.underlying3 h0
  obtain ⟨b, e1, rfl, w1⟩ := DataW.trod_int Tryd.underlying3 h1
  simp only [List.cons.injEq, and_true] at e0 e1
  subst e0 e1
  simp only [Prod.mk.injEq] at hx
  exact ⟨a, b, rfl, hx.1, hx.2, w0, w1⟩
set_option maxRecDepth 100000 in
theorem shut_arr2 {H : Type} {enc : TypeId × Value → H} {w : World} {base : Nat} {sp : Nat → Bool} {held : Bool} {a b : Int} (h0 : (Lit.int .i64 a).wf = true) (h1 : (Lit.int .i64 b).wf = true) :
    DataW.Trod enc Tryd.prog w base sp held 48 (.agg #[.int .i64 a, .int .i64 b]) (.agg [.lit (.int .i64 a), .lit (.int .i64 b)]) [] := by
  have ht := Tryd.underlying48
  have he := Tryd.underlying3
  refine ⟨2, ?_⟩
  show DataW.trod enc Tryd.prog w base sp held 2 48 [.int .i64 a, .int .i64 b] = _
  have r2 : List.range 2 = [0, 1] := rfl
  have key : ∀ x, (Lit.int .i64 x).wf = true → DataW.trod enc Tryd.prog w base sp held 1 3 [.int .i64 x] = some (.lit (.int .i64 x), []) := fun x hz => trod_int_mk 0 he hz
  unfold DataW.trod
  rw [ht]
  simp [r2, cellsIW, cellsA2, key a h0, key b h1]
end Go.Proofs.YtbkbnkpgldemkaaDoor
