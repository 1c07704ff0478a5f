/-
  Layer 11's arguments: rows of texts that came in; a row of two ints opened and shut.
-/
import Derived.Test.YtbkbnkpgldemkaaGreatDoorDRowKit
import Derived.Test.YtbkbnkpgldemkaaGreatDoorWMem
namespace Go.Proofs.YtbkbnkpgldemkaaGreatDoor
open Go.ChangeShapes Go.WideShapes Go.RowKit

theorem rowW_texts {W : World} {v : Value} {l : List ByteArray} (h : TextsIn W v l) : RowW W v l ∧ ∀ x ∈ l, x.size ≤ maxLen := by
  rcases h with ⟨rfl, rfl⟩ | ⟨a, cap, rfl, h1, h2, h3⟩
  · exact ⟨RowW.nil W 0, fun x hx => by simp at hx⟩
  · refine ⟨⟨some a, cap, rfl, fun i x hx => ?_⟩, fun x hx => ?_⟩
    · have hc := (h3 i x hx).1
      have h0 : ∃ y, l[0]? = some y := ⟨_, List.getElem?_eq_getElem (by have := (List.getElem?_eq_some_iff.1 hx).1; omega)⟩
      obtain ⟨y, hy⟩ := h0
      have hc0 := (h3 0 y hy).1
      obtain ⟨b, o, spot⟩ := a
      have hsp : spot = none := by
        cases spot with
        | none => rfl
        | some z =>
          have e : ((⟨b, o, some z⟩ : Addr).add 0) = ⟨b, o, some z⟩ := rfl
          rw [e] at hc0
          unfold World.cell? at hc0
          simp at hc0
          split at hc0 <;> cases hc0
      subst hsp
      rw [Go.WideShapes.add_plain] at hc
      exact ⟨b, o, rfl, hc⟩
    · obtain ⟨i, hi⟩ := List.getElem?_of_mem hx
      exact (h3 i x hi).2

section
variable {H : Type} {enc : TypeId × Value → H} {P : Program} {w : World} {base : Nat} {spare : Nat → Bool} {held : Bool}
theorem trod_array2 {t e : TypeId} {fuel : Nat} {c0 c1 : Value} {x : DataW H × List MemPlace} (ht : P.underlying t = some (.array 2 e)) (hce : P.cellsOf e = 1)
    (h : DataW.trod enc P w base spare held fuel t [c0, c1] = some x) :
    ∃ y0 y1 n, x = (.agg [y0.1, y1.1], y0.2 ++ y1.2) ∧ DataW.trod enc P w base spare held n e [c0] = some y0 ∧ DataW.trod enc P w base spare held n e [c1] = some y1 := by
  cases fuel with
  | zero => simp [DataW.trod] at h
  | succ n =>
    unfold DataW.trod at h
    rw [ht] at h
    have r2 : List.range 2 = [0, 1] := rfl
    simp [r2, hce] at h
    obtain ⟨_, h⟩ := h
    cases h0 : DataW.trod enc P w base spare held n e [c0] with
    | none => simp [h0] at h
    | some y0 =>
      cases h1 : DataW.trod enc P w base spare held n e [c1] with
      | none => simp [h0, h1] at h
      | some y1 =>
        simp [h0, h1] at h
        exact ⟨y0, y1, n, h.symm, h0, h1⟩
end
theorem cellsIW : Tryz.prog.cellsOf 3 = 1 := by kernel_rfl
end Go.Proofs.YtbkbnkpgldemkaaGreatDoor
