/-
  What the rows of layer 4's statements need beside RowKit: a row of texts that came in.
-/
import Derived.Test.YtbkbnkpgldemkaaGreatDoorRowKit
import Derived.SliceStrings
namespace Go.Proofs.YtbkbnkpgldemkaaGreatDoor
open Go.ChangeShapes Go.WideShapes Go.ChangeAt Go.RowKit Go.Deep

/-- A row of texts that came in, as the walks are told it. -/
def TextsIn (W : World) (v : Value) (l : List ByteArray) : Prop :=
  (v = .slice none 0 0 ∧ l = []) ∨ ∃ a cap, v = .slice (some a) l.length cap ∧ l.length ≤ cap ∧ cap ≤ maxLen ∧ ∀ i x, l[i]? = some x → W.cell? (a.add i) = some (.string x) ∧ x.size ≤ maxLen

section
variable {H : Type} {enc : TypeId × Value → H} {w : World} {base : Nat} {spare : Nat → Bool} {held : Bool}
theorem open_texts {fuel : Nat} {a0 : Option Addr} {len cap : Nat} {x : DataW H × List MemPlace} (h : DataW.trod enc Tryz.prog w base spare held fuel 22 [.slice a0 len cap] = some x) :
    ∃ l, TextsIn w (.slice a0 len cap) l := by
  rcases open_strings Tryz.underlying22 Tryz.underlying9 (by kernel_rfl) h with ⟨hcs, _⟩ | ⟨a, len', cap', ss, hcs, _, hl, hm, hlen, _, hc, hs⟩
  · simp at hcs
    obtain ⟨rfl, rfl, rfl⟩ := hcs
    exact ⟨[], .inl ⟨rfl, rfl⟩⟩
  · simp at hcs
    obtain ⟨rfl, rfl, rfl⟩ := hcs
    have hle : len ≤ ss.length := by rw [hlen]; split <;> omega
    have htl : (ss.take len).length = len := by rw [List.length_take]; omega
    refine ⟨ss.take len, .inr ⟨a, cap, by rw [htl], by omega, hm, fun i y hy => ?_⟩⟩
    obtain ⟨hi, he⟩ := List.getElem?_eq_some_iff.1 hy
    rw [htl] at hi
    rw [List.getElem_take] at he
    have e2 : ss.getD i ByteArray.empty = y := by rw [← he, List.getD_eq_getElem?_getD, List.getElem?_eq_getElem (by omega)]; rfl
    exact ⟨by rw [← e2]; exact hc i (by omega), by rw [← he]; exact hs _ (List.getElem_mem _)⟩
end
end Go.Proofs.YtbkbnkpgldemkaaGreatDoor
