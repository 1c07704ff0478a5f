/-
  The document's own answers for package tag: what a subtag is.
-/
import Derived.Test.YtajdfckppnedjaaBKit
import Derived.Test.YtajdfckppnedjaaDSame
namespace Go.Proofs.Ytajdfckppnedjaa
open Go Go.RowKit

def lettersS (s : ByteArray) (lo hi : Nat) : Bool := alphaS s && (decide (lo ≤ s.size) && decide (s.size ≤ hi))
def languageS (s : ByteArray) : Bool := lettersS s 2 8
def extlangS (s : ByteArray) : Bool := lettersS s 3 3
def scriptS (s : ByteArray) : Bool := lettersS s 4 4
def regionS (s : ByteArray) : Bool := lettersS s 2 2 || (decide (s.size = 3) && digitS s)
def variantS (s : ByteArray) : Bool := alnumS s && ((decide (5 ≤ s.size) && decide (s.size ≤ 8)) || (decide (s.size = 4) && ((bs s).head?.map isD).getD false))
def singletonS (s : ByteArray) : Bool := decide (s.size = 1) && (alnumS s && (!decide (s = ⟨#[120]⟩) && !decide (s = ⟨#[88]⟩)))

theorem class_two (s : ByteArray) : (classS s == 2) = digitS s := by
  obtain ⟨c, a, d, n, h⟩ := classIs s
  cases h with
  | none h0 h1 h2 h3 => rw [h0, h2]; rfl
  | alpha h0 h1 h2 h3 => rw [h0, h2]; rfl
  | digit h0 h1 h2 h3 => rw [h0, h2]; rfl
  | alnum h0 h1 h2 h3 => rw [h0, h2]; rfl
theorem class_not0 (s : ByteArray) : (classS s == 0) = !alnumS s := by
  obtain ⟨c, a, d, n, h⟩ := classIs s
  cases h with
  | none h0 h1 h2 h3 => rw [h0, h3]; rfl
  | alpha h0 h1 h2 h3 => rw [h0, h3]; rfl
  | digit h0 h1 h2 h3 => rw [h0, h3]; rfl
  | alnum h0 h1 h2 h3 => rw [h0, h3]; rfl
theorem class_pos0 (s : ByteArray) : decide ((0 : Int) < classS s) = alnumS s := by
  obtain ⟨c, a, d, n, h⟩ := classIs s
  cases h with
  | none h0 h1 h2 h3 => rw [h0, h3]; rfl
  | alpha h0 h1 h2 h3 => rw [h0, h3]; rfl
  | digit h0 h1 h2 h3 => rw [h0, h3]; rfl
  | alnum h0 h1 h2 h3 => rw [h0, h3]; rfl
theorem head_of (s : ByteArray) (h : 0 < s.size) : (bs s).head? = some s[0] := by
  show s.data.toList.head? = some s.data[0]
  rw [List.head?_eq_getElem?]
  simp
end Go.Proofs.Ytajdfckppnedjaa
