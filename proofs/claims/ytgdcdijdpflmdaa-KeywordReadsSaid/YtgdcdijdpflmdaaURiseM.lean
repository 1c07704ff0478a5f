/-
  Where a thing is put into what rises (mathematics).
-/
import Derived.Test.YtgdcdijdpflmdaaUMath
namespace Go.Proofs.Ytgdcdijdpflmdaa
open Go

section
variable {α : Type} (f : α → ByteArray)
theorem insBy_new {l : List α} {x : α} {n : Nat} (hn : n ≤ l.length) (h1 : ∀ i y, i < n → l[i]? = some y → ltS (f y) (f x) = true) (h2 : ∀ y, l[n]? = some y → ltS (f y) (f x) = false ∧ f y ≠ f x) : insBy f x l = l.take n ++ (x :: l.drop n) := by
  induction l generalizing n with
  | nil => simp at hn; subst hn; rfl
  | cons y r ih =>
    unfold insBy
    cases n with
    | zero =>
      obtain ⟨q1, q2⟩ := h2 y rfl
      rw [if_neg (by rw [q1]; decide), if_neg q2]
      rfl
    | succ n =>
      rw [if_pos (h1 0 y (by omega) rfl), ih (n := n) (by simp at hn; omega) (fun i z hi hz => h1 (i + 1) z (by omega) (by simpa using hz)) (fun z hz => h2 z (by simpa using hz))]
      rfl
theorem insBy_old {l : List α} {x y : α} {n : Nat} (h1 : ∀ i y, i < n → l[i]? = some y → ltS (f y) (f x) = true) (hy : l[n]? = some y) (h2 : ltS (f y) (f x) = false) (h3 : f y = f x) : insBy f x l = l := by
  induction l generalizing n with
  | nil => simp at hy
  | cons z r ih =>
    unfold insBy
    cases n with
    | zero =>
      simp at hy
      subst hy
      rw [if_neg (by rw [h2]; decide), if_pos h3]
    | succ n =>
      rw [if_pos (h1 0 z (by omega) rfl), ih (n := n) (fun i q hi hq => h1 (i + 1) q (by omega) (by simpa using hq)) (by simpa using hy)]
theorem rise_next {l : List α} {k : Nat} {x : α} (hx : l[k]? = some x) : riseBy f (l.take (k + 1)) = insBy f x (riseBy f (l.take k)) := by
  obtain ⟨hk, rfl⟩ := List.getElem?_eq_some_iff.1 hx
  rw [List.take_succ_eq_append_getElem hk, riseBy_snoc]
theorem rise_take_len (l : List α) (k : Nat) : (riseBy f (l.take k)).length ≤ l.length := by
  have := rise_len f (l.take k)
  rw [List.length_take] at this
  omega
end
end Go.Proofs.Ytgdcdijdpflmdaa
