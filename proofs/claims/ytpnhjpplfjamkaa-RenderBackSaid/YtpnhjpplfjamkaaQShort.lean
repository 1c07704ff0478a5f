/-
  Package render, in plain words: as much of a text as fits.
-/
import Derived.Test.YtpnhjpplfjamkaaQMath
namespace Go.Proofs.Ytpnhjpplfjamkaa
open Go Go.RowKit

/-- Where the pieces stand. -/
theorem placed_get : ∀ (ps : List (List UInt8)) (a k : Nat) (x : Nat × ByteArray), (placed a ps)[k]? = some x → x.1 + x.2.size = a + (joinP (ps.take (k + 1))).length ∧ (k = 0 → x.1 = a) ∧ (0 < k → a < x.1)
  | [], a, k, x, h => by simp [placed] at h
  | p :: r, a, 0, x, h => by
    simp [placed] at h
    subst h
    simp [joinP_one, size_ofL]
  | p :: r, a, k + 1, x, h => by
    simp only [placed, List.getElem?_cons_succ] at h
    obtain ⟨h1, h2, h3⟩ := placed_get r _ k x h
    have hr : r ≠ [] := by rintro rfl; simp [placed] at h
    refine ⟨?_, fun h => by omega, fun _ => ?_⟩
    · rw [h1, List.take_succ_cons, joinP_cons _ (by rw [ne_eq, List.take_eq_nil_iff]; rintro (h | h); omega; exact hr h)]
      simp
      omega
    · rcases Nat.eq_zero_or_pos k with hk | hk
      · have := h2 hk; omega
      · have := h3 hk; omega
theorem pieces_get {s : ByteArray} {k : Nat} {x : Nat × ByteArray} (h : (pieces s)[k]? = some x) : x.1 + x.2.size = (joinS ((splS s).take (k + 1))).size ∧ (k = 0 → x.1 = 0) ∧ (0 < k → 0 < x.1) ∧ (splS s)[k]? = some x.2 := by
  obtain ⟨h1, h2, h3⟩ := placed_get _ _ _ _ h
  refine ⟨?_, h2, h3, ?_⟩
  · rw [h1]
    unfold joinS splS
    rw [size_ofL, ← List.map_take, map_bs_ofL]
    omega
  · rw [← pieces_map, List.getElem?_map, h]; rfl
end Go.Proofs.Ytpnhjpplfjamkaa
