/-
  Texts joined, plain.
-/
import Derived.Test.YtajdfckppnedjaaDKit
namespace Go.Proofs.Ytajdfckppnedjaa
open Go Go.RowKit

/-- Texts joined. -/
def joinS (l : List ByteArray) : ByteArray := ofL (joinP (l.map bs))

theorem joinP_len (m : Nat) (ps : List (List UInt8)) (h : ∀ p ∈ ps, p.length ≤ m) : (joinP ps).length ≤ (m + 1) * ps.length := by
  induction ps with
  | nil => simp [joinP_nil]
  | cons p r ih =>
    have hp := h p (by simp)
    cases r with
    | nil => rw [joinP_one]; simp; omega
    | cons q t =>
      have hi := ih (fun x hx => h x (List.mem_cons_of_mem _ hx))
      rw [joinP_cons _ (by simp), List.length_append, List.length_cons]
      show p.length + ((joinP (q :: t)).length + 1) ≤ (m + 1) * ((q :: t).length + 1)
      rw [Nat.mul_succ]
      omega
theorem map_bs_ofL (ps : List (List UInt8)) : (ps.map ofL).map bs = ps := by
  rw [List.map_map]
  conv => rhs; rw [← List.map_id ps]
  exact List.map_congr_left (fun x _ => bs_ofL x)
theorem join_split (s : ByteArray) : joinS (splS s) = s := by
  unfold joinS splS
  rw [map_bs_ofL, joinP_spl, ofL_bs]
theorem join_single (s : ByteArray) : joinS [s] = s := by
  show ofL (joinP [bs s]) = s
  rw [joinP_one, ofL_bs]

theorem one_cells (w : World) (x : ByteArray) : ∀ (i : Nat) (p : ByteArray), [x][i]? = some p → (w.alloc (.cells #[.string x] 9)).cell? ⟨w.heap.size, i, none⟩ = some (.string p) := by
  intro i p hp
  rcases i with _ | i
  · simp at hp; subst hp; rw [World.cell?_alloc_at _ _ _ _ (by simp)]; rfl
  · simp at hp
theorem own_cap {w : World} {base g n cap : Nat} {e : TypeId} {xs : List Value} (h : w.ownsRow base e 1 (.slice (some ⟨g, 0, none⟩) n cap) n xs) : n ≤ cap := by
  rcases h.2 with ⟨h, _⟩ | ⟨_, _, _, h, _, _, h2, _⟩
  · cases h
  · cases h; exact h2
end Go.Proofs.Ytajdfckppnedjaa
