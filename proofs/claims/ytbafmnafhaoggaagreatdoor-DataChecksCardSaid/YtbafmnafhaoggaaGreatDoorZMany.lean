/-
  ImageMany: what its law needs, and its walk.
-/
import Derived.Test.YtbafmnafhaoggaaGreatDoorZEnc
import Derived.Test.YtbafmnafhaoggaaGreatDoorEKit
namespace Go.Proofs.YtbafmnafhaoggaaGreatDoor
open Go Go.RowKit

/-! Images with rules alone. -/
/-! The chapter's example. -/
/-! Rows of the call's own. -/
theorem flat_getZ {sz : Nat} : ∀ {L : List (List Value)} {i k : Nat} {c : List Value} {x : Value}, (∀ c ∈ L, c.length = sz) → L[i]? = some c → c[k]? = some x → (L.flatMap id)[i * sz + k]? = some x
  | [], i, k, c, x, _, h, _ => by simp at h
  | a :: t, 0, k, c, x, hs, h, hk => by
    simp at h; subst h
    rw [Nat.zero_mul, Nat.zero_add, List.flatMap_cons, List.getElem?_append_left (show k < (id a).length from (List.getElem?_eq_some_iff.1 hk).1)]
    exact hk
  | a :: t, i + 1, k, c, x, hs, h, hk => by
    have ha := hs a List.mem_cons_self
    rw [List.flatMap_cons, List.getElem?_append_right (by show a.length ≤ _; rw [ha, Nat.succ_mul]; omega)]
    have e : (i + 1) * sz + k - (id a).length = i * sz + k := by show (i + 1) * sz + k - a.length = _; rw [ha, Nat.succ_mul]; omega
    rw [e]
    exact flat_getZ (fun c hc => hs c (List.mem_cons_of_mem _ hc)) (by simpa using h) hk
theorem rowC_own {W : World} {base sz : Nat} {e : TypeId} {v : Value} {L : List (List Value)} (h : W.ownsRow base e sz v L.length (L.flatMap id)) (hs : ∀ c ∈ L, c.length = sz) : RowC W v sz L := by
  rcases owned_casesW h with ⟨rfl, h0⟩ | ⟨g, cap, rfl⟩
  · obtain rfl : L = [] := List.eq_nil_of_length_eq_zero h0
    exact RowC.nil _ _ _
  · refine ⟨_, _, rfl, fun i c hc => ⟨g, 0, rfl, fun k x hk => ?_⟩⟩
    have := h.cells rfl _ _ (flat_getZ hs hc hk)
    rw [Addr.add_lit, Nat.zero_add] at this
    rw [Nat.zero_add]
    exact this
/-! The law. -/
end Go.Proofs.YtbafmnafhaoggaaGreatDoor
