/-
  ImageMany: what its law needs, and its walk.
-/
import Derived.Test.YthjfcfhibdpbnaaZParts
import Derived.Test.YthjfcfhibdpbnaaZHeads
import Derived.Test.YthjfcfhibdpbnaaEKit
namespace Go.Proofs.Ythjfcfhibdpbnaa
open Go Go.RowKit

/-! Images with rules alone. -/
def imR (l : List Rl) (th de : Int) : Im := ⟨[], [], l, [], th, de⟩
/-! The chapter's example. -/
theorem imS_nil (th de : Int) : ImS (imR [] th de) := ⟨fun x hx => by simp [imR] at hx, fun x hx => by simp [imR] at hx, fun x hx => by simp [imR] at hx, fun x hx => by simp [imR] at hx⟩
/-! Rows of the call's own. -/
theorem flat_getZ {sz : Nat} : ∀ {L : List (List Value)} {i k : Nat} {c : List Value} {x : Value}, (∀ c ∈ L, c.length = sz) → L[i]? = some c → c[k]? = some x → (L.flatMap id)[i * sz + k]? = some x
  | [], i, k, c, x, _, h, _ => by simp at h
  | a :: t, 0, k, c, x, hs, h, hk => by
    simp at h; subst h
    rw [Nat.zero_mul, Nat.zero_add, List.flatMap_cons, List.getElem?_append_left (show k < (id a).length from (List.getElem?_eq_some_iff.1 hk).1)]
    exact hk
  | a :: t, i + 1, k, c, x, hs, h, hk => by
    have ha := hs a List.mem_cons_self
    rw [List.flatMap_cons, List.getElem?_append_right (by show a.length ≤ _; rw [ha, Nat.succ_mul]; omega)]
    have e : (i + 1) * sz + k - (id a).length = i * sz + k := by show (i + 1) * sz + k - a.length = _; rw [ha, Nat.succ_mul]; omega
    rw [e]
    exact flat_getZ (fun c hc => hs c (List.mem_cons_of_mem _ hc)) (by simpa using h) hk
theorem rowC_own {W : World} {base sz : Nat} {e : TypeId} {v : Value} {L : List (List Value)} (h : W.ownsRow base e sz v L.length (L.flatMap id)) (hs : ∀ c ∈ L, c.length = sz) : RowC W v sz L := by
  rcases owned_casesW h with ⟨rfl, h0⟩ | ⟨g, cap, rfl⟩
  · obtain rfl : L = [] := List.eq_nil_of_length_eq_zero h0
    exact RowC.nil _ _ _
  · refine ⟨_, _, rfl, fun i c hc => ⟨g, 0, rfl, fun k x hk => ?_⟩⟩
    have := h.cells rfl _ _ (flat_getZ hs hc hk)
    rw [Addr.add_lit, Nat.zero_add] at this
    rw [Nat.zero_add]
    exact this
theorem cell_newsZ (W : World) (vs : List Value) (t : TypeId) : ∀ j u, vs[j]? = some u → (W.alloc (.cells vs.toArray t)).cell? ((⟨W.heap.size, 0, none⟩ : Addr).add j) = some u := by
  intro j u h
  rw [Addr.add_lit, Nat.zero_add]
  have hn : (W.alloc (.cells vs.toArray t)).heap[W.heap.size]? = some (.cells vs.toArray t (0, 0)) := World.alloc_heap_new W _
  exact cellAtY hn j u (by simp [h])

/-! The law. -/
theorem wf_fewZ {k : Int} (h : 0 ≤ k ∧ k ≤ 1000) : (Lit.int .i64 k).wf = true := by
  unfold Lit.wf
  rw [Bool.and_eq_true, decide_eq_true_iff, decide_eq_true_iff]
  have h1 : IntKind.min .i64 = -9223372036854775808 := by decide
  have h2 : IntKind.max .i64 = 9223372036854775807 := by decide
  omega
theorem rlC_all (l : List Rl) : ∀ c ∈ l.map rlC, c.length = 9 := by
  intro c hc
  obtain ⟨x, -, rfl⟩ := List.mem_map.1 hc
  rfl
theorem rlInfo : (Try.prog.info? 64).map (fun i => (i.zero, i.size, i.bytes)) = some (some (.agg #[.int .i64 0, .int .i64 0, .bool false, .string ByteArray.empty, .string ByteArray.empty, .string ByteArray.empty, .string ByteArray.empty, .string ByteArray.empty, .string ByteArray.empty]), 9, 120) := by kernel_rfl
end Go.Proofs.Ythjfcfhibdpbnaa
