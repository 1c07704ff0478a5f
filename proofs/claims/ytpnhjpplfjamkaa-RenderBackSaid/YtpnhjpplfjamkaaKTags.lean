/-
  Tags that were made: what they are told by; how small they are.
-/
import Derived.Test.YtpnhjpplfjamkaaIMade
import Derived.Test.YtpnhjpplfjamkaaFSame
namespace Go.Proofs.Ytpnhjpplfjamkaa
open Go Go.RowKit

/-- A tag's value, cell by cell. -/
def TagAt (W : World) (b : Nat) (T : TagM) : Prop :=
  ∃ ae ac av vc ax xc ap pc, W.heap[b]? = some (.cells #[.string T.lang, .slice ae T.extl.length ac, .string T.script, .string T.region, .slice av T.vars.length vc, .slice ax T.exts.length xc, .slice ap T.priv.length pc, .string T.grand] 29 (0, 0)) ∧ TagIs W (.agg #[.string T.lang, .slice ae T.extl.length ac, .string T.script, .string T.region, .slice av T.vars.length vc, .slice ax T.exts.length xc, .slice ap T.priv.length pc, .string T.grand]) T
theorem TagAt.below {W W' : World} {b : Nat} {T : TagM} (h : TagAt W b T) (hb : Below W.heap.size W W') : TagAt W' b T := by
  obtain ⟨ae, ac, av, vc, ax, xc, ap, pc, h1, h2⟩ := h
  exact ⟨ae, ac, av, vc, ax, xc, ap, pc, (hb.block _ (lt_of_heap h1)).trans h1, h2.below hb⟩
structure TagTiny (T : TagM) : Prop where
  e : T.extl.length ≤ 8
  v : T.vars.length ≤ 8
  x : T.exts.length ≤ 8
  p : T.priv.length ≤ 8
  sl : T.lang.size ≤ 100
  ss : T.script.size ≤ 100
  sr : T.region.size ≤ 100
  sg : T.grand.size ≤ 100
  se : ∀ x ∈ T.extl, x.size ≤ 100
  sv : ∀ x ∈ T.vars, x.size ≤ 100
  sp : ∀ x ∈ T.priv, x.size ≤ 100
  sx : ∀ x ∈ T.exts, x.1.size ≤ 100 ∧ x.2.length ≤ 8 ∧ ∀ y ∈ x.2, y.size ≤ 100
theorem oneT_mem {s x : ByteArray} (h : x ∈ oneT s) : x = s := by unfold oneT at h; split at h <;> simp_all
theorem flat_lenT {m : Nat} : ∀ (l : List (ByteArray × List ByteArray)), (∀ x ∈ l, x.2.length ≤ m) → (l.flatMap extT).length ≤ (m + 1) * l.length
  | [], _ => by simp
  | a :: r, h => by
    rw [List.flatMap_cons, List.length_append, List.length_cons, Nat.mul_add, Nat.mul_one]
    have h1 := flat_lenT r (fun x hx => h x (List.mem_cons_of_mem _ hx))
    have h2 := h a (List.mem_cons_self ..)
    have h3 : (extT a).length = a.2.length + 1 := rfl
    omega
theorem tiny_len {T : TagM} (h : TagTiny T) : (subtagsT T).length ≤ 200 := by
  unfold subtagsT
  split
  · have h1 := oneT_len T.lang
    have h2 := oneT_len T.script
    have h3 := oneT_len T.region
    have h4 := flat_lenT T.exts (fun x hx => (h.sx x hx).2.1)
    have h5 : (privT T.priv).length ≤ T.priv.length + 1 := by unfold privT; split <;> simp
    have := h.e; have := h.v; have := h.x; have := h.p
    simp only [List.length_append]
    omega
  · have := splS_le T.grand
    have := h.sg
    omega
theorem tiny_sizes {T : TagM} (h : TagTiny T) : ∀ x ∈ subtagsT T, x.size ≤ 100 := by
  intro x hx
  unfold subtagsT at hx
  split at hx
  · simp only [List.mem_append] at hx
    rcases hx with (((((hx | hx) | hx) | hx) | hx) | hx) | hx
    · rw [oneT_mem hx]; exact h.sl
    · exact h.se x hx
    · rw [oneT_mem hx]; exact h.ss
    · rw [oneT_mem hx]; exact h.sr
    · exact h.sv x hx
    · obtain ⟨y, hy, hm⟩ := List.mem_flatMap.1 hx
      rcases List.mem_cons.1 hm with rfl | hm
      · exact (h.sx y hy).1
      · exact (h.sx y hy).2.2 x hm
    · unfold privT at hx
      split at hx
      · simp at hx
      · rcases List.mem_cons.1 hx with rfl | hx
        · decide
        · exact h.sp x hx
  · have := splS_size T.grand x hx
    have := h.sg
    omega
theorem TagTiny.fits {T : TagM} (h : TagTiny T) : TagFits T := ⟨by have := h.e; omega, by have := h.v; omega, by have := h.x; omega, fun x hx => by have := (h.sx x hx).2.1; omega, by have := h.p; omega, h.sg⟩
end Go.Proofs.Ytpnhjpplfjamkaa
