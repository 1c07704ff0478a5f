/-
  Package parse: what read defers: it takes over what ended the reading. Package parse: read: all pieces, up to the first that is wrong. Package parse: read, walked.
-/
import Derived.Test.YtpnhjpplfjamkaaPTaken
import Derived.Test.YtpnhjpplfjamkaaPiece
import Derived.Test.YtpnhjpplfjamkaaSeqs
import Derived.DefersIn
import Derived.Test.YtpnhjpplfjamkaaWAll
import Derived.RecoverIn
import Derived.Defers
import Derived.Recover
/-! Package parse: what read defers: it takes over what ended the reading. -/
namespace Go.Proofs.Ytpnhjpplfjamkaa
open Go Go.RowKit

end Go.Proofs.Ytpnhjpplfjamkaa

/-! Package parse: read: all pieces, up to the first that is wrong. -/
namespace Go.Proofs.Ytpnhjpplfjamkaa
open Go Go.RowKit

section
variable {F : Fence} {n : Nat} {P : Program}
end

/-! What is known of the reading so far. -/
theorem runP_append : ∀ (a b : List (Nat × ByteArray)) (st : PSt), runP (a ++ b) st = match runP a st with
    | (st', none) => runP b st'
    | (st', some e) => (st', some e)
  | [], b, st => rfl
  | x :: r, b, st => by
    simp only [List.cons_append, runP]
    cases h : takeP st x.1 (lowS x.2) with
    | error e => rfl
    | ok st' => exact runP_append r b _
theorem take_s0 {st st' : PSt} {a : Nat} {p : ByteArray} (h6 : st.stage ≤ 6) (ht : takeP st a p = .ok st') : st'.stage ≠ 0 ∧ st'.stage ≤ 6 := by
  unfold takeP furtherP at ht
  repeat' split at ht
  all_goals first
    | (cases ht; done)
    | (injection ht with ht; subst ht; first | (unfold extendP; constructor <;> dsimp only <;> omega) | (constructor <;> dsimp only <;> first | omega | (split <;> omega)))
theorem runP_good : ∀ (pre : List (Nat × ByteArray)) (st : PSt) (k : Nat) (st' : PSt), PInv k st → (st.stage = 0 → st.must = false) → st.stage ≤ 6 → runP pre st = (st', none) → PInv (k + pre.length) st' ∧ (st'.stage = 0 → st'.must = false) ∧ st'.stage ≤ 6
  | [], st, k, st', h, h0, h6, e => by
    simp only [runP, Prod.mk.injEq, and_true] at e
    subst e
    exact ⟨h, h0, h6⟩
  | x :: r, st, k, st', h, h0, h6, e => by
    simp only [runP] at e
    cases ht : takeP st x.1 (lowS x.2) with
    | error _ => rw [ht] at e; simp at e
    | ok s2 =>
      rw [ht] at e
      obtain ⟨q1, q2⟩ := take_s0 h6 ht
      have hs : (endP s2 x.1 x.2.size).stage = s2.stage := by unfold endP; split <;> rfl
      have := runP_good r _ (k + 1) st' ((h.take ht).ended x.1 x.2.size) (fun e => absurd (hs ▸ e) q1) (hs ▸ q2) e
      rw [List.length_cons]
      exact ⟨by have q := this.1; rwa [show k + 1 + r.length = k + (r.length + 1) by omega] at q, this.2⟩
section
variable {w w' : World} {N B M : Nat} {st : PSt}
end
theorem lowB_dash : ∀ c : UInt8, lowB c = 45 → c = 45 := byte_all (fun c => lowB c = 45 → c = 45) (by decide +kernel)
/-! Where the reading begins. -/
end Go.Proofs.Ytpnhjpplfjamkaa

/-! Package parse: read, walked. -/
namespace Go.Proofs.Ytpnhjpplfjamkaa
open Go Go.RowKit

attribute [local go_sem] Oper.semAt_some

/-! How read is left: by what ended the reading, or at its end. -/
theorem own_same {W W' : World} {base : Nat} {e : TypeId} {sz n : Nat} {v : Value} {xs : List Value} (h : W.ownsRow base e sz v n xs) (hk : ∀ k, base ≤ k → (∃ o, W.heap[k]? = some o ∧ o.isCells = true) → W'.heap[k]? = W.heap[k]?) : W'.ownsRow base e sz v n xs := by
  refine ⟨h.1, ?_⟩
  rcases h.2 with h2 | ⟨g, c, cur, h1, h2, h3, h4⟩
  · exact .inl h2
  · exact .inr ⟨g, c, cur, h1, h2, (hk g h2 ⟨_, h3, rfl⟩).trans h3, h4⟩
end Go.Proofs.Ytpnhjpplfjamkaa
