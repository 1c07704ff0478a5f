/-
  A region in a round, without a defer: as in no round. No program is named here.
-/
import Derived.Test.YtlpjdknmnomdlaaGreatDoorDSeq
import Derived.OrdersIn
namespace Go.Proofs.YtlpjdknmnomdlaaGreatDoor
open Go Go.RowKit

/-! A region in a round, without a defer: as in no round. -/
def noDefer (o : Oper) : Bool := match o.op with
  | .defer _ => false
  | _ => true
theorem wpIn_round {n l : Nat} {P : Program} {o : Oper} {a : Act} {w : World} {K : Act → World → Prop} {Q : Exit → Act → World → Prop} (hnd : noDefer o = true) (h : o.wpIn Fence.wide n P a w K Q) : o.wpIn (Fence.wide.inRound l) n P a w K Q := by
  have hd : ∀ c, o.op ≠ .defer c := fun c e => by unfold noDefer at hnd; rw [e] at hnd; cases hnd
  refine ⟨fun _ _ => trivial, ?_⟩
  have h2 := h.2
  rw [Oper.semAt_eq _ _ _ hd] at h2 ⊢
  generalize (execOp a.eval o).run P w = r at *
  cases r with
  | ok x w' => cases x <;> exact h2
  | halt x w' => exact h2
theorem wpAnyIn_round {n l : Nat} {P : Program} {md : Region.Mode} {ops : Array Oper} {Q : Exit → Act → World → Prop} (hnd : ops.toList.all noDefer = true) : ∀ (fuel : Nat) (listed : Array Bool) (a : Act) (w : World), wpAnyIn Fence.wide n P md ops Q fuel listed a w → wpAnyIn (Fence.wide.inRound l) n P md ops Q fuel listed a w
  | 0, _, _, _, h => h
  | fuel + 1, listed, a, w, h => by
    refine ⟨h.1, fun i hi => ?_⟩
    have h1 := h.2 i hi
    unfold wpOpIn at h1 ⊢
    cases ho : ops[i]? with
    | none =>
      simp only [ho] at h1 ⊢
      exact wpAnyIn_round hnd fuel _ _ _ h1
    | some o =>
      simp only [ho] at h1 ⊢
      have hm : o ∈ ops.toList := by
        rw [← Array.getElem?_toList] at ho
        exact List.mem_of_getElem? ho
      split
      · rename_i hw
        rw [if_pos hw] at h1
        exact wpIn_round ((List.all_eq_true.1 hnd) o hm) (Oper.wpIn_mono (fun a' w' h' => wpAnyIn_round hnd fuel _ a' w' h') h1)
      · rename_i hw
        rw [if_neg hw] at h1
        exact ⟨fun _ _ => trivial, wpAnyIn_round hnd fuel _ _ _ h1.2⟩
end Go.Proofs.YtlpjdknmnomdlaaGreatDoor
