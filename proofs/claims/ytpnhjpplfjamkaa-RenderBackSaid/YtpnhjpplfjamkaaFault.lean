/-
  Package fault: an error's row as a list, and row's iterator. Package fault: the iterator that faults hands back: it ranges over row's. Package fault: Kind and Has of an error whose row is known. Package fault: Place of an error whose row is known. Package fault: Total of an error whose row is known. Package fault: Whats of an error whose row is known. Package fault: New and Wrap; and the chapter's example, asked of Kind, Place and Total. The statements' own function row: a row of items, cut to nine, their texts to twelve bytes.
-/
import Derived.Test.YtpnhjpplfjamkaaErr
import Derived.Test.YtpnhjpplfjamkaaSeqs
import Derived.OwnWalkIn
import Derived.LaidEqlPtr
import Derived.TacticsInMore
import Derived.LoopNIn
import Derived.LoopIn
import Derived.Shelf.Abstract
import Derived.OneCell
import Derived.RangeFuncBox
import Derived.Maps.AppendAt
import Derived.OwnWalk
import Derived.OrdersIn
import Derived.Deep.RegionHeld3
import Derived.Test.YtpnhjpplfjamkaaProg
import Derived.WalkKit
import Derived.Lib.Hide
import Derived.WalkSmall
import Derived.Laws.NewBlocks
/-! Package fault: an error's row as a list, and row's iterator. -/
namespace Go.Proofs.Ytpnhjpplfjamkaa
open Go Go.RowKit

attribute [local go_sem] Oper.semAt_some

/-- An error of a row: a number; a fault, its block, place and words; an error of another make, what lies within it. -/
inductive El where
  | num (k : Int)
  | fault (b : Nat) (p : Int) (s : ByteArray)
end Go.Proofs.Ytpnhjpplfjamkaa

/-! Package fault: the iterator that faults hands back: it ranges over row's. -/
namespace Go.Proofs.Ytpnhjpplfjamkaa
open Go Go.RowKit

attribute [local go_sem] Oper.semAt_some

end Go.Proofs.Ytpnhjpplfjamkaa

/-! Package fault: Kind and Has of an error whose row is known. -/
namespace Go.Proofs.Ytpnhjpplfjamkaa
open Go Go.RowKit

attribute [local go_sem] Oper.semAt_some

end Go.Proofs.Ytpnhjpplfjamkaa

/-! Package fault: Place of an error whose row is known. -/
namespace Go.Proofs.Ytpnhjpplfjamkaa
open Go Go.RowKit

attribute [local go_sem] Oper.semAt_some

end Go.Proofs.Ytpnhjpplfjamkaa

/-! Package fault: Total of an error whose row is known. -/
namespace Go.Proofs.Ytpnhjpplfjamkaa
open Go Go.RowKit

attribute [local go_sem] Oper.semAt_some

end Go.Proofs.Ytpnhjpplfjamkaa

/-! Package fault: Whats of an error whose row is known. -/
namespace Go.Proofs.Ytpnhjpplfjamkaa
open Go Go.RowKit

attribute [local go_sem] Oper.semAt_some

/-- append onto a row of the call's own, as one step of a region that draws its order, in whatever fence. -/
theorem stepIn_append {F : Fence} {n : Nat} {P : Program} {w : World} {ops : Array Oper} {o : Oper} {a : Act} {K : Act → World → Prop} {Q : Exit → Act → World → Prop} {E : Prop}
    (hg : o.guard = none) (s x : Operand) (t : TypeId) (hop : o.op = Op.call { callee := Callee.builtin Builtin.append, args := #[s, x], argTypes := #[t, t] })
    (base : Nat) (e : TypeId) (i : TypeInfo) (z : Value) (size bytes : Nat) (h1 : P.underlying t = some (.slice e)) (h2 : P.info? e = some i) (h3 : i.zero = some z) (h4 : i.size = size) (h5 : i.bytes = bytes) (h6 : z.cells.size = size) (h7 : 0 < size)
    (v : Value) (k : Nat) (xs : List Value) (hs : a.eval s = v) (hown : w.ownsRow base e size v k xs) (ad : Addr) (m c : Nat) (news : List Value) (hx : a.eval x = .slice (some ad) m c) (hn : news.length = m * size)
    (hc : ∀ j u, news[j]? = some u → w.cell? (ad.add j) = some u) (h1c : ∀ u ∈ news, u.oneCell' = true) (b1 : k + m ≤ maxLen) (b2 : (k + m) * bytes ≤ 140737488355328) (b3 : base ≤ w.heap.size)
    (hK : ∀ v' w', w'.ownsRow base e size v' (k + m) (xs ++ news) → w.grownBy w' v.ownBlock → K (a.put o.dst v') w') :
    if Region.wanted o (yielded ops a.tmps) = true then Oper.wpIn F n P o a w K Q else E := by
  have hw : Region.wanted o (yielded ops a.tmps) = true := by simp [Region.wanted, hg]
  rw [if_pos hw]
  obtain ⟨v', w', hrun, r1, r2, _⟩ := run_append_own (P := P) w base t o.type e i z size bytes h1 h2 h3 h4 h5 h6 h7 v k xs hown ad m c news hn hc h1c b1 b2 b3
  unfold Oper.wpIn
  refine ⟨?_, ?_⟩
  · simp [Oper.about, hop, resolve, Target.leads, Sem.run_pure]
  · rw [Oper.semAt_plain F _ _ (by rw [hop]; intro c hc'; cases hc')]
    simp [execOp, hop, resolve, invoke, builtin, hs, hx, hrun, Result.andThen]
    exact hK v' w' r1 r2

theorem stringInfo : (Try.prog.info? 9).map (fun i => (i.zero, i.size, i.bytes)) = some (some (.string ByteArray.empty), 1, 16) := by kernel_rfl

theorem ownFrom_row {β : Type} {B base : Nat} {e : TypeId} {sz : Nat} {v : Value} {n : Nat} {xs : List Value} : OwnFrom B (fun (_ : β) W => W.ownsRow base e sz v n xs) := fun _ X Y row hs hg hr => by
  refine hs.kept hg ?_
  rcases hs.2 with ⟨rfl, _⟩ | ⟨g, cap, cur, rfl, _, hb, _⟩
  · exact .inl rfl
  · refine .inr (fun e => ?_)
    obtain ⟨_, o, ho, hc⟩ := hr g e.symm
    rw [hb] at ho
    cases ho
    simp [Obj.isCells] at hc

/-- What a round of Whats may turn: rows of texts. -/
def frS : Obj → Bool
  | .cells _ t _ => t == 9
  | _ => false
theorem frS_cells (o : Obj) (h : frS o = true) : o.isCells = true := by
  cases o <;> first | rfl | cases h

theorem owns_shape0 {w : World} {B : Nat} {e : TypeId} {sz : Nat} {v : Value} {n : Nat} {xs : List Value} (h : w.ownsRow B e sz v n xs) : v = .slice none 0 0 ∨ ∃ g cap, v = .slice (some ⟨g, 0, none⟩) n cap := by
  rcases h.2 with ⟨h, _⟩ | ⟨g, cap, _, h, _⟩
  · exact .inl h
  · exact .inr ⟨g, cap, h⟩

end Go.Proofs.Ytpnhjpplfjamkaa

/-! Package fault: New and Wrap; and the chapter's example, asked of Kind, Place and Total. -/
namespace Go.Proofs.Ytpnhjpplfjamkaa
open Go Go.RowKit

end Go.Proofs.Ytpnhjpplfjamkaa

/-! The statements' own function row: a row of items, cut to nine, their texts to twelve bytes. -/
namespace Go.Proofs.Ytpnhjpplfjamkaa
open Go Go.RowKit

end Go.Proofs.Ytpnhjpplfjamkaa
