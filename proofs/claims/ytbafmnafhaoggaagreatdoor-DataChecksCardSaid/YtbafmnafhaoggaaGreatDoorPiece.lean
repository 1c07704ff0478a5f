/-
  A function that holds a label, inside a fence: the scope is passed where no goto leaves it. No program is named here. strings.IndexByte and strings.LastIndexByte of the mark; package split: single, Trim. Package split: single, Trim. Package split: Each and its iterator. Package split: Split. The document's Same: are two rows of texts the same? Package split: Check; what Kind, Place and Whats tell of its error. The statements' own (layer 4): awake and short. What the laws of layer 4 share: contracts that go on from the start of the law.
-/
import Derived.TacticsIn
import Derived.WalkMore
import Derived.Test.YtbafmnafhaoggaaGreatDoorSeqs
import Derived.Test.YtbafmnafhaoggaaGreatDoorBMaths
import Derived.Test.YtbafmnafhaoggaaGreatDoorBase
import Derived.Lib.Walk
import Derived.Lib.Strings
import Derived.BigGuard
import Derived.BigQuiet
import Derived.Deep.QuietTactic
import Derived.OwnWalkIn
import Derived.OneCell
import Derived.TacticsInMore
import Derived.LoopNIn
import Derived.LoopIn
import Derived.Test.YtbafmnafhaoggaaGreatDoorFault
/-! A function that holds a label, inside a fence: the scope is passed where no goto leaves it. No program is named here. -/
namespace Go.Proofs.YtbafmnafhaoggaaGreatDoor
open Go

variable {F : Fence} {n : Nat} {P : Program} {b : Frame} {a : Act} {k : List Go.Item} {cs : List Frame} {w : World} {Q : Exit → Act → World → Prop}

end Go.Proofs.YtbafmnafhaoggaaGreatDoor

/-! strings.IndexByte and strings.LastIndexByte of the mark; package split: single, Trim. -/
namespace Go.Proofs.YtbafmnafhaoggaaGreatDoor
open Go Go.RowKit

end Go.Proofs.YtbafmnafhaoggaaGreatDoor

/-! Package split: single, Trim. -/
namespace Go.Proofs.YtbafmnafhaoggaaGreatDoor
open Go Go.RowKit

end Go.Proofs.YtbafmnafhaoggaaGreatDoor

/-! Package split: Each and its iterator. -/
namespace Go.Proofs.YtbafmnafhaoggaaGreatDoor
open Go Go.RowKit

attribute [local go_sem] Oper.semAt_some

end Go.Proofs.YtbafmnafhaoggaaGreatDoor

/-! Package split: Split. -/
namespace Go.Proofs.YtbafmnafhaoggaaGreatDoor
open Go Go.RowKit

attribute [local go_sem] Oper.semAt_some

end Go.Proofs.YtbafmnafhaoggaaGreatDoor

/-! The document's Same: are two rows of texts the same? -/
namespace Go.Proofs.YtbafmnafhaoggaaGreatDoor
open Go Go.RowKit

end Go.Proofs.YtbafmnafhaoggaaGreatDoor

/-! Package split: Check; what Kind, Place and Whats tell of its error. -/
namespace Go.Proofs.YtbafmnafhaoggaaGreatDoor
open Go Go.RowKit

attribute [local go_sem] Oper.semAt_some

/-- What Check tells of a text: nothing, or a fault in a block of its own. -/
def ErrIs (W : World) (s : ByteArray) (v : Value) : Prop :=
  (chkS s = none ∧ v = .nilIface) ∨ ∃ a b : Nat, chkS s = some a ∧ v = .iface 126 (.pointer (some ⟨b, 0, none⟩)) ∧ W.heap[b]? = some (faultObj a ⟨#[115, 117, 98, 116, 97, 103]⟩ (.iface 63 (.int .i64 10)))
theorem ErrIs.below {W W' : World} {s : ByteArray} {v : Value} (h : ErrIs W s v) (hb : Below W.heap.size W W') : ErrIs W' s v := by
  rcases h with h | ⟨a, b, h1, h2, h3⟩
  · exact .inl h
  · exact .inr ⟨a, b, h1, h2, (hb.block b (Array.getElem?_eq_some_iff.1 h3).1).trans h3⟩

/- What is told of it. -/
end Go.Proofs.YtbafmnafhaoggaaGreatDoor

/-! The statements' own (layer 4): awake and short. -/
namespace Go.Proofs.YtbafmnafhaoggaaGreatDoor
open Go Go.RowKit

end Go.Proofs.YtbafmnafhaoggaaGreatDoor

/-! What the laws of layer 4 share: contracts that go on from the start of the law. -/
namespace Go.Proofs.YtbafmnafhaoggaaGreatDoor
open Go Go.RowKit

end Go.Proofs.YtbafmnafhaoggaaGreatDoor
