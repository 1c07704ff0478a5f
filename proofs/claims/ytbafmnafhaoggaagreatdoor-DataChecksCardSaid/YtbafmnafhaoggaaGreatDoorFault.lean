/-
  Package fault: an error's row as a list, and row's iterator. Package fault: the iterator that faults hands back: it ranges over row's. Package fault: Kind and Has of an error whose row is known. Package fault: Place of an error whose row is known. Package fault: Total of an error whose row is known. Package fault: Whats of an error whose row is known. Package fault: New and Wrap; and the chapter's example, asked of Kind, Place and Total. The statements' own function row: a row of items, cut to nine, their texts to twelve bytes.
-/
import Derived.Test.YtbafmnafhaoggaaGreatDoorErr
import Derived.Test.YtbafmnafhaoggaaGreatDoorSeqs
import Derived.OwnWalkIn
import Derived.LaidEqlPtr
import Derived.TacticsInMore
import Derived.LoopNIn
import Derived.LoopIn
import Derived.Shelf.Abstract
import Derived.OneCell
import Derived.RangeFuncBox
import Derived.Maps.AppendAt
import Derived.OwnWalk
import Derived.OrdersIn
import Derived.Deep.RegionHeld3
import Derived.Test.YtbafmnafhaoggaaGreatDoorProg
import Derived.WalkKit
import Derived.Lib.Hide
import Derived.WalkSmall
import Derived.Laws.NewBlocks
/-! Package fault: an error's row as a list, and row's iterator. -/
namespace Go.Proofs.YtbafmnafhaoggaaGreatDoor
open Go Go.RowKit

attribute [local go_sem] Oper.semAt_some

/-- An error of a row: a number; a fault, its block, place and words; an error of another make, what lies within it. -/
inductive El where
  | num (k : Int)
  | fault (b : Nat) (p : Int) (s : ByteArray)
def El.val : El → Value
  | .num k => .iface 63 (.int .i64 k)
  | .fault b _ _ => .iface 126 (.pointer (some ⟨b, 0, none⟩))
/-- The block of a fault. -/
def faultObj (p : Int) (s : ByteArray) (u : Value) : Obj := .cells #[.int .i64 p, .string s, u] 128 (0, 0)

/-- The value v is an error whose row is xs, its faults in blocks below n, each deeper one in a lower block. -/
def Chain (W : World) : Nat → Value → List El → Prop
  | _, v, [] => v = .nilIface
  | _, v, .num k :: rest => v = .iface 63 (.int .i64 k) ∧ rest = []
  | n, v, .fault b p s :: rest => v = .iface 126 (.pointer (some ⟨b, 0, none⟩)) ∧ b < n ∧ ∃ u, W.heap[b]? = some (faultObj p s u) ∧ Chain W b u rest
theorem Chain.same {W W' : World} : ∀ {n : Nat} {v : Value} {xs : List El}, (∀ k, k < n → W'.heap[k]? = W.heap[k]?) → Chain W n v xs → Chain W' n v xs
  | _, _, [], _, h => h
  | _, _, .num _ :: _, _, h => h
  | _, _, .fault b _ _ :: _, hk, ⟨h1, h2, u, h5, h6⟩ => ⟨h1, h2, u, (hk b h2).trans h5, Chain.same (fun k hkb => hk k (by omega)) h6⟩
theorem Chain.mono {W : World} : ∀ {n m : Nat} {v : Value} {xs : List El}, n ≤ m → Chain W n v xs → Chain W m v xs
  | _, _, _, [], _, h => h
  | _, _, _, .num _ :: _, _, h => h
  | _, _, _, .fault _ _ _ :: _, hn, ⟨h1, h2, h3⟩ => ⟨h1, by omega, h3⟩
theorem Chain.below {W W' : World} {n B : Nat} {v : Value} {xs : List El} (h : Chain W n v xs) (hb : Below B W W') (hn : n ≤ B) : Chain W' n v xs :=
  h.same (fun k hk => hb.block k (by omega))
theorem Chain.head {W : World} {n : Nat} {v : Value} {x : El} {xs : List El} (h : Chain W n v (x :: xs)) : v = x.val := by
  cases x with
  | num k => exact h.1
  | fault b p s => exact h.1
/-- Where the mark may lie: nowhere, or at a fault that the rest of the row does not reach. -/
def MarkAt (W : World) (n₀ n : Nat) (m : Option Addr) : Prop := m = none ∨ ∃ b p s u, m = some ⟨b, 0, none⟩ ∧ n ≤ b ∧ b < n₀ ∧ W.heap[b]? = some (faultObj p s u)
theorem MarkAt.same {W W' : World} {n₀ n : Nat} {m : Option Addr} (h : MarkAt W n₀ n m) (hk : ∀ k, k < n₀ → W'.heap[k]? = W.heap[k]?) : MarkAt W' n₀ n m := by
  rcases h with h | ⟨b, p, s, u, h1, h2, h3, h4⟩
  · exact .inl h
  · exact .inr ⟨b, p, s, u, h1, h2, h3, (hk b h3).trans h4⟩
theorem MarkAt.le {W : World} {n₀ n n' : Nat} {m : Option Addr} (h : MarkAt W n₀ n m) (hn : n' ≤ n) : MarkAt W n₀ n' m := by
  rcases h with h | ⟨b, p, s, u, h1, h2, h3, h4⟩
  · exact .inl h
  · exact .inr ⟨b, p, s, u, h1, by omega, h3, h4⟩

end Go.Proofs.YtbafmnafhaoggaaGreatDoor

/-! Package fault: the iterator that faults hands back: it ranges over row's. -/
namespace Go.Proofs.YtbafmnafhaoggaaGreatDoor
open Go Go.RowKit

attribute [local go_sem] Oper.semAt_some

end Go.Proofs.YtbafmnafhaoggaaGreatDoor

/-! Package fault: Kind and Has of an error whose row is known. -/
namespace Go.Proofs.YtbafmnafhaoggaaGreatDoor
open Go Go.RowKit

attribute [local go_sem] Oper.semAt_some

/-- The value of an error with a row is nil, or of a type. -/
theorem Chain.shape {W : World} {n : Nat} {v : Value} {xs : List El} (h : Chain W n v xs) : (v = .nilIface ∧ xs = []) ∨ ∃ t u, v = .iface t u := by
  cases xs with
  | nil => exact .inl ⟨h, rfl⟩
  | cons x r => cases x <;> exact .inr ⟨_, _, h.head⟩

end Go.Proofs.YtbafmnafhaoggaaGreatDoor

/-! Package fault: Place of an error whose row is known. -/
namespace Go.Proofs.YtbafmnafhaoggaaGreatDoor
open Go Go.RowKit

attribute [local go_sem] Oper.semAt_some

end Go.Proofs.YtbafmnafhaoggaaGreatDoor

/-! Package fault: Total of an error whose row is known. -/
namespace Go.Proofs.YtbafmnafhaoggaaGreatDoor
open Go Go.RowKit

attribute [local go_sem] Oper.semAt_some

end Go.Proofs.YtbafmnafhaoggaaGreatDoor

/-! Package fault: Whats of an error whose row is known. -/
namespace Go.Proofs.YtbafmnafhaoggaaGreatDoor
open Go Go.RowKit

attribute [local go_sem] Oper.semAt_some

theorem stringInfo : (Tryz.prog.info? 9).map (fun i => (i.zero, i.size, i.bytes)) = some (some (.string ByteArray.empty), 1, 16) := by kernel_rfl

theorem ownFrom_row {β : Type} {B base : Nat} {e : TypeId} {sz : Nat} {v : Value} {n : Nat} {xs : List Value} : OwnFrom B (fun (_ : β) W => W.ownsRow base e sz v n xs) := fun _ X Y row hs hg hr => by
  refine hs.kept hg ?_
  rcases hs.2 with ⟨rfl, _⟩ | ⟨g, cap, cur, rfl, _, hb, _⟩
  · exact .inl rfl
  · refine .inr (fun e => ?_)
    obtain ⟨_, o, ho, hc⟩ := hr g e.symm
    rw [hb] at ho
    cases ho
    simp [Obj.isCells] at hc

/-- What a round of Whats may turn: rows of texts. -/
def frS : Obj → Bool
  | .cells _ t _ => t == 9
  | _ => false
theorem frS_cells (o : Obj) (h : frS o = true) : o.isCells = true := by
  cases o <;> first | rfl | cases h

theorem owns_shape0 {w : World} {B : Nat} {e : TypeId} {sz : Nat} {v : Value} {n : Nat} {xs : List Value} (h : w.ownsRow B e sz v n xs) : v = .slice none 0 0 ∨ ∃ g cap, v = .slice (some ⟨g, 0, none⟩) n cap := by
  rcases h.2 with ⟨h, _⟩ | ⟨g, cap, _, h, _⟩
  · exact .inl h
  · exact .inr ⟨g, cap, h⟩

end Go.Proofs.YtbafmnafhaoggaaGreatDoor

/-! Package fault: New and Wrap; and the chapter's example, asked of Kind, Place and Total. -/
namespace Go.Proofs.YtbafmnafhaoggaaGreatDoor
open Go Go.RowKit

set_option maxRecDepth 100000 in
theorem new_any (k p : Int) (s : ByteArray) (w : World) (hk : (k == 0) = false) :
    Calls Tryz.prog 26 #[.int .i64 k, .int .i64 p, .string s] w fun e w' => e = .returned (.iface 126 (.pointer (some ⟨w.heap.size, 0, none⟩))) ∧ w.alloc (faultObj p s (.iface 63 (.int .i64 k))) = w' := by
  go_enter Tryz.func26, Tryz.ntmps26
  go_wp2
  go_ret
  exact ⟨rfl, rfl⟩
/-- A fault made of a number. -/
theorem Chain.new (k p : Int) (s : ByteArray) (w : World) :
    Chain (w.alloc (faultObj p s (.iface 63 (.int .i64 k)))) (w.heap.size + 1) (.iface 126 (.pointer (some ⟨w.heap.size, 0, none⟩))) [.fault w.heap.size p s, .num k] :=
  ⟨rfl, Nat.lt_succ_self _, _, World.alloc_heap_new _ _, rfl, rfl⟩
/-- A fault made around an error. -/
theorem Chain.wrap {n : Nat} {v : Value} {xs : List El} {w : World} (p : Int) (s : ByteArray) (h : Chain w n v xs) (hn : n ≤ w.heap.size) :
    Chain (w.alloc (faultObj p s v)) (w.heap.size + 1) (.iface 126 (.pointer (some ⟨w.heap.size, 0, none⟩))) (.fault w.heap.size p s :: xs) :=
  ⟨rfl, Nat.lt_succ_self _, _, World.alloc_heap_new _ _, (h.mono hn).below ((Below.refl _ w).alloc (Nat.le_refl _) _) (Nat.le_refl _)⟩

end Go.Proofs.YtbafmnafhaoggaaGreatDoor

/-! The statements' own function row: a row of items, cut to nine, their texts to twelve bytes. -/
namespace Go.Proofs.YtbafmnafhaoggaaGreatDoor
open Go Go.RowKit

end Go.Proofs.YtbafmnafhaoggaaGreatDoor
