/-
  Layer 11's rows as lists: a text's rows, their keys, rows in order, rows found by halves and by their beginnings, rows put in order in two ways. No program is named here. Package table: rows by their numbers, found by halves, told one by one. Package table: the rows of a beginning, told one by one. A region in a round, without a defer: as in no round. No program is named here. A region that only reads, in whatever order, inside a round of a range over a function. No program is named here. Package table: what may be a table, Find, Bytes, New. Package table: New, by the first row that does not stand in order. Rows of texts in memory: wherever they lie; a call's own; those that an iterator looks at.
-/
import Derived.WalkKit
import Derived.Test.YtpnhjpplfjamkaaGreatDoorFault
import Derived.Test.YtpnhjpplfjamkaaGreatDoorSeqs
import Derived.BigQuiet
import Derived.Deep.QuietTactic
import Derived.StillTailTactics
import Derived.Laws.Cover1
import Derived.Sort.Walk0
import Derived.Lib.Strings
import Derived.Sort.QuietTacIn
import Derived.OrdersIn
import Derived.Stop.RegionWithIn
import Derived.LoopIn
import Derived.LoopNIn
import Derived.TacticsInMore
import Derived.RangeFuncLeaves
import Derived.Sort.OwnSorted
import Derived.OwnWalk
import Derived.OwnWalkIn
import Derived.Lib.Join
/-! Layer 11's rows as lists: a text's rows, their keys, rows in order, rows found by halves and by their beginnings, rows put in order in two ways. No program is named here. -/
namespace Go.Proofs.YtpnhjpplfjamkaaGreatDoor
open Go Go.RowKit

/-- A text's bytes. -/
def bL (s : ByteArray) : List UInt8 := s.data.toList
/-- Byte by byte. -/
def ltW (x y : ByteArray) : Bool := decide (bL x < bL y)
/-- A row's key. -/
def keyW (K : Nat) (r : ByteArray) : ByteArray := r.extract 0 K
def KS (K : Nat) (a b : ByteArray) : Prop := ltW (keyW K b) (keyW K a) = false
theorem between : ∀ {k a x : List UInt8}, ¬ a < k → a < k ++ x → k <+: a
  | [], _, _, _, _ => List.nil_prefix
  | _ :: _, [], _, h, _ => absurd (by simp) h
  | c :: k, d :: a, x, h1, h2 => by
    rw [List.cons_lt_cons_iff] at h1
    rw [List.cons_append, List.cons_lt_cons_iff] at h2
    rcases h2 with h2 | ⟨rfl, h2⟩
    · exact absurd (.inl h2) h1
    · rw [List.cons_prefix_cons]
      exact ⟨rfl, between (fun h => h1 (.inr ⟨rfl, h⟩)) h2⟩
end Go.Proofs.YtpnhjpplfjamkaaGreatDoor

/-! Package table: rows by their numbers, found by halves, told one by one. -/
namespace Go.Proofs.YtpnhjpplfjamkaaGreatDoor
open Go Go.RowKit

theorem lt_of_cellW {W : World} {a : Addr} {v : Value} (h : W.cell? a = some v) : a.block < W.heap.size := World.block_lt_of_cell? _ _ h

end Go.Proofs.YtpnhjpplfjamkaaGreatDoor

/-! Package table: the rows of a beginning, told one by one. -/
namespace Go.Proofs.YtpnhjpplfjamkaaGreatDoor
open Go Go.RowKit

attribute [local go_sem] Oper.semAt_some

end Go.Proofs.YtpnhjpplfjamkaaGreatDoor

/-! A region in a round, without a defer: as in no round. No program is named here. -/
namespace Go.Proofs.YtpnhjpplfjamkaaGreatDoor
open Go Go.RowKit

/-! A region in a round, without a defer: as in no round. -/
def noDefer (o : Oper) : Bool := match o.op with
  | .defer _ => false
  | _ => true
theorem wpIn_round {n l : Nat} {P : Program} {o : Oper} {a : Act} {w : World} {K : Act → World → Prop} {Q : Exit → Act → World → Prop} (hnd : noDefer o = true) (h : o.wpIn Fence.wide n P a w K Q) : o.wpIn (Fence.wide.inRound l) n P a w K Q := by
  have hd : ∀ c, o.op ≠ .defer c := fun c e => by unfold noDefer at hnd; rw [e] at hnd; cases hnd
  refine ⟨fun _ _ => trivial, ?_⟩
  have h2 := h.2
  rw [Oper.semAt_eq _ _ _ hd] at h2 ⊢
  generalize (execOp a.eval o).run P w = r at *
  cases r with
  | ok x w' => cases x <;> exact h2
  | halt x w' => exact h2
theorem wpAnyIn_round {n l : Nat} {P : Program} {md : Region.Mode} {ops : Array Oper} {Q : Exit → Act → World → Prop} (hnd : ops.toList.all noDefer = true) : ∀ (fuel : Nat) (listed : Array Bool) (a : Act) (w : World), wpAnyIn Fence.wide n P md ops Q fuel listed a w → wpAnyIn (Fence.wide.inRound l) n P md ops Q fuel listed a w
  | 0, _, _, _, h => h
  | fuel + 1, listed, a, w, h => by
    refine ⟨h.1, fun i hi => ?_⟩
    have h1 := h.2 i hi
    unfold wpOpIn at h1 ⊢
    cases ho : ops[i]? with
    | none =>
      simp only [ho] at h1 ⊢
      exact wpAnyIn_round hnd fuel _ _ _ h1
    | some o =>
      simp only [ho] at h1 ⊢
      have hm : o ∈ ops.toList := by
        rw [← Array.getElem?_toList] at ho
        exact List.mem_of_getElem? ho
      split
      · rename_i hw
        rw [if_pos hw] at h1
        exact wpIn_round ((List.all_eq_true.1 hnd) o hm) (Oper.wpIn_mono (fun a' w' h' => wpAnyIn_round hnd fuel _ a' w' h') h1)
      · rename_i hw
        rw [if_neg hw] at h1
        exact ⟨fun _ _ => trivial, wpAnyIn_round hnd fuel _ _ _ h1.2⟩
end Go.Proofs.YtpnhjpplfjamkaaGreatDoor

/-! A region that only reads, in whatever order, inside a round of a range over a function. No program is named here. -/
namespace Go.Proofs.YtpnhjpplfjamkaaGreatDoor
open Go Go.RowKit

end Go.Proofs.YtpnhjpplfjamkaaGreatDoor

/-! Package table: what may be a table, Find, Bytes, New. -/
namespace Go.Proofs.YtpnhjpplfjamkaaGreatDoor
open Go Go.RowKit

attribute [local go_sem] Oper.semAt_some

/-- An error of this package, of a kind, at a place. -/
def FaultW (W : World) (v : Value) (k p : Int) : Prop := ∃ b, v = .iface 82 (.pointer (some ⟨b, 0, none⟩)) ∧ W.heap[b]? = some (faultObj p ⟨#[116, 97, 98, 108, 101]⟩ (.iface 44 (.int .i64 k)))
theorem FaultW.below {W W' : World} {v : Value} {k p : Int} (h : FaultW W v k p) (hb : Below W.heap.size W W') : FaultW W' v k p := by
  obtain ⟨b, rfl, h⟩ := h
  exact ⟨b, rfl, (hb.block b (lt_of_block h)).trans h⟩
theorem FaultW.grown {W W' : World} {v : Value} {k p : Int} {row : Option Nat} (h : FaultW W v k p) (hg : W.grownBy W' row) (hr : ∀ r, row = some r → ∃ o : Obj, W.heap[r]? = some o ∧ o.isCells = false) : FaultW W' v k p := by
  obtain ⟨b, rfl, h⟩ := h
  refine ⟨b, rfl, (hg.block b (lt_of_block h) (fun e => ?_)).trans h⟩
  obtain ⟨o, h1, h2⟩ := hr b e.symm
  rw [h] at h1
  cases h1
  cases h2
theorem FaultW.new (k p : Int) (w : World) : FaultW (w.alloc (faultObj p ⟨#[116, 97, 98, 108, 101]⟩ (.iface 44 (.int .i64 k)))) (.iface 82 (.pointer (some ⟨w.heap.size, 0, none⟩))) k p := ⟨_, rfl, World.alloc_heap_new _ _⟩
theorem FaultW.iface {W : World} {v : Value} {k p : Int} (h : FaultW W v k p) : ∃ t u, v = .iface t u := by
  obtain ⟨b, rfl, _⟩ := h; exact ⟨_, _, rfl⟩

end Go.Proofs.YtpnhjpplfjamkaaGreatDoor

/-! Package table: New, by the first row that does not stand in order. -/
namespace Go.Proofs.YtpnhjpplfjamkaaGreatDoor
open Go Go.RowKit

attribute [local go_sem] Oper.semAt_some

theorem drop_cons {l : List ByteArray} {n : Nat} {r : ByteArray} (h : l[n]? = some r) : l.drop n = r :: l.drop (n + 1) := by
  obtain ⟨hn, rfl⟩ := List.getElem?_eq_some_iff.1 h
  exact List.drop_eq_getElem_cons hn

end Go.Proofs.YtpnhjpplfjamkaaGreatDoor

/-! Rows of texts in memory: wherever they lie; a call's own; those that an iterator looks at. -/
namespace Go.Proofs.YtpnhjpplfjamkaaGreatDoor
open Go Go.RowKit

def strsW (l : List ByteArray) : List Value := l.map Value.string
theorem strsW_append (a b : List ByteArray) : strsW (a ++ b) = strsW a ++ strsW b := List.map_append ..
/-- A row of texts, wherever it lies. -/
def RowW (W : World) (v : Value) (l : List ByteArray) : Prop :=
  ∃ ao cap, v = .slice ao l.length cap ∧ ∀ i x, l[i]? = some x → ∃ g o, ao = some ⟨g, o, none⟩ ∧ W.cell? ⟨g, o + i, none⟩ = some (.string x)
theorem RowW.below {W W' : World} {v : Value} {l : List ByteArray} (h : RowW W v l) (hb : Below W.heap.size W W') : RowW W' v l := by
  obtain ⟨ao, cap, rfl, hc⟩ := h
  refine ⟨ao, cap, rfl, fun i x hx => ?_⟩
  obtain ⟨g, o, h1, h2⟩ := hc i x hx
  exact ⟨g, o, h1, (hb.cell (p := ⟨g, o + i, none⟩) (lt_of_cellW h2)).trans h2⟩
theorem RowW.slice {W : World} {v : Value} {l : List ByteArray} (h : RowW W v l) : ∃ ao cap, v = .slice ao l.length cap := by
  obtain ⟨ao, cap, h, _⟩ := h; exact ⟨ao, cap, h⟩
theorem RowW.nil (W : World) (n : Nat) : RowW W (.slice none 0 n) [] := ⟨none, n, rfl, fun i x hx => by simp at hx⟩
theorem owned_casesW {w : World} {B : Nat} {e : TypeId} {sz : Nat} {v : Value} {n : Nat} {xs : List Value} (h : w.ownsRow B e sz v n xs) : (v = .slice none 0 0 ∧ n = 0) ∨ ∃ g cap, v = .slice (some ⟨g, 0, none⟩) n cap := by
  rcases h.2 with ⟨hv, hn⟩ | ⟨g, cap, _, hv, _⟩
  · exact .inl ⟨hv, hn⟩
  · exact .inr ⟨g, cap, hv⟩
theorem RowW.of_own {w : World} {base : Nat} {u : Value} {l : List ByteArray} (h : w.ownsRow base 9 1 u l.length (strsW l)) : RowW w u l := by
  rcases owned_casesW h with ⟨rfl, h0⟩ | ⟨g, cap, rfl⟩
  · obtain rfl : l = [] := List.eq_nil_of_length_eq_zero h0
    exact RowW.nil w 0
  · refine ⟨some ⟨g, 0, none⟩, cap, rfl, fun i x hx => ⟨g, 0, rfl, ?_⟩⟩
    have := h.cells rfl i (.string x) (by simp [strsW, hx])
    rwa [Addr.add_lit] at this
theorem own_belowW {W W' : World} {base : Nat} {e : TypeId} {sz : Nat} {v : Value} {n : Nat} {xs : List Value} (h : W.ownsRow base e sz v n xs) (hb : Below W.heap.size W W') : W'.ownsRow base e sz v n xs :=
  h.kept (grown_of_below hb) (by cases v.ownBlock <;> simp)
/-- A row below block n. -/
def RowB (n : Nat) (W : World) (v : Value) (l : List ByteArray) : Prop :=
  ∃ ao cap, v = .slice ao l.length cap ∧ ∀ i x, l[i]? = some x → ∃ g o, ao = some ⟨g, o, none⟩ ∧ g < n ∧ W.cell? ⟨g, o + i, none⟩ = some (.string x)
theorem RowW.bound {W : World} {v : Value} {l : List ByteArray} {n : Nat} (h : RowW W v l) (hn : W.heap.size ≤ n) : RowB n W v l := by
  obtain ⟨ao, cap, rfl, hc⟩ := h
  refine ⟨ao, cap, rfl, fun i x hx => ?_⟩
  obtain ⟨g, o, h1, h2⟩ := hc i x hx
  exact ⟨g, o, h1, Nat.lt_of_lt_of_le (lt_of_cellW h2) hn, h2⟩
theorem RowB.same {W W' : World} {v : Value} {l : List ByteArray} {n : Nat} (h : RowB n W v l) (hb : ∀ k, k < n → k < W.heap.size → W'.heap[k]? = W.heap[k]?) : RowB n W' v l := by
  obtain ⟨ao, cap, rfl, hc⟩ := h
  refine ⟨ao, cap, rfl, fun i x hx => ?_⟩
  obtain ⟨g, o, h1, h2, h3⟩ := hc i x hx
  refine ⟨g, o, h1, h2, ?_⟩
  have := hb g h2 (lt_of_cellW h3)
  unfold World.cell? at h3 ⊢
  rwa [this]
theorem RowB.below {W W' : World} {v : Value} {l : List ByteArray} {n : Nat} (h : RowB n W v l) (hb : Below W.heap.size W W') : RowB n W' v l := h.same fun k _ hk => hb.block k hk
/-- A row that a loop fills. -/
def AccW (W0 : World) (L : List ByteArray) (v : Value) (wr : World) : Prop := wr.ownsRow W0.heap.size 9 1 v L.length (strsW L) ∧ Below W0.heap.size W0 wr
theorem AccW.start (W0 : World) : AccW W0 [] (.slice none 0 0) W0 := ⟨World.ownsRow_nil _ _ _ _, Below.refl _ _⟩
theorem AccW.push {W0 wr w2 : World} {L : List ByteArray} {v v' : Value} {x : ByteArray} {o : Obj} (h : AccW W0 L v wr)
    (h1 : w2.ownsRow W0.heap.size 9 1 v' (L.length + 1) (strsW L ++ [.string x])) (hg : (wr.alloc o).grownBy w2 v.ownBlock) : AccW W0 (L ++ [x]) v' w2 := by
  have hB := h.2
  refine ⟨?_, (hB.alloc hB.size o).grown hg (by simp; have := hB.size; omega) (fun r e => (h.1.lt r e).1)⟩
  rw [List.length_append, strsW_append]
  exact h1
theorem AccW.below {W0 W W' : World} {L : List ByteArray} {v : Value} (h : AccW W0 L v W) (hb : Below W.heap.size W W') : AccW W0 L v W' := ⟨own_belowW h.1 hb, h.2.trans (hb.mono h.2.size)⟩
end Go.Proofs.YtpnhjpplfjamkaaGreatDoor
