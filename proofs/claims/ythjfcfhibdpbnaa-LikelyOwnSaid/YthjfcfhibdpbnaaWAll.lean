/-
  Layer 11's rows as lists: a text's rows, their keys, rows in order, rows found by halves and by their beginnings, rows put in order in two ways. No program is named here. Package table: rows by their numbers, found by halves, told one by one. Package table: the rows of a beginning, told one by one. A region in a round, without a defer: as in no round. No program is named here. A region that only reads, in whatever order, inside a round of a range over a function. No program is named here. Package table: what may be a table, Find, Bytes, New. Package table: New, by the first row that does not stand in order. Rows of texts in memory: wherever they lie; a call's own; those that an iterator looks at.
-/
import Derived.WalkKit
import Derived.Test.YthjfcfhibdpbnaaFault
import Derived.Test.YthjfcfhibdpbnaaSeqs
import Derived.BigQuiet
import Derived.Deep.QuietTactic
import Derived.StillTailTactics
import Derived.Laws.Cover1
import Derived.Sort.Walk0
import Derived.Lib.Strings
import Derived.Sort.QuietTacIn
import Derived.OrdersIn
import Derived.Stop.RegionWithIn
import Derived.LoopIn
import Derived.LoopNIn
import Derived.TacticsInMore
import Derived.RangeFuncLeaves
import Derived.Sort.OwnSorted
import Derived.OwnWalk
import Derived.OwnWalkIn
import Derived.Lib.Join
/-! Layer 11's rows as lists: a text's rows, their keys, rows in order, rows found by halves and by their beginnings, rows put in order in two ways. No program is named here. -/
namespace Go.Proofs.Ythjfcfhibdpbnaa
open Go Go.RowKit

/-- A text's bytes. -/
def bL (s : ByteArray) : List UInt8 := s.data.toList
/-- Byte by byte. -/
def ltW (x y : ByteArray) : Bool := decide (bL x < bL y)
/-- A row's key. -/
def keyW (K : Nat) (r : ByteArray) : ByteArray := r.extract 0 K
def KS (K : Nat) (a b : ByteArray) : Prop := ltW (keyW K b) (keyW K a) = false
end Go.Proofs.Ythjfcfhibdpbnaa

/-! Package table: rows by their numbers, found by halves, told one by one. -/
namespace Go.Proofs.Ythjfcfhibdpbnaa
open Go Go.RowKit

theorem lt_of_cellW {W : World} {a : Addr} {v : Value} (h : W.cell? a = some v) : a.block < W.heap.size := World.block_lt_of_cell? _ _ h

end Go.Proofs.Ythjfcfhibdpbnaa

/-! Package table: the rows of a beginning, told one by one. -/
namespace Go.Proofs.Ythjfcfhibdpbnaa
open Go Go.RowKit

attribute [local go_sem] Oper.semAt_some

end Go.Proofs.Ythjfcfhibdpbnaa

/-! A region in a round, without a defer: as in no round. No program is named here. -/
namespace Go.Proofs.Ythjfcfhibdpbnaa
open Go Go.RowKit

/-! A region in a round, without a defer: as in no round. -/
end Go.Proofs.Ythjfcfhibdpbnaa

/-! A region that only reads, in whatever order, inside a round of a range over a function. No program is named here. -/
namespace Go.Proofs.Ythjfcfhibdpbnaa
open Go Go.RowKit

end Go.Proofs.Ythjfcfhibdpbnaa

/-! Package table: what may be a table, Find, Bytes, New. -/
namespace Go.Proofs.Ythjfcfhibdpbnaa
open Go Go.RowKit

attribute [local go_sem] Oper.semAt_some

end Go.Proofs.Ythjfcfhibdpbnaa

/-! Package table: New, by the first row that does not stand in order. -/
namespace Go.Proofs.Ythjfcfhibdpbnaa
open Go Go.RowKit

attribute [local go_sem] Oper.semAt_some

end Go.Proofs.Ythjfcfhibdpbnaa

/-! Rows of texts in memory: wherever they lie; a call's own; those that an iterator looks at. -/
namespace Go.Proofs.Ythjfcfhibdpbnaa
open Go Go.RowKit

def strsW (l : List ByteArray) : List Value := l.map Value.string
theorem strsW_append (a b : List ByteArray) : strsW (a ++ b) = strsW a ++ strsW b := List.map_append ..
/-- A row of texts, wherever it lies. -/
def RowW (W : World) (v : Value) (l : List ByteArray) : Prop :=
  ∃ ao cap, v = .slice ao l.length cap ∧ ∀ i x, l[i]? = some x → ∃ g o, ao = some ⟨g, o, none⟩ ∧ W.cell? ⟨g, o + i, none⟩ = some (.string x)
theorem RowW.below {W W' : World} {v : Value} {l : List ByteArray} (h : RowW W v l) (hb : Below W.heap.size W W') : RowW W' v l := by
  obtain ⟨ao, cap, rfl, hc⟩ := h
  refine ⟨ao, cap, rfl, fun i x hx => ?_⟩
  obtain ⟨g, o, h1, h2⟩ := hc i x hx
  exact ⟨g, o, h1, (hb.cell (p := ⟨g, o + i, none⟩) (lt_of_cellW h2)).trans h2⟩
theorem RowW.slice {W : World} {v : Value} {l : List ByteArray} (h : RowW W v l) : ∃ ao cap, v = .slice ao l.length cap := by
  obtain ⟨ao, cap, h, _⟩ := h; exact ⟨ao, cap, h⟩
theorem RowW.nil (W : World) (n : Nat) : RowW W (.slice none 0 n) [] := ⟨none, n, rfl, fun i x hx => by simp at hx⟩
theorem owned_casesW {w : World} {B : Nat} {e : TypeId} {sz : Nat} {v : Value} {n : Nat} {xs : List Value} (h : w.ownsRow B e sz v n xs) : (v = .slice none 0 0 ∧ n = 0) ∨ ∃ g cap, v = .slice (some ⟨g, 0, none⟩) n cap := by
  rcases h.2 with ⟨hv, hn⟩ | ⟨g, cap, _, hv, _⟩
  · exact .inl ⟨hv, hn⟩
  · exact .inr ⟨g, cap, hv⟩
theorem RowW.of_own {w : World} {base : Nat} {u : Value} {l : List ByteArray} (h : w.ownsRow base 9 1 u l.length (strsW l)) : RowW w u l := by
  rcases owned_casesW h with ⟨rfl, h0⟩ | ⟨g, cap, rfl⟩
  · obtain rfl : l = [] := List.eq_nil_of_length_eq_zero h0
    exact RowW.nil w 0
  · refine ⟨some ⟨g, 0, none⟩, cap, rfl, fun i x hx => ⟨g, 0, rfl, ?_⟩⟩
    have := h.cells rfl i (.string x) (by simp [strsW, hx])
    rwa [Addr.add_lit] at this
theorem own_belowW {W W' : World} {base : Nat} {e : TypeId} {sz : Nat} {v : Value} {n : Nat} {xs : List Value} (h : W.ownsRow base e sz v n xs) (hb : Below W.heap.size W W') : W'.ownsRow base e sz v n xs :=
  h.kept (grown_of_below hb) (by cases v.ownBlock <;> simp)
theorem own_lowW {w : World} {B B' : Nat} {e : TypeId} {sz : Nat} {v : Value} {n : Nat} {xs : List Value} (h : w.ownsRow B e sz v n xs) (hB : B' ≤ B) : w.ownsRow B' e sz v n xs := by
  refine ⟨h.1, ?_⟩
  rcases h.2 with h | ⟨g, cap, cur, h1, h2, h3⟩
  · exact .inl h
  · exact .inr ⟨g, cap, cur, h1, by omega, h3⟩
/-- A row below block n. -/
def RowB (n : Nat) (W : World) (v : Value) (l : List ByteArray) : Prop :=
  ∃ ao cap, v = .slice ao l.length cap ∧ ∀ i x, l[i]? = some x → ∃ g o, ao = some ⟨g, o, none⟩ ∧ g < n ∧ W.cell? ⟨g, o + i, none⟩ = some (.string x)
theorem RowW.bound {W : World} {v : Value} {l : List ByteArray} {n : Nat} (h : RowW W v l) (hn : W.heap.size ≤ n) : RowB n W v l := by
  obtain ⟨ao, cap, rfl, hc⟩ := h
  refine ⟨ao, cap, rfl, fun i x hx => ?_⟩
  obtain ⟨g, o, h1, h2⟩ := hc i x hx
  exact ⟨g, o, h1, Nat.lt_of_lt_of_le (lt_of_cellW h2) hn, h2⟩
theorem RowB.same {W W' : World} {v : Value} {l : List ByteArray} {n : Nat} (h : RowB n W v l) (hb : ∀ k, k < n → k < W.heap.size → W'.heap[k]? = W.heap[k]?) : RowB n W' v l := by
  obtain ⟨ao, cap, rfl, hc⟩ := h
  refine ⟨ao, cap, rfl, fun i x hx => ?_⟩
  obtain ⟨g, o, h1, h2, h3⟩ := hc i x hx
  refine ⟨g, o, h1, h2, ?_⟩
  have := hb g h2 (lt_of_cellW h3)
  unfold World.cell? at h3 ⊢
  rwa [this]
theorem RowB.below {W W' : World} {v : Value} {l : List ByteArray} {n : Nat} (h : RowB n W v l) (hb : Below W.heap.size W W') : RowB n W' v l := h.same fun k _ hk => hb.block k hk
/-- A row that a loop fills. -/
def AccW (W0 : World) (L : List ByteArray) (v : Value) (wr : World) : Prop := wr.ownsRow W0.heap.size 9 1 v L.length (strsW L) ∧ Below W0.heap.size W0 wr
theorem AccW.start (W0 : World) : AccW W0 [] (.slice none 0 0) W0 := ⟨World.ownsRow_nil _ _ _ _, Below.refl _ _⟩
theorem AccW.push {W0 wr w2 : World} {L : List ByteArray} {v v' : Value} {x : ByteArray} {o : Obj} (h : AccW W0 L v wr)
    (h1 : w2.ownsRow W0.heap.size 9 1 v' (L.length + 1) (strsW L ++ [.string x])) (hg : (wr.alloc o).grownBy w2 v.ownBlock) : AccW W0 (L ++ [x]) v' w2 := by
  have hB := h.2
  refine ⟨?_, (hB.alloc hB.size o).grown hg (by simp; have := hB.size; omega) (fun r e => (h.1.lt r e).1)⟩
  rw [List.length_append, strsW_append]
  exact h1
theorem AccW.below {W0 W W' : World} {L : List ByteArray} {v : Value} (h : AccW W0 L v W) (hb : Below W.heap.size W W') : AccW W0 L v W' := ⟨own_belowW h.1 hb, h.2.trans (hb.mono h.2.size)⟩
end Go.Proofs.Ythjfcfhibdpbnaa
