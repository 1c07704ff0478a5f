/-
  Package fault: an error's row as a list, and row's iterator. Package fault: the iterator that faults hands back: it ranges over row's. Package fault: Kind and Has of an error whose row is known. Package fault: Place of an error whose row is known. Package fault: Total of an error whose row is known. Package fault: Whats of an error whose row is known. Package fault: New and Wrap; and the chapter's example, asked of Kind, Place and Total. The statements' own function row: a row of items, cut to nine, their texts to twelve bytes.
-/
import Derived.Test.YtlpjdknmnomdlaaDoorErr
import Derived.Test.YtlpjdknmnomdlaaDoorSeq
import Derived.OwnWalkIn
import Derived.LaidEqlPtr
import Derived.TacticsInMore
import Derived.LoopNIn
import Derived.LoopIn
import Derived.Shelf.Abstract
import Derived.OneCell
import Derived.RangeFuncBox
import Derived.Maps.AppendAt
import Derived.OwnWalk
import Derived.OrdersIn
import Derived.Deep.RegionHeld3
import Derived.Test.YtlpjdknmnomdlaaDoorProg
import Derived.WalkKit
import Derived.Lib.Hide
import Derived.WalkSmall
import Derived.Laws.NewBlocks
/-! Package fault: an error's row as a list, and row's iterator. -/
namespace Go.Proofs.YtlpjdknmnomdlaaDoor
open Go Go.RowKit

attribute [local go_sem] Oper.semAt_some

/-- An error of a row: a number; a fault, its block, place and words; an error of another make, what lies within it. -/
inductive El where
  | num (k : Int)
  | fault (b : Nat) (p : Int) (s : ByteArray)
/-- The faults of a row: block, place, words. -/
def fsOf : List El → List (Nat × Int × ByteArray)
  | [] => []
  | .fault b p s :: rest => (b, p, s) :: fsOf rest
  | .num _ :: rest => fsOf rest
theorem fsOf_append (a b : List El) : fsOf (a ++ b) = fsOf a ++ fsOf b := by
  induction a with
  | nil => rfl
  | cons x r ih => cases x <;> simp [fsOf, ih]
theorem fsOf_prefix {a b : List El} (h : a <+: b) : fsOf a <+: fsOf b := by
  obtain ⟨r, rfl⟩ := h
  exact ⟨fsOf r, (fsOf_append a r).symm⟩

end Go.Proofs.YtlpjdknmnomdlaaDoor

/-! Package fault: the iterator that faults hands back: it ranges over row's. -/
namespace Go.Proofs.YtlpjdknmnomdlaaDoor
open Go Go.RowKit

attribute [local go_sem] Oper.semAt_some

def FaX (Jx : List (Nat × Int × ByteArray) → World → Prop) (c : Code) (pre : List El) (W : World) : Prop := c = .ret ∧ Jx (fsOf pre) W

end Go.Proofs.YtlpjdknmnomdlaaDoor

/-! Package fault: Kind and Has of an error whose row is known. -/
namespace Go.Proofs.YtlpjdknmnomdlaaDoor
open Go Go.RowKit

attribute [local go_sem] Oper.semAt_some

def kindOf : List El → Int
  | [] => 1
  | .num k :: _ => k
  | .fault _ _ _ :: r => kindOf r
end Go.Proofs.YtlpjdknmnomdlaaDoor

/-! Package fault: Place of an error whose row is known. -/
namespace Go.Proofs.YtlpjdknmnomdlaaDoor
open Go Go.RowKit

attribute [local go_sem] Oper.semAt_some

def placeOf : List (Nat × Int × ByteArray) → Int
  | [] => -1
  | (_, p, _) :: _ => p

def PlI (w : World) (pre : List (Nat × Int × ByteArray)) (W : World) : Prop :=
  pre = [] ∧ W.heap[w.heap.size]? = some (.cells #[.int .i64 0] 3 (0, 0)) ∧ Below w.heap.size w W
def PlX (w : World) (c : Code) (pre : List (Nat × Int × ByteArray)) (W : World) : Prop :=
  c = .ret ∧ (∃ p, (∀ rest, placeOf (pre ++ rest) = p) ∧ W.heap[w.heap.size]? = some (.cells #[.int .i64 p] 3 (0, 0))) ∧ Below w.heap.size w W

end Go.Proofs.YtlpjdknmnomdlaaDoor

/-! Package fault: Total of an error whose row is known. -/
namespace Go.Proofs.YtlpjdknmnomdlaaDoor
open Go Go.RowKit

attribute [local go_sem] Oper.semAt_some

def totalOf (l : List (Nat × Int × ByteArray)) : Int := l.foldl (fun a x => IntKind.i64.wrap (a + x.2.1)) 0
theorem totalOf_snoc (l : List (Nat × Int × ByteArray)) (x : Nat × Int × ByteArray) : totalOf (l ++ [x]) = IntKind.i64.wrap (totalOf l + x.2.1) := by simp [totalOf]

def ToI (w : World) (pre : List (Nat × Int × ByteArray)) (W : World) : Prop :=
  W.heap[w.heap.size]? = some (.cells #[.int .i64 (totalOf pre)] 3 (0, 0)) ∧ Below w.heap.size w W

end Go.Proofs.YtlpjdknmnomdlaaDoor

/-! Package fault: Whats of an error whose row is known. -/
namespace Go.Proofs.YtlpjdknmnomdlaaDoor
open Go Go.RowKit

attribute [local go_sem] Oper.semAt_some

/-- append onto a row of the call's own, as one step of a region that draws its order, in whatever fence. -/
theorem stepIn_append {F : Fence} {n : Nat} {P : Program} {w : World} {ops : Array Oper} {o : Oper} {a : Act} {K : Act → World → Prop} {Q : Exit → Act → World → Prop} {E : Prop}
    (hg : o.guard = none) (s x : Operand) (t : TypeId) (hop : o.op = Op.call { callee := Callee.builtin Builtin.append, args := #[s, x], argTypes := #[t, t] })
    (base : Nat) (e : TypeId) (i : TypeInfo) (z : Value) (size bytes : Nat) (h1 : P.underlying t = some (.slice e)) (h2 : P.info? e = some i) (h3 : i.zero = some z) (h4 : i.size = size) (h5 : i.bytes = bytes) (h6 : z.cells.size = size) (h7 : 0 < size)
    (v : Value) (k : Nat) (xs : List Value) (hs : a.eval s = v) (hown : w.ownsRow base e size v k xs) (ad : Addr) (m c : Nat) (news : List Value) (hx : a.eval x = .slice (some ad) m c) (hn : news.length = m * size)
    (hc : ∀ j u, news[j]? = some u → w.cell? (ad.add j) = some u) (h1c : ∀ u ∈ news, u.oneCell' = true) (b1 : k + m ≤ maxLen) (b2 : (k + m) * bytes ≤ 140737488355328) (b3 : base ≤ w.heap.size)
    (hK : ∀ v' w', w'.ownsRow base e size v' (k + m) (xs ++ news) → w.grownBy w' v.ownBlock → K (a.put o.dst v') w') :
    if Region.wanted o (yielded ops a.tmps) = true then Oper.wpIn F n P o a w K Q else E := by
  have hw : Region.wanted o (yielded ops a.tmps) = true := by simp [Region.wanted, hg]
  rw [if_pos hw]
  obtain ⟨v', w', hrun, r1, r2, _⟩ := run_append_own (P := P) w base t o.type e i z size bytes h1 h2 h3 h4 h5 h6 h7 v k xs hown ad m c news hn hc h1c b1 b2 b3
  unfold Oper.wpIn
  refine ⟨?_, ?_⟩
  · simp [Oper.about, hop, resolve, Target.leads, Sem.run_pure]
  · rw [Oper.semAt_plain F _ _ (by rw [hop]; intro c hc'; cases hc')]
    simp [execOp, hop, resolve, invoke, builtin, hs, hx, hrun, Result.andThen]
    exact hK v' w' r1 r2

theorem fsOf_length (xs : List El) : (fsOf xs).length ≤ xs.length := by
  induction xs with
  | nil => simp [fsOf]
  | cons x r ih => cases x <;> simp [fsOf] <;> omega
def whats (l : List (Nat × Int × ByteArray)) : List Value := l.map fun x => .string x.2.2
theorem stringInfo : (Tryd.prog.info? 9).map (fun i => (i.zero, i.size, i.bytes)) = some (some (.string ByteArray.empty), 1, 16) := by kernel_rfl

def WhI (w : World) (pre : List (Nat × Int × ByteArray)) (W : World) : Prop :=
  ∃ v, W.heap[w.heap.size]? = some (.cells #[v] 44 (0, 0)) ∧ W.ownsRow (w.heap.size + 2) 9 1 v pre.length (whats pre) ∧ Below w.heap.size w W ∧ w.heap.size + 2 ≤ W.heap.size

theorem ownFrom_row {β : Type} {B base : Nat} {e : TypeId} {sz : Nat} {v : Value} {n : Nat} {xs : List Value} : OwnFrom B (fun (_ : β) W => W.ownsRow base e sz v n xs) := fun _ X Y row hs hg hr => by
  refine hs.kept hg ?_
  rcases hs.2 with ⟨rfl, _⟩ | ⟨g, cap, cur, rfl, _, hb, _⟩
  · exact .inl rfl
  · refine .inr (fun e => ?_)
    obtain ⟨_, o, ho, hc⟩ := hr g e.symm
    rw [hb] at ho
    cases ho
    simp [Obj.isCells] at hc

/-- What a round of Whats may turn: rows of texts. -/
def frS : Obj → Bool
  | .cells _ t _ => t == 9
  | _ => false
theorem frS_cells (o : Obj) (h : frS o = true) : o.isCells = true := by
  cases o <;> first | rfl | cases h

theorem owns_shape0 {w : World} {B : Nat} {e : TypeId} {sz : Nat} {v : Value} {n : Nat} {xs : List Value} (h : w.ownsRow B e sz v n xs) : v = .slice none 0 0 ∨ ∃ g cap, v = .slice (some ⟨g, 0, none⟩) n cap := by
  rcases h.2 with ⟨h, _⟩ | ⟨g, cap, _, h, _⟩
  · exact .inl h
  · exact .inr ⟨g, cap, h⟩

theorem wh_app {lo hi : Nat} {w W3 w1 : World} {j : Nat} {v v' s : Value} {xs ys : List Value}
    (hR : W3.heap[w.heap.size]? = some (.cells #[v] 44 (0, 0))) (hown : W3.ownsRow (w.heap.size + 2) 9 1 v j xs) (hB : Below w.heap.size w W3) (hsz : w.heap.size + 2 ≤ W3.heap.size) (hlo : lo ≤ w.heap.size)
    (hown1 : w1.ownsRow (w.heap.size + 2) 9 1 v' (j + 1) ys) (hgrow : ((W3.alloc (.cells #[s] 9)).drew).grownBy w1 v.ownBlock) :
    ∃ g' cap', v' = .slice (some ⟨g', 0, none⟩) (j + 1) cap' ∧ w.heap.size + 2 ≤ g' ∧ w1.cell? ⟨w.heap.size, 0, none⟩ = some v ∧ w1.frozen? ⟨w.heap.size, 0, none⟩ = false ∧ Keep lo hi frS W3 w1 ∧
      Hid (Below w.heap.size w w1 ∧ w.heap.size + 2 ≤ w1.heap.size ∧ w1.heap[w.heap.size]? = some (.cells #[v] 44 (0, 0))) := by
  have hgs := hgrow.size
  have hsd : (W3.alloc (.cells #[s] 9)).drew.heap.size = W3.heap.size + 1 := by show (W3.alloc _).heap.size = _; simp
  have hne : ∀ r, v.ownBlock = some r → w.heap.size + 2 ≤ r := fun r e => (hown.lt r e).1
  have hblk : ∀ k, k < W3.heap.size → (W3.alloc (.cells #[s] 9)).drew.heap[k]? = W3.heap[k]? := fun k hk => Below.heap_alloc W3 _ k hk
  have hR1' : w1.heap[w.heap.size]? = some (.cells #[v] 44 (0, 0)) := (hgrow.block _ (by omega) (fun e => by have := hne _ e.symm; omega)).trans ((hblk _ (by omega)).trans hR)
  have hB1 : Below w.heap.size w w1 := ((hB.alloc hB.size _).drew).grown hgrow (by omega) (fun r e => by have := hne r e; omega)
  obtain ⟨g', cap', rfl⟩ := ownsRow_succ hown1
  refine ⟨g', cap', rfl, (hown1.lt g' rfl).1, cell_of_one hR1', free_of_one hR1', ?_, hB1, by omega, hR1'⟩
  refine (Keep.of_below (A := W3) (((Below.refl _ W3).alloc (Nat.le_refl _) _).drew)).trans (Keep.grown hgrow (fun r e => ?_))
  have hr := hne r e
  refine ⟨by omega, .inr ?_⟩
  rcases hown.2 with ⟨rfl, _⟩ | ⟨g, cap, cur, rfl, _, hb, _⟩
  · cases e
  · cases e
    exact ⟨_, (hblk g (Array.getElem?_eq_some_iff.1 hb).1).trans hb, by simp [frS]⟩

end Go.Proofs.YtlpjdknmnomdlaaDoor

/-! Package fault: New and Wrap; and the chapter's example, asked of Kind, Place and Total. -/
namespace Go.Proofs.YtlpjdknmnomdlaaDoor
open Go Go.RowKit

end Go.Proofs.YtlpjdknmnomdlaaDoor

/-! The statements' own function row: a row of items, cut to nine, their texts to twelve bytes. -/
namespace Go.Proofs.YtlpjdknmnomdlaaDoor
open Go Go.RowKit

abbrev Item := Int × ByteArray
def icells (l : List Item) : List Value := l.flatMap fun x => [.int .i64 x.1, .string x.2]
theorem icells_length (l : List Item) : (icells l).length = l.length * 2 := by
  induction l with
  | nil => rfl
  | cons x r ih => simp [icells] at ih ⊢; omega
theorem icells_append (a b : List Item) : icells (a ++ b) = icells a ++ icells b := by simp [icells]
def tr12 (s : ByteArray) : ByteArray := if 12 < s.size then s.extract 0 12 else s
def cutItems (l : List Item) : List Item := (l.take 9).map fun x => (x.1, tr12 x.2)

/-- A slice of items that came in, as it reads. -/
def ItemsAt (w : World) (v : Value) (its : List Item) : Prop :=
  (v = .slice none 0 0 ∧ its = []) ∨ ∃ a cap, v = .slice (some a) its.length cap ∧ its.length ≤ cap ∧ cap ≤ maxLen ∧
    ∀ i x, its[i]? = some x → w.cell? (a.add (i * 2)) = some (.int .i64 x.1) ∧ w.cell? (a.add (i * 2 + 1)) = some (.string x.2)

theorem lt_of_cell' {W : World} {a : Addr} {v : Value} (h : W.cell? a = some v) : a.block < W.heap.size := by
  rcases Nat.lt_or_ge a.block W.heap.size with h' | h'
  · exact h'
  · simp [World.cell?, Array.getElem?_eq_none h'] at h
theorem two_cells {W : World} {B : Nat} {a b : Value} {t : TypeId} (h : W.heap[B]? = some (.cells #[a, b] t (0, 0))) :
    W.cell? ⟨B, 0, none⟩ = some a ∧ W.cell? ⟨B, 1, none⟩ = some b ∧ W.frozen? ⟨B, 0, none⟩ = false ∧ W.frozen? ⟨B, 1, none⟩ = false := by
  simp [World.cell?, World.frozen?, h]
theorem two_setCell {W : World} {B : Nat} {a b : Value} {t : TypeId} (u : Value) (h : W.heap[B]? = some (.cells #[a, b] t (0, 0))) :
    (W.setCell ⟨B, 0, none⟩ u).heap[B]? = some (.cells #[u, b] t (0, 0)) := by
  obtain ⟨hl, he⟩ := Array.getElem?_eq_some_iff.1 h
  simp [World.setCell, Array.getElem?_modify, h]
theorem block_new (w : World) (o : Obj) : (w.alloc o).heap[w.heap.size]? = some o := by
  show (w.heap.push o)[w.heap.size]? = some o
  simp
theorem owns_shape {w : World} {B : Nat} {e : TypeId} {sz : Nat} {v : Value} {n : Nat} {xs : List Value} (h : w.ownsRow B e sz v n xs) : v = .slice none 0 0 ∨ ∃ g cap, v = .slice (some ⟨g, 0, none⟩) n cap := by
  rcases h.2 with ⟨h, _⟩ | ⟨g, cap, _, h, _⟩
  · exact .inl h
  · exact .inr ⟨g, cap, h⟩
theorem two_setCell1 {W : World} {B : Nat} {a b : Value} {t : TypeId} (u : Value) (h : W.heap[B]? = some (.cells #[a, b] t (0, 0))) :
    (W.setCell ⟨B, 1, none⟩ u).heap[B]? = some (.cells #[a, u] t (0, 0)) := by
  obtain ⟨hl, he⟩ := Array.getElem?_eq_some_iff.1 h
  simp [World.setCell, Array.getElem?_modify, h]
theorem ownsRow_base {w : World} {B B' : Nat} {e : TypeId} {sz : Nat} {v : Value} {n : Nat} {xs : List Value} (h : w.ownsRow B e sz v n xs) (hB : B' ≤ B) : w.ownsRow B' e sz v n xs := by
  refine ⟨h.1, ?_⟩
  rcases h.2 with h | ⟨g, cap, cur, h1, h2, h3⟩
  · exact .inl h
  · exact .inr ⟨g, cap, cur, h1, by omega, h3⟩
end Go.Proofs.YtlpjdknmnomdlaaDoor
