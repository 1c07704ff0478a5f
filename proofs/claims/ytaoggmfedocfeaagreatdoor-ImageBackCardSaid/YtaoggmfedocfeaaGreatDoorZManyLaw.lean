/-
  ImageMany: of more than 4000 things of a kind there is no image; of so many there is.
-/
import Derived.Test.YtaoggmfedocfeaaGreatDoorZMany
namespace Go.Proofs.YtaoggmfedocfeaaGreatDoor
open Go Go.RowKit

/-- What the loop has made. -/
structure MaI (w wr : World) (B : Nat) (v : Value) (k : Nat) : Prop where
  blk : wr.heap[B]? = some (.cells #[.slice none 0 0, .slice none 0 0, v, .slice none 0 0, .int .i64 0, .int .i64 0] 33 (0, 0))
  own : wr.ownsRow (B + 1) 43 9 v k (cellsM k)
  bel : Below w.heap.size w wr
  low : w.heap.size ≤ B
theorem MaI.grown {w wr w2 : World} {B : Nat} {v : Value} {k : Nat} {o : Obj} (h : MaI w wr B v k) (hg : (wr.alloc o).grownBy w2 v.ownBlock) :
    w2.heap[B]? = some (.cells #[.slice none 0 0, .slice none 0 0, v, .slice none 0 0, .int .i64 0, .int .i64 0] 33 (0, 0)) ∧ Below w.heap.size w w2 := by
  have hl := lt_of_block h.blk
  have hlow := h.low
  refine ⟨(hg.block _ (by simp; omega) (fun e => by have := (h.own.lt B e.symm).1; omega)).trans ((Below.heap_alloc _ _ _ hl).trans h.blk), ?_⟩
  exact (h.bel.alloc h.bel.size o).grown hg (by simp; omega) (fun r e => by have := (h.own.lt r e).1; omega)
theorem MaI.push {w wr w2 : World} {B : Nat} {v v' : Value} {k : Nat} {o : Obj} (h : MaI w wr B v k) (hg : (wr.alloc o).grownBy w2 v.ownBlock) (h1 : w2.ownsRow (B + 1) 43 9 v' (k + 1) (cellsM k ++ rlC (ruleM k))) : MaI w (w2.setCell ⟨B, 2, none⟩ v') B v' (k + 1) := by
  obtain ⟨g1, g2⟩ := h.grown hg
  refine ⟨setY g1 v', ?_, g2.setCell (p := ⟨B, 2, none⟩) h.low v', h.low⟩
  rw [cellsM_succ]
  exact ownsRow_setCell_other h1 (fun e => by have := (h1.lt _ e).1; simp at this; omega) v'
end Go.Proofs.YtaoggmfedocfeaaGreatDoor
