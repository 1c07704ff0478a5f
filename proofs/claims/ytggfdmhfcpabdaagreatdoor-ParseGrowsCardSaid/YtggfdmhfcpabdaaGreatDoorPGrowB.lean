/-
  ParseGrows: an empty row that the text writes out.
-/
import Derived.Test.YtggfdmhfcpabdaaGreatDoorPGrowW
namespace Go.Proofs.YtggfdmhfcpabdaaGreatDoor
open Go Go.RowKit

theorem wpList_build_none (w : World) {ops : Array Oper} {rest : List Oper} {o : Oper} {a : Act} {Q : Exit → Act → World → Prop} (hg : o.guard = none) (hop : o.op = Op.buildSlice 28 0 #[])
    (hK : wpList Tryz.prog ops Q rest (a.put o.dst (.slice (some ⟨w.heap.size, 0, none⟩) 0 0)) (w.alloc (.cells #[] 9))) : wpList Tryz.prog ops Q (o :: rest) a w := by
  refine wpList_plain hg fun K hK' => ?_
  unfold Oper.wp
  simp [execOp, hop, Result.andThen, go_sem]
  exact hK' _ _ hK
theorem wpList_build_noneX (w : World) {ops : Array Oper} {rest : List Oper} {o : Oper} {a : Act} {Q : Exit → Act → World → Prop} (hg : o.guard = none) (hop : o.op = Op.buildSlice 29 0 #[])
    (hK : wpList Tryz.prog ops Q rest (a.put o.dst (.slice (some ⟨w.heap.size, 0, none⟩) 0 0)) (w.alloc (.cells #[] 48))) : wpList Tryz.prog ops Q (o :: rest) a w := by
  refine wpList_plain hg fun K hK' => ?_
  unfold Oper.wp
  simp [execOp, hop, Result.andThen, go_sem]
  exact hK' _ _ hK
end Go.Proofs.YtggfdmhfcpabdaaGreatDoor
