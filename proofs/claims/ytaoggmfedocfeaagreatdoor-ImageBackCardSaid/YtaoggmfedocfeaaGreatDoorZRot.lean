/-
  An image and a copy of it in memory, a row of the copy after another turned. (Printed by wip/gen_zturned.py.)
-/
import Derived.Test.YtaoggmfedocfeaaGreatDoorZMade
import Derived.Test.YtaoggmfedocfeaaGreatDoorZPerm
namespace Go.Proofs.YtaoggmfedocfeaaGreatDoor
open Go Go.RowKit

structure TuI (w wx : World) (I X b : Nat) (im xi : Im) (va vl vr vm v0 v1 v3 : Value) : Prop where
  i : wx.heap[I]? = some (.cells #[va, vl, vr, vm, .int .i64 im.th, .int .i64 im.de] 33 (0, 0))
  x : wx.heap[X]? = some (.cells #[v0, v1, vr, v3, .int .i64 im.th, .int .i64 im.de] 33 (0, 0))
  o : Own4 wx b im va vl vr vm
  z : Own4 wx b xi v0 v1 vr v3
  bel : Below w.heap.size w wx
  lX : w.heap.size ≤ X
  ne : I ≠ X
  b0 : b ≤ wx.heap.size
theorem TuI.below {w wx wy : World} {I X b : Nat} {im xi : Im} {va vl vr vm v0 v1 v3 : Value} (h : TuI w wx I X b im xi va vl vr vm v0 v1 v3) (hb : Below wx.heap.size wx wy) : TuI w wy I X b im xi va vl vr vm v0 v1 v3 :=
  ⟨(hb.block _ (lt_of_block h.i)).trans h.i, (hb.block _ (lt_of_block h.x)).trans h.x, h.o.below hb, h.z.below hb, h.bel.trans (hb.mono h.bel.size), h.lX, h.ne, Nat.le_trans h.b0 hb.size⟩
theorem PermI.refl (a : Im) : PermI a a := ⟨List.Perm.refl _, List.Perm.refl _, rfl, List.Perm.refl _, rfl, rfl⟩
end Go.Proofs.YtaoggmfedocfeaaGreatDoor
