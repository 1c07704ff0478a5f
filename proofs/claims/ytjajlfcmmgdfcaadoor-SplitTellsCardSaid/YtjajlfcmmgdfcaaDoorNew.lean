/-
  Package fault: New and Wrap; and the chapter's example, asked of Kind, Place and Total.
-/
import Derived.Test.YtjajlfcmmgdfcaaDoorTotal
import Derived.Deep.RegionHeld3
namespace Go.Proofs.YtjajlfcmmgdfcaaDoor
open Go Go.RowKit

theorem new_ok (p : Int) (s : ByteArray) (w : World) :
    Calls Tryd.prog 28 #[.int .i64 0, .int .i64 p, .string s] w fun e w' => e = .returned .nilIface ∧ w = w' := by
  go_enter Tryd.func28, Tryd.ntmps28
  go_wp2
  go_ret
  exact ⟨rfl, rfl⟩
theorem new_any (k p : Int) (s : ByteArray) (w : World) (hk : (k == 0) = false) :
    Calls Tryd.prog 28 #[.int .i64 k, .int .i64 p, .string s] w fun e w' => e = .returned (.iface 57 (.pointer (some ⟨w.heap.size, 0, none⟩))) ∧ w.alloc (faultObj p s (.iface 37 (.int .i64 k))) = w' := by
  go_enter Tryd.func28, Tryd.ntmps28
  go_wp2
  go_ret
  exact ⟨rfl, rfl⟩
/-- A fault made of a number. -/
theorem Chain.new (k p : Int) (s : ByteArray) (w : World) :
    Chain (w.alloc (faultObj p s (.iface 37 (.int .i64 k)))) (w.heap.size + 1) (.iface 57 (.pointer (some ⟨w.heap.size, 0, none⟩))) [.fault w.heap.size p s, .num k] :=
  ⟨rfl, Nat.lt_succ_self _, _, World.alloc_heap_new _ _, rfl, rfl⟩
/-- A fault made around an error. -/
theorem Chain.wrap {n : Nat} {v : Value} {xs : List El} {w : World} (p : Int) (s : ByteArray) (h : Chain w n v xs) (hn : n ≤ w.heap.size) :
    Chain (w.alloc (faultObj p s v)) (w.heap.size + 1) (.iface 57 (.pointer (some ⟨w.heap.size, 0, none⟩))) (.fault w.heap.size p s :: xs) :=
  ⟨rfl, Nat.lt_succ_self _, _, World.alloc_heap_new _ _, (h.mono hn).below ((Below.refl _ w).alloc (Nat.le_refl _) _) (Nat.le_refl _)⟩

end Go.Proofs.YtjajlfcmmgdfcaaDoor
