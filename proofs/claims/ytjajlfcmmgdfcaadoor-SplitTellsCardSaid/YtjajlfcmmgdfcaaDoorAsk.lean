/-
  Package fault: one error of a row asked by itself: asErrno and isErrno.
-/
import Derived.Test.YtjajlfcmmgdfcaaDoorAs
import Derived.Test.YtjajlfcmmgdfcaaDoorIs
namespace Go.Proofs.YtjajlfcmmgdfcaaDoor
open Go Go.RowKit

/-- The library's variable errors.errorType is as start-up lays it. -/
def TypeLaid (w : World) : Prop := w.cell? ⟨0, 0, none⟩ = some (.iface 107 (.agg #[.pointer (some ⟨2, 35, none⟩)]))
theorem TypeLaid.below {B : Nat} {w w' : World} (h : TypeLaid w) (hb : Below B w w') (hB : 0 < B) : TypeLaid w' := (hb.cell (p := ⟨0, 0, none⟩) hB).trans h
theorem TypeLaid.size {w : World} (h : TypeLaid w) : 0 < w.heap.size := lt_of_cell (a := ⟨0, 0, none⟩) h

theorem rec_as (w : World) :
    CallsD Tryd.prog 44 #[] .returning w fun e u' w' => e = .returned (.tuple #[]) ∧ u' = .returning ∧ w' = w := by
  refine callsD_of_wpS Tryd.func44 rfl fun c₀ cs hu => ?_
  apply wpS_region
  cases c₀
  simp_all [wpOpsS, go_sem, recoverD, bodyPostS, results, Tryd.results44, Tryd.ntmps44]
theorem asErrno_errno (k : Int) (w : World) (hg : TypeLaid w) :
    Calls Tryd.prog 32 #[.iface 37 (.int .i64 k)] w fun e w' => e = .returned (.tuple #[.int .i64 k, .bool true]) ∧ Below w.heap.size w w' := by
  have hA : Below w.heap.size w (w.alloc (.cells #[.int .i64 0] 37)) := (Below.refl _ w).alloc (Nat.le_refl _) _
  have HG := Lib.hid (hg.below hA hg.size)
  clear hg
  go_enter_defers Tryd.func32, Tryd.ntmps32
  go_wp2_with fail
  refine (alone_errno k _).mono ?_
  rintro e w' ⟨rfl, rfl⟩
  go_wp2_with fail
  refine (as_hit k ⟨w.heap.size, 0, none⟩ (.int .i64 0) _ HG.out (by simp) (by simp)).mono ?_
  rintro e w' ⟨rfl, w1, hb, rfl⟩
  have hc1 : w1.cell? ⟨w.heap.size, 0, none⟩ = some (.int .i64 0) := (hb.cell (p := ⟨w.heap.size, 0, none⟩) (by simp)).trans (by simp)
  have hf1 : w1.frozen? ⟨w.heap.size, 0, none⟩ = false := (hb.frozen (p := ⟨w.heap.size, 0, none⟩) (by simp)).trans (by simp)
  go_wp2
  refine leaves_cons (f := 44) (args := #[]) (by simp) (by simp [go_sem]) ?_
  refine (rec_as _).mono ?_
  rintro e u' w'' ⟨rfl, rfl, rfl⟩
  have hB := (hA.trans (hb.mono (by simp))).setCell (p := ⟨w.heap.size, 0, none⟩) (Nat.le_refl _) (.int .i64 k)
  simp [Leaves, settle, results, Tryd.results32, go_sem, hc1, hB.setCell]

theorem asErrno_shell (y x : Value) (hal : ∀ w, Calls Tryd.prog 46 #[y] w fun e w' => e = .returned (.iface 104 (.agg #[x])) ∧ w = w')
    (hx : ∀ (t : Value) (w : World), Calls Tryd.prog 92 #[.agg #[x], t] w fun e w' => e = .returned (.bool false) ∧ Below w.heap.size w w') (w : World) (hg : TypeLaid w) :
    Calls Tryd.prog 32 #[y] w fun e w' => e = .returned (.tuple #[.int .i64 0, .bool false]) ∧ Below w.heap.size w w' := by
  have HA := Lib.hid hal
  have HX := Lib.hid hx
  clear hal hx
  have hA : Below w.heap.size w (w.alloc (.cells #[.int .i64 0] 37)) := (Below.refl _ w).alloc (Nat.le_refl _) _
  have HG := Lib.hid (hg.below hA hg.size)
  clear hg
  go_enter_defers Tryd.func32, Tryd.ntmps32
  go_wp2_with fail
  refine (HA.out _).mono ?_
  rintro e w' ⟨rfl, rfl⟩
  go_wp2_with fail
  refine (as_miss_shape x HX.out ⟨w.heap.size, 0, none⟩ (.int .i64 0) _ HG.out (by simp)).mono ?_
  rintro e w1 ⟨rfl, hb⟩
  have hc1 : w1.cell? ⟨w.heap.size, 0, none⟩ = some (.int .i64 0) := (hb.cell (p := ⟨w.heap.size, 0, none⟩) (by simp)).trans (by simp)
  have hf1 : w1.frozen? ⟨w.heap.size, 0, none⟩ = false := (hb.frozen (p := ⟨w.heap.size, 0, none⟩) (by simp)).trans (by simp)
  go_wp2
  refine leaves_cons (f := 44) (args := #[]) (by simp) (by simp [go_sem]) ?_
  refine (rec_as _).mono ?_
  rintro e u' w'' ⟨rfl, rfl, rfl⟩
  have hB := (hA.trans (hb.mono (by simp))).setCell (p := ⟨w.heap.size, 0, none⟩) (Nat.le_refl _) (.int .i64 0)
  simp [Leaves, settle, results, Tryd.results32, go_sem, hc1, hB]
end Go.Proofs.YtjajlfcmmgdfcaaDoor
