/-
  Package fault: what lies within an error (inner), for each make of error that the statements meet.
-/
import Derived.Test.YtjajlfcmmgdfcaaDoorFacts
import Derived.WalkKit
import Derived.Defers
import Derived.Recover
import Derived.LaidEql
import Derived.Stop.Asserts
import Derived.RowKitTokens
import Derived.Outline
namespace Go.Proofs.YtjajlfcmmgdfcaaDoor
open Go Go.RowKit

theorem unwrap_f (b : Nat) (v : Value) (w : World) (hc : w.cell? ⟨b, 2, none⟩ = some v) :
    Calls Tryd.prog 87 #[.pointer (some ⟨b, 0, none⟩)] w fun e w' => e = .returned v ∧ w = w' := by
  go_enter Tryd.func87, Tryd.ntmps87
  go_wp2
  go_ret
  exact ⟨rfl, rfl⟩

theorem unwrap_nil (w : World) :
    Calls Tryd.prog 87 #[.pointer none] w fun e w' => e = .returned .nilIface ∧ w = w' := by
  go_enter Tryd.func87, Tryd.ntmps87
  go_wp2
  go_ret
  exact ⟨rfl, rfl⟩

theorem rec_inner (w : World) :
    CallsD Tryd.prog 56 #[] .returning w fun e u' w' => e = .returned (.tuple #[]) ∧ u' = .returning ∧ w' = w := by
  refine callsD_of_wpS Tryd.func56 rfl fun c₀ cs hu => ?_
  apply wpS_region
  cases c₀
  simp_all [wpOpsS, go_sem, recoverD, bodyPostS, results, Tryd.results56, Tryd.ntmps56]

theorem inner_errno (k : Int) (w : World) :
    Calls Tryd.prog 43 #[.iface 37 (.int .i64 k)] w fun e w' => e = .returned .nilIface ∧ w = w' := by
  have ta := erNoWrapper
  go_enter_defers Tryd.func43, Tryd.ntmps43
  go_wp2
  refine leaves_cons (f := 56) (args := #[]) (by simp) (by simp [go_sem]) ?_
  refine (rec_inner _).mono ?_
  rintro e u' w'' ⟨rfl, rfl, rfl⟩
  simp [Leaves, settle, results, Tryd.results43, go_sem]

set_option maxRecDepth 100000 in
theorem inner_fault (b : Nat) (v : Value) (w : World) (hc : w.cell? ⟨b, 2, none⟩ = some v) :
    Calls Tryd.prog 43 #[.iface 57 (.pointer (some ⟨b, 0, none⟩))] w fun e w' => e = .returned v ∧ Below w.heap.size w w' := by
  have ta := faWrapper
  have mu := faUnwrap
  go_enter_defers Tryd.func43, Tryd.ntmps43
  go_wp2_with fail
  refine (unwrap_f b v _ hc).mono ?_
  rintro e w' ⟨rfl, rfl⟩
  go_wp2
  refine leaves_cons (f := 56) (args := #[]) (by simp) (by simp [go_sem]) ?_
  refine (rec_inner _).mono ?_
  rintro e u' w'' ⟨rfl, rfl, rfl⟩
  simp [Leaves, settle, results, Tryd.results43, go_sem, Below.refl]

theorem alone_errno (k : Int) (w : World) :
    Calls Tryd.prog 46 #[.iface 37 (.int .i64 k)] w fun e w' => e = .returned (.iface 37 (.int .i64 k)) ∧ w = w' := by
  have t1 := erNoWrapper
  have t2 := erNoWrappers
  go_enter Tryd.func46, Tryd.ntmps46
  go_wp2
  go_ret
  exact ⟨rfl, rfl⟩

theorem alone_fault (v : Value) (w : World) :
    Calls Tryd.prog 46 #[.iface 57 v] w fun e w' => e = .returned (.iface 104 (.agg #[.iface 57 v])) ∧ w = w' := by
  have t1 := faWrapper
  have t2 := faNoWrappers
  go_enter Tryd.func46, Tryd.ntmps46
  go_wp2
  go_ret
  exact ⟨rfl, rfl⟩

theorem shell_as_fault (v t : Value) (w : World) :
    Calls Tryd.prog 92 #[.agg #[.iface 57 v], t] w fun e w' => e = .returned (.bool false) ∧ Below w.heap.size w w' := by
  have t1 := faNoAs
  go_enter Tryd.func92, Tryd.ntmps92
  go_wp2
  go_ret
  exact ⟨rfl, (Below.refl _ _).alloc (Nat.le_refl _) _⟩

end Go.Proofs.YtjajlfcmmgdfcaaDoor
