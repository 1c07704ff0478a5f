/-
  Package fault: what lies within an error (inner), for each make of error that the statements meet.
-/
import Derived.Test.YtbpihlndojnlcaaDoorFacts
import Derived.WalkKit
import Derived.Defers
import Derived.Recover
import Derived.LaidEql
import Derived.Stop.Asserts
import Derived.RowKitTokens
import Derived.Outline
namespace Go.Proofs.YtbpihlndojnlcaaDoor
open Go Go.RowKit

theorem unwrap_f (b : Nat) (v : Value) (w : World) (hc : w.cell? ⟨b, 2, none⟩ = some v) :
    Calls Tryd.prog 19 #[.pointer (some ⟨b, 0, none⟩)] w fun e w' => e = .returned v ∧ w = w' := by
  go_enter Tryd.func19, Tryd.ntmps19
  go_wp2
  go_ret
  exact ⟨rfl, rfl⟩

theorem unwrap_nil (w : World) :
    Calls Tryd.prog 19 #[.pointer none] w fun e w' => e = .returned .nilIface ∧ w = w' := by
  go_enter Tryd.func19, Tryd.ntmps19
  go_wp2
  go_ret
  exact ⟨rfl, rfl⟩

theorem rec_inner (w : World) :
    CallsD Tryd.prog 43 #[] .returning w fun e u' w' => e = .returned (.tuple #[]) ∧ u' = .returning ∧ w' = w := by
  refine callsD_of_wpS Tryd.func43 rfl fun c₀ cs hu => ?_
  apply wpS_region
  cases c₀
  simp_all [wpOpsS, go_sem, recoverD, bodyPostS, results, Tryd.results43, Tryd.ntmps43]

theorem inner_errno (k : Int) (w : World) :
    Calls Tryd.prog 34 #[.iface 24 (.int .i64 k)] w fun e w' => e = .returned .nilIface ∧ w = w' := by
  have ta := erNoWrapper
  go_enter_defers Tryd.func34, Tryd.ntmps34
  go_wp2
  refine leaves_cons (f := 43) (args := #[]) (by simp) (by simp [go_sem]) ?_
  refine (rec_inner _).mono ?_
  rintro e u' w'' ⟨rfl, rfl, rfl⟩
  simp [Leaves, settle, results, Tryd.results34, go_sem]

set_option maxRecDepth 100000 in
theorem inner_fault (b : Nat) (v : Value) (w : World) (hc : w.cell? ⟨b, 2, none⟩ = some v) :
    Calls Tryd.prog 34 #[.iface 42 (.pointer (some ⟨b, 0, none⟩))] w fun e w' => e = .returned v ∧ Below w.heap.size w w' := by
  have ta := faWrapper
  have mu := faUnwrap
  go_enter_defers Tryd.func34, Tryd.ntmps34
  go_wp2_with fail
  refine (unwrap_f b v _ hc).mono ?_
  rintro e w' ⟨rfl, rfl⟩
  go_wp2
  refine leaves_cons (f := 43) (args := #[]) (by simp) (by simp [go_sem]) ?_
  refine (rec_inner _).mono ?_
  rintro e u' w'' ⟨rfl, rfl, rfl⟩
  simp [Leaves, settle, results, Tryd.results34, go_sem, Below.refl]

theorem unwrap_s (v : Value) (w : World) :
    Calls Tryd.prog 84 #[.agg #[v]] w fun e w' => e = .returned v ∧ Below w.heap.size w w' := by
  go_enter Tryd.func84, Tryd.ntmps84
  go_wp2
  go_ret
  exact ⟨rfl, (Below.refl _ _).alloc (Nat.le_refl _) _⟩

set_option maxRecDepth 100000 in
theorem inner_strange (v : Value) (w : World) :
    Calls Tryd.prog 34 #[.iface 52 (.agg #[v])] w fun e w' => e = .returned v ∧ Below w.heap.size w w' := by
  have ta := stWrapper
  have mu := stUnwrap
  go_enter_defers Tryd.func34, Tryd.ntmps34
  go_wp2_with fail
  refine (unwrap_s v _).mono ?_
  rintro e w' ⟨rfl, hb⟩
  go_wp2
  refine leaves_cons (f := 43) (args := #[]) (by simp) (by simp [go_sem]) ?_
  refine (rec_inner _).mono ?_
  rintro e u' w'' ⟨rfl, rfl, rfl⟩
  simp [Leaves, settle, results, Tryd.results34, go_sem, hb]

theorem alone_errno (k : Int) (w : World) :
    Calls Tryd.prog 37 #[.iface 24 (.int .i64 k)] w fun e w' => e = .returned (.iface 24 (.int .i64 k)) ∧ w = w' := by
  have t1 := erNoWrapper
  have t2 := erNoWrappers
  go_enter Tryd.func37, Tryd.ntmps37
  go_wp2
  go_ret
  exact ⟨rfl, rfl⟩

theorem alone_fault (v : Value) (w : World) :
    Calls Tryd.prog 37 #[.iface 42 v] w fun e w' => e = .returned (.iface 95 (.agg #[.iface 42 v])) ∧ w = w' := by
  have t1 := faWrapper
  have t2 := faNoWrappers
  go_enter Tryd.func37, Tryd.ntmps37
  go_wp2
  go_ret
  exact ⟨rfl, rfl⟩

theorem alone_strange (v : Value) (w : World) :
    Calls Tryd.prog 37 #[.iface 52 v] w fun e w' => e = .returned (.iface 95 (.agg #[.iface 52 v])) ∧ w = w' := by
  have t1 := stWrapper
  have t2 := stNoWrappers
  go_enter Tryd.func37, Tryd.ntmps37
  go_wp2
  go_ret
  exact ⟨rfl, rfl⟩

theorem shell_as_fault (v t : Value) (w : World) :
    Calls Tryd.prog 89 #[.agg #[.iface 42 v], t] w fun e w' => e = .returned (.bool false) ∧ Below w.heap.size w w' := by
  have t1 := faNoAs
  go_enter Tryd.func89, Tryd.ntmps89
  go_wp2
  go_ret
  exact ⟨rfl, (Below.refl _ _).alloc (Nat.le_refl _) _⟩

theorem shell_is_fault (v t : Value) (w : World) :
    Calls Tryd.prog 90 #[.agg #[.iface 42 v], t] w fun e w' => e = .returned (.bool false) ∧ Below w.heap.size w w' := by
  have t1 := faNoIs
  go_enter Tryd.func90, Tryd.ntmps90
  go_wp2
  go_ret
  exact ⟨rfl, (Below.refl _ _).alloc (Nat.le_refl _) _⟩

theorem shell_as_strange (v t : Value) (w : World) :
    Calls Tryd.prog 89 #[.agg #[.iface 52 v], t] w fun e w' => e = .returned (.bool false) ∧ Below w.heap.size w w' := by
  have t1 := stNoAs
  go_enter Tryd.func89, Tryd.ntmps89
  go_wp2
  go_ret
  exact ⟨rfl, (Below.refl _ _).alloc (Nat.le_refl _) _⟩

theorem shell_is_strange (v t : Value) (w : World) :
    Calls Tryd.prog 90 #[.agg #[.iface 52 v], t] w fun e w' => e = .returned (.bool false) ∧ Below w.heap.size w w' := by
  have t1 := stNoIs
  go_enter Tryd.func90, Tryd.ntmps90
  go_wp2
  go_ret
  exact ⟨rfl, (Below.refl _ _).alloc (Nat.le_refl _) _⟩
end Go.Proofs.YtbpihlndojnlcaaDoor
