/-
  Closed facts on the dump: what type assertions find at the makes of errors that the statements meet.
-/
import Derived.Test.YtjajlfcmmgdfcaaDoorProg
import Derived.WalkKit
import Derived.LaidEql
import Derived.Stop.Asserts
import Derived.RowKitTokens
namespace Go.Proofs.YtjajlfcmmgdfcaaDoor
open Go Go.RowKit

theorem erNoWrapper (v : Value) (xT : TypeId) (w : World) : (Instr.typeAssert (.iface 37 v) xT 86 true).run Tryd.prog w = .ok (.tuple #[.nilIface, .bool false]) w := run_typeAssert_lacksB Tryd.underlying86 (by kernel_rfl) (by kernel_rfl) v xT w
theorem erNoWrappers (v : Value) (xT : TypeId) (w : World) : (Instr.typeAssert (.iface 37 v) xT 102 true).run Tryd.prog w = .ok (.tuple #[.nilIface, .bool false]) w := run_typeAssert_lacksB Tryd.underlying102 (by kernel_rfl) (by kernel_rfl) v xT w
theorem erNoU (v : Value) (xT : TypeId) (w : World) : (Instr.typeAssert (.iface 37 v) xT 85 true).run Tryd.prog w = .ok (.tuple #[.nilIface, .bool false]) w := run_typeAssert_lacksB Tryd.underlying85 (by kernel_rfl) (by kernel_rfl) v xT w
theorem erNoUs (v : Value) (xT : TypeId) (w : World) : (Instr.typeAssert (.iface 37 v) xT 101 true).run Tryd.prog w = .ok (.tuple #[.nilIface, .bool false]) w := run_typeAssert_lacksB Tryd.underlying101 (by kernel_rfl) (by kernel_rfl) v xT w
theorem erNoFault (v : Value) (xT : TypeId) (w : World) : (Instr.typeAssert (.iface 37 v) xT 57 true).run Tryd.prog w = .ok (.tuple #[.pointer none, .bool false]) w := by kernel_rfl

theorem faWrapper (v : Value) (xT : TypeId) (w : World) : (Instr.typeAssert (.iface 57 v) xT 86 true).run Tryd.prog w = .ok (.tuple #[.iface 57 v, .bool true]) w := run_typeAssert_hasB Tryd.underlying86 (by kernel_rfl) v xT w
theorem faNoWrappers (v : Value) (xT : TypeId) (w : World) : (Instr.typeAssert (.iface 57 v) xT 102 true).run Tryd.prog w = .ok (.tuple #[.nilIface, .bool false]) w := run_typeAssert_lacksB Tryd.underlying102 (by kernel_rfl) (by kernel_rfl) v xT w
theorem faNoAs (v : Value) (xT : TypeId) (w : World) : (Instr.typeAssert (.iface 57 v) xT 112 true).run Tryd.prog w = .ok (.tuple #[.nilIface, .bool false]) w := run_typeAssert_lacksB Tryd.underlying112 (by kernel_rfl) (by kernel_rfl) v xT w
theorem faFault (v : Value) (xT : TypeId) (w : World) : (Instr.typeAssert (.iface 57 v) xT 57 true).run Tryd.prog w = .ok (.tuple #[v, .bool true]) w := by kernel_rfl

theorem shAs (v : Value) (xT : TypeId) (w : World) : (Instr.typeAssert (.iface 104 v) xT 112 true).run Tryd.prog w = .ok (.tuple #[.iface 104 v, .bool true]) w := run_typeAssert_hasB Tryd.underlying112 (by kernel_rfl) v xT w
theorem shNoU (v : Value) (xT : TypeId) (w : World) : (Instr.typeAssert (.iface 104 v) xT 85 true).run Tryd.prog w = .ok (.tuple #[.nilIface, .bool false]) w := run_typeAssert_lacksB Tryd.underlying85 (by kernel_rfl) (by kernel_rfl) v xT w
theorem shNoUs (v : Value) (xT : TypeId) (w : World) : (Instr.typeAssert (.iface 104 v) xT 101 true).run Tryd.prog w = .ok (.tuple #[.nilIface, .bool false]) w := run_typeAssert_lacksB Tryd.underlying101 (by kernel_rfl) (by kernel_rfl) v xT w

theorem faUnwrap (v : Value) (w : World) : (Go.method 247 57 v "Unwrap").run Tryd.prog w = .ok (87, v) w := by kernel_rfl
theorem faError (v : Value) (w : World) : (Go.method 247 57 v "Error").run Tryd.prog w = .ok (86, v) w := by kernel_rfl
theorem erError (v : Value) (w : World) : (Go.method 247 37 v "Error").run Tryd.prog w = .ok (85, v) w := by kernel_rfl
theorem shAsM (v : Value) (w : World) : (Go.method 247 104 v "As").run Tryd.prog w = .ok (92, v) w := by kernel_rfl
end Go.Proofs.YtjajlfcmmgdfcaaDoor
