/-
  Closed facts on the dump: what type assertions find at the makes of errors that the statements meet.
-/
import Derived.Test.YtbpihlndojnlcaaDoorProg
import Derived.WalkKit
import Derived.LaidEql
import Derived.Stop.Asserts
import Derived.RowKitTokens
namespace Go.Proofs.YtbpihlndojnlcaaDoor
open Go Go.RowKit

theorem erNoWrapper (v : Value) (xT : TypeId) (w : World) : (Instr.typeAssert (.iface 24 v) xT 78 true).run Tryd.prog w = .ok (.tuple #[.nilIface, .bool false]) w := run_typeAssert_lacksB Tryd.underlying78 (by kernel_rfl) (by kernel_rfl) v xT w
theorem erNoWrappers (v : Value) (xT : TypeId) (w : World) : (Instr.typeAssert (.iface 24 v) xT 93 true).run Tryd.prog w = .ok (.tuple #[.nilIface, .bool false]) w := run_typeAssert_lacksB Tryd.underlying93 (by kernel_rfl) (by kernel_rfl) v xT w
theorem erNoIs (v : Value) (xT : TypeId) (w : World) : (Instr.typeAssert (.iface 24 v) xT 110 true).run Tryd.prog w = .ok (.tuple #[.nilIface, .bool false]) w := run_typeAssert_lacksB Tryd.underlying110 (by kernel_rfl) (by kernel_rfl) v xT w
theorem erNoU (v : Value) (xT : TypeId) (w : World) : (Instr.typeAssert (.iface 24 v) xT 77 true).run Tryd.prog w = .ok (.tuple #[.nilIface, .bool false]) w := run_typeAssert_lacksB Tryd.underlying77 (by kernel_rfl) (by kernel_rfl) v xT w
theorem erNoUs (v : Value) (xT : TypeId) (w : World) : (Instr.typeAssert (.iface 24 v) xT 92 true).run Tryd.prog w = .ok (.tuple #[.nilIface, .bool false]) w := run_typeAssert_lacksB Tryd.underlying92 (by kernel_rfl) (by kernel_rfl) v xT w
theorem erNoFault (v : Value) (xT : TypeId) (w : World) : (Instr.typeAssert (.iface 24 v) xT 42 true).run Tryd.prog w = .ok (.tuple #[.pointer none, .bool false]) w := by kernel_rfl

theorem faWrapper (v : Value) (xT : TypeId) (w : World) : (Instr.typeAssert (.iface 42 v) xT 78 true).run Tryd.prog w = .ok (.tuple #[.iface 42 v, .bool true]) w := run_typeAssert_hasB Tryd.underlying78 (by kernel_rfl) v xT w
theorem faNoWrappers (v : Value) (xT : TypeId) (w : World) : (Instr.typeAssert (.iface 42 v) xT 93 true).run Tryd.prog w = .ok (.tuple #[.nilIface, .bool false]) w := run_typeAssert_lacksB Tryd.underlying93 (by kernel_rfl) (by kernel_rfl) v xT w
theorem faNoIs (v : Value) (xT : TypeId) (w : World) : (Instr.typeAssert (.iface 42 v) xT 110 true).run Tryd.prog w = .ok (.tuple #[.nilIface, .bool false]) w := run_typeAssert_lacksB Tryd.underlying110 (by kernel_rfl) (by kernel_rfl) v xT w
theorem faNoAs (v : Value) (xT : TypeId) (w : World) : (Instr.typeAssert (.iface 42 v) xT 105 true).run Tryd.prog w = .ok (.tuple #[.nilIface, .bool false]) w := run_typeAssert_lacksB Tryd.underlying105 (by kernel_rfl) (by kernel_rfl) v xT w
theorem faFault (v : Value) (xT : TypeId) (w : World) : (Instr.typeAssert (.iface 42 v) xT 42 true).run Tryd.prog w = .ok (.tuple #[v, .bool true]) w := by kernel_rfl

theorem shAs (v : Value) (xT : TypeId) (w : World) : (Instr.typeAssert (.iface 95 v) xT 105 true).run Tryd.prog w = .ok (.tuple #[.iface 95 v, .bool true]) w := run_typeAssert_hasB Tryd.underlying105 (by kernel_rfl) v xT w
theorem shIs (v : Value) (xT : TypeId) (w : World) : (Instr.typeAssert (.iface 95 v) xT 110 true).run Tryd.prog w = .ok (.tuple #[.iface 95 v, .bool true]) w := run_typeAssert_hasB Tryd.underlying110 (by kernel_rfl) v xT w
theorem shNoU (v : Value) (xT : TypeId) (w : World) : (Instr.typeAssert (.iface 95 v) xT 77 true).run Tryd.prog w = .ok (.tuple #[.nilIface, .bool false]) w := run_typeAssert_lacksB Tryd.underlying77 (by kernel_rfl) (by kernel_rfl) v xT w
theorem shNoUs (v : Value) (xT : TypeId) (w : World) : (Instr.typeAssert (.iface 95 v) xT 92 true).run Tryd.prog w = .ok (.tuple #[.nilIface, .bool false]) w := run_typeAssert_lacksB Tryd.underlying92 (by kernel_rfl) (by kernel_rfl) v xT w

theorem stWrapper (v : Value) (xT : TypeId) (w : World) : (Instr.typeAssert (.iface 52 v) xT 78 true).run Tryd.prog w = .ok (.tuple #[.iface 52 v, .bool true]) w := run_typeAssert_hasB Tryd.underlying78 (by kernel_rfl) v xT w
theorem stNoWrappers (v : Value) (xT : TypeId) (w : World) : (Instr.typeAssert (.iface 52 v) xT 93 true).run Tryd.prog w = .ok (.tuple #[.nilIface, .bool false]) w := run_typeAssert_lacksB Tryd.underlying93 (by kernel_rfl) (by kernel_rfl) v xT w
theorem stNoIs (v : Value) (xT : TypeId) (w : World) : (Instr.typeAssert (.iface 52 v) xT 110 true).run Tryd.prog w = .ok (.tuple #[.nilIface, .bool false]) w := run_typeAssert_lacksB Tryd.underlying110 (by kernel_rfl) (by kernel_rfl) v xT w
theorem stNoAs (v : Value) (xT : TypeId) (w : World) : (Instr.typeAssert (.iface 52 v) xT 105 true).run Tryd.prog w = .ok (.tuple #[.nilIface, .bool false]) w := run_typeAssert_lacksB Tryd.underlying105 (by kernel_rfl) (by kernel_rfl) v xT w
theorem stNoFault (v : Value) (xT : TypeId) (w : World) : (Instr.typeAssert (.iface 52 v) xT 42 true).run Tryd.prog w = .ok (.tuple #[.pointer none, .bool false]) w := by kernel_rfl

theorem faUnwrap (v : Value) (w : World) : (Go.method 255 42 v "Unwrap").run Tryd.prog w = .ok (19, v) w := by kernel_rfl
theorem faError (v : Value) (w : World) : (Go.method 255 42 v "Error").run Tryd.prog w = .ok (22, v) w := by kernel_rfl
theorem erError (v : Value) (w : World) : (Go.method 255 24 v "Error").run Tryd.prog w = .ok (82, v) w := by kernel_rfl
theorem stUnwrap (v : Value) (w : World) : (Go.method 255 52 v "Unwrap").run Tryd.prog w = .ok (84, v) w := by kernel_rfl
theorem stError (v : Value) (w : World) : (Go.method 255 52 v "Error").run Tryd.prog w = .ok (83, v) w := by kernel_rfl
theorem shAsM (v : Value) (w : World) : (Go.method 255 95 v "As").run Tryd.prog w = .ok (89, v) w := by kernel_rfl
theorem shIsM (v : Value) (w : World) : (Go.method 255 95 v "Is").run Tryd.prog w = .ok (90, v) w := by kernel_rfl
end Go.Proofs.YtbpihlndojnlcaaDoor
