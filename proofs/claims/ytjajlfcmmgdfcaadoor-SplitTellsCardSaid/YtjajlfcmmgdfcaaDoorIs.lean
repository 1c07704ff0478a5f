/-
  errors.Is, asked of one error by itself (what fault.alone hands it), at a target of type api.Errno.
-/
import Derived.Test.YtjajlfcmmgdfcaaDoorFa
import Derived.Lib.Hide
namespace Go.Proofs.YtjajlfcmmgdfcaaDoor
open Go Go.RowKit Go.Extern.Stop Go.Stop Go.Extern

/-- Two numbers that are errors are one error just if they are one number. -/
theorem eqIn_errno (d : Nat) (w : World) (i : TypeInfo) (hinfo : Tryd.prog.info? 37 = some i) (hcomp : i.comparable = true) (a b : Int) :
    (Op.equalIn (d + 2) 35 (.iface 37 (.int .i64 a)) (.iface 37 (.int .i64 b))).run Tryd.prog w = .ok (a == b) w := by
  simp [Op.equalIn, run_underlying Tryd.underlying35, run_underlying Tryd.underlying37, typeInfo, hinfo, hcomp]
theorem isComp : (Tryd.prog.info? 37).map (·.comparable) = some true := by kernel_rfl
theorem eq_errno (a b : Int) (w : World) :
    (binOp .eql 35 (.iface 37 (.int .i64 a)) (.iface 37 (.int .i64 b))).run Tryd.prog w = .ok (.bool (a == b)) w := by
  obtain ⟨i, hi, hcmp⟩ := Option.map_eq_some_iff.1 isComp
  simp only [binOp]
  simp [Op.equal, Op.maxDepth, eqIn_errno 9998 w i hi hcmp a b]
theorem isTypeOf (v : Value) (w : World) : (ReflectliteType.typeOf #[.iface 37 v]).run Tryd.prog w = .ok (.iface 107 (.agg #[.pointer (some ⟨2, 37, none⟩)])) w := by kernel_rfl
theorem isComparable (w : World) : ((ReflectliteType.method fun t => do Rtype.noPackHeld "Comparable" t; (fun a => Value.bool a.comparable) <$> typeInfo t) #[.agg #[.pointer (some ⟨2, 37, none⟩)]]).run Tryd.prog w = .ok (.bool true) w := by kernel_rfl
theorem isMComparable (v : Value) (w : World) : (Go.method 247 107 v "Comparable").run Tryd.prog w = .ok (95, v) w := by kernel_rfl

theorem eq_shell (x : Value) (k : Int) (w : World) :
    (binOp .eql 35 (.iface 104 x) (.iface 37 (.int .i64 k))).run Tryd.prog w = .ok (.bool false) w := run_eql_iface_types _ _ _ _ Tryd.underlying35 (by decide) w

end Go.Proofs.YtjajlfcmmgdfcaaDoor
