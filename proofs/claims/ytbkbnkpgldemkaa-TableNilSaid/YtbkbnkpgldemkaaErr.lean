/-
  Closed facts on the dump: what type assertions find at the makes of errors that the statements meet. Package fault: what lies within an error (inner), for each make of error that the statements meet. errors.As, asked of one error by itself (what fault.alone hands it), at a target of type *api.Errno. errors.Is, asked of one error by itself (what fault.alone hands it), at a target of type api.Errno. Package fault: one error of a row asked by itself: asErrno and isErrno.
-/
import Derived.Test.YtbkbnkpgldemkaaProg
import Derived.WalkKit
import Derived.LaidEql
import Derived.Stop.Asserts
import Derived.RowKitTokens
import Derived.Defers
import Derived.Recover
import Derived.Outline
import Derived.Lib.Hide
/-! Closed facts on the dump: what type assertions find at the makes of errors that the statements meet. -/
namespace Go.Proofs.Ytbkbnkpgldemkaa
open Go Go.RowKit

theorem erNoFault (v : Value) (xT : TypeId) (w : World) : (Instr.typeAssert (.iface 48 v) xT 56 true).run Try.prog w = .ok (.tuple #[.pointer none, .bool false]) w := by kernel_rfl

theorem faFault (v : Value) (xT : TypeId) (w : World) : (Instr.typeAssert (.iface 56 v) xT 56 true).run Try.prog w = .ok (.tuple #[v, .bool true]) w := by kernel_rfl

theorem faError (v : Value) (w : World) : (Go.method 208 56 v "Error").run Try.prog w = .ok (72, v) w := by kernel_rfl
theorem erError (v : Value) (w : World) : (Go.method 208 48 v "Error").run Try.prog w = .ok (71, v) w := by kernel_rfl
end Go.Proofs.Ytbkbnkpgldemkaa

/-! Package fault: what lies within an error (inner), for each make of error that the statements meet. -/
namespace Go.Proofs.Ytbkbnkpgldemkaa
open Go Go.RowKit

end Go.Proofs.Ytbkbnkpgldemkaa

/-! errors.As, asked of one error by itself (what fault.alone hands it), at a target of type *api.Errno. -/
namespace Go.Proofs.Ytbkbnkpgldemkaa
open Go Go.RowKit Go.Extern.Stop Go.Stop Go.Extern

theorem asKindE (w : World) : ((ReflectliteType.abiMethod fun t => (fun a : Nat => Value.int IntKind.u8 (a : Int)) <$> Rtype.kind t) #[.pointer (some ⟨1, 48, none⟩)]).run Try.prog w = .ok (.int .u8 2) w := by kernel_rfl
theorem asRlm (z : Sem Value) (f : TypeId → Addr → Nat → Nat → Sem Value) (v : Value) :
    ReflectliteValue.method z f #[v] = (do match ← ReflectliteValue.parts v with | none => z | some (t, a, fl) => f t a fl (fl % 32)) := rfl
theorem asValueOfE (k : Int) (w : World) : (ReflectliteValue.unpack (.iface 48 (.int .i64 k))).run Try.prog w
    = .ok (.agg #[.pointer (some ⟨1, 48, none⟩), .pointer (some ⟨w.heap.size, 0, none⟩), .int .u64 130]) (w.alloc (.cells #[.int .i64 k] 48)) := by kernel_rfl
theorem asMk (p : Addr) (w : World) : (ReflectliteValue.mk 48 p ReflectliteValue.flagAddr).run Try.prog w = .ok (.agg #[.pointer (some ⟨1, 48, none⟩), .pointer (some p), .int .u64 386]) w := by kernel_rfl
theorem asRls (v x : Value) : ReflectliteValue.set #[v, x] = (do
    let (some (dst, a, fl), some (src, b, _)) := (← ReflectliteValue.parts v, ← ReflectliteValue.parts x)
      | unsupported (.noEntry "extern/(internal/reflectlite.Value).Set.zeroValue")
    if fl / ReflectliteValue.flagAddr % 2 == 0 then unsupported (.noEntry "extern/(internal/reflectlite.Value).Set.unaddressable")
    let val ← loadVar src b
    if ← Rtype.directlyAssignable dst src then storeVar dst a val
    else if ← Rtype.implements dst src then
      if (← Rtype.kind src) == 20 then
        match val with
        | .nilIface => unsupported (.noEntry "extern/reflectlite: a nil value of one interface type handed on as a value of another")
        | _ => storeVar dst a val
      else storeVar dst a (.iface src val)
    else panicString ("reflectlite.Set: value of type " ++ (← Rtype.spelt src) ++ " is not assignable to type " ++ (← Rtype.spelt dst))
    pure (.tuple #[])) := rfl
theorem asPartsEa (a : Addr) (w : World) : (ReflectliteValue.parts (.agg #[.pointer (some ⟨1, 48, none⟩), .pointer (some a), .int .u64 386])).run Try.prog w = .ok (some (48, a, 386)) w := by kernel_rfl
theorem asPartsE (a : Addr) (w : World) : (ReflectliteValue.parts (.agg #[.pointer (some ⟨1, 48, none⟩), .pointer (some a), .int .u64 130])).run Try.prog w = .ok (some (48, a, 130)) w := by kernel_rfl
theorem asDirect (w : World) : (Rtype.directlyAssignable 48 48).run Try.prog w = .ok true w := by kernel_rfl
set_option maxRecDepth 100000 in
theorem asSet (ta b : Addr) (k : Int) (old : Value) (W : World) (hb : W.cell? b = some (.int .i64 k)) (ht : W.cell? ta = some old) (hf : W.frozen? ta = false) :
    (ReflectliteValue.set #[.agg #[.pointer (some ⟨1, 48, none⟩), .pointer (some ta), .int .u64 386], .agg #[.pointer (some ⟨1, 48, none⟩), .pointer (some b), .int .u64 130]]).run Try.prog W
      = .ok (.tuple #[]) (W.setCell ta (.int .i64 k)) := by
  rw [asRls]
  simp only [Sem.run_bind, asPartsEa, asPartsE, Result.andThen]
  simp [ReflectliteValue.flagAddr, loadVar, isAgg, underlying, Try.underlying48, hb, Result.andThen, asDirect, storeVar, Value.cells, storeCells, Addr.add]
  rw [run_store Try.prog W ta _ _ (by rfl)]
  simp [ht, hf]

theorem lt_of_cell {W : World} {a : Addr} {v : Value} (h : W.cell? a = some v) : a.block < W.heap.size := by
  rcases Nat.lt_or_ge a.block W.heap.size with h' | h'
  · exact h'
  · simp [World.cell?, Array.getElem?_eq_none h'] at h

end Go.Proofs.Ytbkbnkpgldemkaa

/-! errors.Is, asked of one error by itself (what fault.alone hands it), at a target of type api.Errno. -/
namespace Go.Proofs.Ytbkbnkpgldemkaa
open Go Go.RowKit Go.Extern.Stop Go.Stop Go.Extern

/-- Two numbers that are errors are one error just if they are one number. -/
theorem eqIn_errno (d : Nat) (w : World) (i : TypeInfo) (hinfo : Try.prog.info? 48 = some i) (hcomp : i.comparable = true) (a b : Int) :
    (Op.equalIn (d + 2) 40 (.iface 48 (.int .i64 a)) (.iface 48 (.int .i64 b))).run Try.prog w = .ok (a == b) w := by
  simp [Op.equalIn, run_underlying Try.underlying40, run_underlying Try.underlying48, typeInfo, hinfo, hcomp]
theorem isComp : (Try.prog.info? 48).map (·.comparable) = some true := by kernel_rfl
theorem eq_errno (a b : Int) (w : World) :
    (binOp .eql 40 (.iface 48 (.int .i64 a)) (.iface 48 (.int .i64 b))).run Try.prog w = .ok (.bool (a == b)) w := by
  obtain ⟨i, hi, hcmp⟩ := Option.map_eq_some_iff.1 isComp
  simp only [binOp]
  simp [Op.equal, Op.maxDepth, eqIn_errno 9998 w i hi hcmp a b]
theorem isComparable (w : World) : ((ReflectliteType.method fun t => do Rtype.noPackHeld "Comparable" t; (fun a => Value.bool a.comparable) <$> typeInfo t) #[.agg #[.pointer (some ⟨1, 48, none⟩)]]).run Try.prog w = .ok (.bool true) w := by kernel_rfl
end Go.Proofs.Ytbkbnkpgldemkaa

/-! Package fault: one error of a row asked by itself: asErrno and isErrno. -/
namespace Go.Proofs.Ytbkbnkpgldemkaa
open Go Go.RowKit

end Go.Proofs.Ytbkbnkpgldemkaa
