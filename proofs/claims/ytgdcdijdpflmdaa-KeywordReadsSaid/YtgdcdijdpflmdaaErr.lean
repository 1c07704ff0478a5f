/-
  Closed facts on the dump: what type assertions find at the makes of errors that the statements meet. Package fault: what lies within an error (inner), for each make of error that the statements meet. errors.As, asked of one error by itself (what fault.alone hands it), at a target of type *api.Errno. errors.Is, asked of one error by itself (what fault.alone hands it), at a target of type api.Errno. Package fault: one error of a row asked by itself: asErrno and isErrno.
-/
import Derived.Test.YtgdcdijdpflmdaaProg
import Derived.WalkKit
import Derived.LaidEql
import Derived.Stop.Asserts
import Derived.RowKitTokens
import Derived.Defers
import Derived.Recover
import Derived.Outline
import Derived.Lib.Hide
/-! Closed facts on the dump: what type assertions find at the makes of errors that the statements meet. -/
namespace Go.Proofs.Ytgdcdijdpflmdaa
open Go Go.RowKit

theorem erError (v : Value) (w : World) : (Go.method 270 33 v "Error").run Try.prog w = .ok (173, v) w := by kernel_rfl
end Go.Proofs.Ytgdcdijdpflmdaa

/-! Package fault: what lies within an error (inner), for each make of error that the statements meet. -/
namespace Go.Proofs.Ytgdcdijdpflmdaa
open Go Go.RowKit

end Go.Proofs.Ytgdcdijdpflmdaa

/-! errors.As, asked of one error by itself (what fault.alone hands it), at a target of type *api.Errno. -/
namespace Go.Proofs.Ytgdcdijdpflmdaa
open Go Go.RowKit Go.Extern.Stop Go.Stop Go.Extern

theorem asKindE (w : World) : ((ReflectliteType.abiMethod fun t => (fun a : Nat => Value.int IntKind.u8 (a : Int)) <$> Rtype.kind t) #[.pointer (some ⟨1, 33, none⟩)]).run Try.prog w = .ok (.int .u8 2) w := by kernel_rfl
theorem asRlm (z : Sem Value) (f : TypeId → Addr → Nat → Nat → Sem Value) (v : Value) :
    ReflectliteValue.method z f #[v] = (do match ← ReflectliteValue.parts v with | none => z | some (t, a, fl) => f t a fl (fl % 32)) := rfl
theorem asValueOfE (k : Int) (w : World) : (ReflectliteValue.unpack (.iface 33 (.int .i64 k))).run Try.prog w
    = .ok (.agg #[.pointer (some ⟨1, 33, none⟩), .pointer (some ⟨w.heap.size, 0, none⟩), .int .u64 130]) (w.alloc (.cells #[.int .i64 k] 33)) := by kernel_rfl
theorem asMk (p : Addr) (w : World) : (ReflectliteValue.mk 33 p ReflectliteValue.flagAddr).run Try.prog w = .ok (.agg #[.pointer (some ⟨1, 33, none⟩), .pointer (some p), .int .u64 386]) w := by kernel_rfl
theorem asRls (v x : Value) : ReflectliteValue.set #[v, x] = (do
    let (some (dst, a, fl), some (src, b, _)) := (← ReflectliteValue.parts v, ← ReflectliteValue.parts x)
      | unsupported (.noEntry "extern/(internal/reflectlite.Value).Set.zeroValue")
    if fl / ReflectliteValue.flagAddr % 2 == 0 then unsupported (.noEntry "extern/(internal/reflectlite.Value).Set.unaddressable")
    let val ← loadVar src b
    if ← Rtype.directlyAssignable dst src then storeVar dst a val
    else if ← Rtype.implements dst src then
      if (← Rtype.kind src) == 20 then
        match val with
        | .nilIface => unsupported (.noEntry "extern/reflectlite: a nil value of one interface type handed on as a value of another")
        | _ => storeVar dst a val
      else storeVar dst a (.iface src val)
    else panicString ("reflectlite.Set: value of type " ++ (← Rtype.spelt src) ++ " is not assignable to type " ++ (← Rtype.spelt dst))
    pure (.tuple #[])) := rfl
theorem asPartsEa (a : Addr) (w : World) : (ReflectliteValue.parts (.agg #[.pointer (some ⟨1, 33, none⟩), .pointer (some a), .int .u64 386])).run Try.prog w = .ok (some (33, a, 386)) w := by kernel_rfl
theorem asPartsE (a : Addr) (w : World) : (ReflectliteValue.parts (.agg #[.pointer (some ⟨1, 33, none⟩), .pointer (some a), .int .u64 130])).run Try.prog w = .ok (some (33, a, 130)) w := by kernel_rfl
theorem asDirect (w : World) : (Rtype.directlyAssignable 33 33).run Try.prog w = .ok true w := by kernel_rfl
set_option maxRecDepth 100000 in
theorem asSet (ta b : Addr) (k : Int) (old : Value) (W : World) (hb : W.cell? b = some (.int .i64 k)) (ht : W.cell? ta = some old) (hf : W.frozen? ta = false) :
    (ReflectliteValue.set #[.agg #[.pointer (some ⟨1, 33, none⟩), .pointer (some ta), .int .u64 386], .agg #[.pointer (some ⟨1, 33, none⟩), .pointer (some b), .int .u64 130]]).run Try.prog W
      = .ok (.tuple #[]) (W.setCell ta (.int .i64 k)) := by
  rw [asRls]
  simp only [Sem.run_bind, asPartsEa, asPartsE, Result.andThen]
  simp [ReflectliteValue.flagAddr, loadVar, isAgg, underlying, Try.underlying33, hb, Result.andThen, asDirect, storeVar, Value.cells, storeCells, Addr.add]
  rw [run_store Try.prog W ta _ _ (by rfl)]
  simp [ht, hf]

theorem lt_of_cell {W : World} {a : Addr} {v : Value} (h : W.cell? a = some v) : a.block < W.heap.size := by
  rcases Nat.lt_or_ge a.block W.heap.size with h' | h'
  · exact h'
  · simp [World.cell?, Array.getElem?_eq_none h'] at h

end Go.Proofs.Ytgdcdijdpflmdaa

/-! errors.Is, asked of one error by itself (what fault.alone hands it), at a target of type api.Errno. -/
namespace Go.Proofs.Ytgdcdijdpflmdaa
open Go Go.RowKit Go.Extern.Stop Go.Stop Go.Extern

/-- Two numbers that are errors are one error just if they are one number. -/
theorem eqIn_errno (d : Nat) (w : World) (i : TypeInfo) (hinfo : Try.prog.info? 33 = some i) (hcomp : i.comparable = true) (a b : Int) :
    (Op.equalIn (d + 2) 114 (.iface 33 (.int .i64 a)) (.iface 33 (.int .i64 b))).run Try.prog w = .ok (a == b) w := by
  simp [Op.equalIn, run_underlying Try.underlying114, run_underlying Try.underlying33, typeInfo, hinfo, hcomp]
theorem isComp : (Try.prog.info? 33).map (·.comparable) = some true := by kernel_rfl
theorem eq_errno (a b : Int) (w : World) :
    (binOp .eql 114 (.iface 33 (.int .i64 a)) (.iface 33 (.int .i64 b))).run Try.prog w = .ok (.bool (a == b)) w := by
  obtain ⟨i, hi, hcmp⟩ := Option.map_eq_some_iff.1 isComp
  simp only [binOp]
  simp [Op.equal, Op.maxDepth, eqIn_errno 9998 w i hi hcmp a b]
theorem isComparable (w : World) : ((ReflectliteType.method fun t => do Rtype.noPackHeld "Comparable" t; (fun a => Value.bool a.comparable) <$> typeInfo t) #[.agg #[.pointer (some ⟨1, 33, none⟩)]]).run Try.prog w = .ok (.bool true) w := by kernel_rfl
end Go.Proofs.Ytgdcdijdpflmdaa

/-! Package fault: one error of a row asked by itself: asErrno and isErrno. -/
namespace Go.Proofs.Ytgdcdijdpflmdaa
open Go Go.RowKit

end Go.Proofs.Ytgdcdijdpflmdaa
