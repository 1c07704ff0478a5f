/-
  Closed facts on the dump: what type assertions find at the makes of errors that the statements meet. Package fault: what lies within an error (inner), for each make of error that the statements meet. errors.As, asked of one error by itself (what fault.alone hands it), at a target of type *api.Errno. errors.Is, asked of one error by itself (what fault.alone hands it), at a target of type api.Errno. Package fault: one error of a row asked by itself: asErrno and isErrno.
-/
import Derived.Test.YtlpjdknmnomdlaaDoorProg
import Derived.WalkKit
import Derived.LaidEql
import Derived.Stop.Asserts
import Derived.RowKitTokens
import Derived.Defers
import Derived.Recover
import Derived.Outline
import Derived.Lib.Hide
/-! Closed facts on the dump: what type assertions find at the makes of errors that the statements meet. -/
namespace Go.Proofs.YtlpjdknmnomdlaaDoor
open Go Go.RowKit

end Go.Proofs.YtlpjdknmnomdlaaDoor

/-! Package fault: what lies within an error (inner), for each make of error that the statements meet. -/
namespace Go.Proofs.YtlpjdknmnomdlaaDoor
open Go Go.RowKit

end Go.Proofs.YtlpjdknmnomdlaaDoor

/-! errors.As, asked of one error by itself (what fault.alone hands it), at a target of type *api.Errno. -/
namespace Go.Proofs.YtlpjdknmnomdlaaDoor
open Go Go.RowKit Go.Extern.Stop Go.Stop Go.Extern

theorem asRlm (z : Sem Value) (f : TypeId → Addr → Nat → Nat → Sem Value) (v : Value) :
    ReflectliteValue.method z f #[v] = (do match ← ReflectliteValue.parts v with | none => z | some (t, a, fl) => f t a fl (fl % 32)) := rfl
theorem asRls (v x : Value) : ReflectliteValue.set #[v, x] = (do
    let (some (dst, a, fl), some (src, b, _)) := (← ReflectliteValue.parts v, ← ReflectliteValue.parts x)
      | unsupported (.noEntry "extern/(internal/reflectlite.Value).Set.zeroValue")
    if fl / ReflectliteValue.flagAddr % 2 == 0 then unsupported (.noEntry "extern/(internal/reflectlite.Value).Set.unaddressable")
    let val ← loadVar src b
    if ← Rtype.directlyAssignable dst src then storeVar dst a val
    else if ← Rtype.implements dst src then
      if (← Rtype.kind src) == 20 then
        match val with
        | .nilIface => unsupported (.noEntry "extern/reflectlite: a nil value of one interface type handed on as a value of another")
        | _ => storeVar dst a val
      else storeVar dst a (.iface src val)
    else panicString ("reflectlite.Set: value of type " ++ (← Rtype.spelt src) ++ " is not assignable to type " ++ (← Rtype.spelt dst))
    pure (.tuple #[])) := rfl
theorem lt_of_cell {W : World} {a : Addr} {v : Value} (h : W.cell? a = some v) : a.block < W.heap.size := by
  rcases Nat.lt_or_ge a.block W.heap.size with h' | h'
  · exact h'
  · simp [World.cell?, Array.getElem?_eq_none h'] at h

end Go.Proofs.YtlpjdknmnomdlaaDoor

/-! errors.Is, asked of one error by itself (what fault.alone hands it), at a target of type api.Errno. -/
namespace Go.Proofs.YtlpjdknmnomdlaaDoor
open Go Go.RowKit Go.Extern.Stop Go.Stop Go.Extern

end Go.Proofs.YtlpjdknmnomdlaaDoor

/-! Package fault: one error of a row asked by itself: asErrno and isErrno. -/
namespace Go.Proofs.YtlpjdknmnomdlaaDoor
open Go Go.RowKit

end Go.Proofs.YtlpjdknmnomdlaaDoor
