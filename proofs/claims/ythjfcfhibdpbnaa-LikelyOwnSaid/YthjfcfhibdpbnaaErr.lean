/-
  Closed facts on the dump: what type assertions find at the makes of errors that the statements meet. Package fault: what lies within an error (inner), for each make of error that the statements meet. errors.As, asked of one error by itself (what fault.alone hands it), at a target of type *api.Errno. errors.Is, asked of one error by itself (what fault.alone hands it), at a target of type api.Errno. Package fault: one error of a row asked by itself: asErrno and isErrno.
-/
import Derived.Test.YthjfcfhibdpbnaaProg
import Derived.WalkKit
import Derived.LaidEql
import Derived.Stop.Asserts
import Derived.RowKitTokens
import Derived.Defers
import Derived.Recover
import Derived.Outline
import Derived.Lib.Hide
/-! Closed facts on the dump: what type assertions find at the makes of errors that the statements meet. -/
namespace Go.Proofs.Ythjfcfhibdpbnaa
open Go Go.RowKit

end Go.Proofs.Ythjfcfhibdpbnaa

/-! Package fault: what lies within an error (inner), for each make of error that the statements meet. -/
namespace Go.Proofs.Ythjfcfhibdpbnaa
open Go Go.RowKit

end Go.Proofs.Ythjfcfhibdpbnaa

/-! errors.As, asked of one error by itself (what fault.alone hands it), at a target of type *api.Errno. -/
namespace Go.Proofs.Ythjfcfhibdpbnaa
open Go Go.RowKit Go.Extern.Stop Go.Stop Go.Extern

theorem lt_of_cell {W : World} {a : Addr} {v : Value} (h : W.cell? a = some v) : a.block < W.heap.size := by
  rcases Nat.lt_or_ge a.block W.heap.size with h' | h'
  · exact h'
  · simp [World.cell?, Array.getElem?_eq_none h'] at h

end Go.Proofs.Ythjfcfhibdpbnaa

/-! errors.Is, asked of one error by itself (what fault.alone hands it), at a target of type api.Errno. -/
namespace Go.Proofs.Ythjfcfhibdpbnaa
open Go Go.RowKit Go.Extern.Stop Go.Stop Go.Extern

end Go.Proofs.Ythjfcfhibdpbnaa

/-! Package fault: one error of a row asked by itself: asErrno and isErrno. -/
namespace Go.Proofs.Ythjfcfhibdpbnaa
open Go Go.RowKit

end Go.Proofs.Ythjfcfhibdpbnaa
