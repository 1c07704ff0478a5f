/-
  Layer 5's statements: rest, awake, finds, names.
-/
import Derived.Test.YthjfcfhibdpbnaaGrandR
namespace Go.Proofs.Ythjfcfhibdpbnaa
open Go Go.RowKit

/-- A number's, from 0 on. -/
def restV (x : Int) (n : Nat) : Nat := ((x.tmod n + n) % n).toNat
theorem restV_lt (x : Int) (n : Nat) (hn : 1 ≤ n) : restV x n < n := by
  unfold restV
  have h1 := Int.emod_lt_of_pos (x.tmod n + n) (show (0 : Int) < (n : Int) by omega)
  have h2 := Int.emod_nonneg (x.tmod n + n) (show (n : Int) ≠ 0 by omega)
  omega
end Go.Proofs.Ythjfcfhibdpbnaa
