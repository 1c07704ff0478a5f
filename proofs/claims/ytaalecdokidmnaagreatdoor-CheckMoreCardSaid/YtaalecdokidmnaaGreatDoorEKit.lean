/-
  Layer 5's statements: rest, awake, finds, names.
-/
import Derived.Test.YtaalecdokidmnaaGreatDoorGrandR
namespace Go.Proofs.YtaalecdokidmnaaGreatDoor
open Go Go.RowKit

/-- A number's, from 0 on. -/
def restV (x : Int) (n : Nat) : Nat := ((x.tmod n + n) % n).toNat
theorem restV_lt (x : Int) (n : Nat) (hn : 1 ≤ n) : restV x n < n := by
  unfold restV
  have h1 := Int.emod_lt_of_pos (x.tmod n + n) (show (0 : Int) < (n : Int) by omega)
  have h2 := Int.emod_nonneg (x.tmod n + n) (show (n : Int) ≠ 0 by omega)
  omega
theorem rest_num (x : Int) (n : Nat) (hn : 1 ≤ n) (hn2 : n ≤ 100) : (wrap64 (x.tmod n + n)).tmod n = (restV x n : Int) := by
  have h := Int.natAbs_tmod x n
  have hm := Nat.mod_lt x.natAbs (show 0 < n by omega)
  unfold restV
  rw [Int.natAbs_natCast] at h
  generalize x.tmod n = z at *
  have hz : z.natAbs < n := by omega
  have hw : wrap64 (z + n) = z + n := IntWalk.wrap64_in _ ⟨by omega, by omega⟩
  rw [hw, Int.tmod_eq_emod_of_nonneg (by omega)]
  have h2 := Int.emod_nonneg (z + n) (show (n : Int) ≠ 0 by omega)
  omega
end Go.Proofs.YtaalecdokidmnaaGreatDoor
