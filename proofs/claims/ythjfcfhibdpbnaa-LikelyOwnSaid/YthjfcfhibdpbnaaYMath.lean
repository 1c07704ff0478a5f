/-
  Aliases as texts: which are right, their rows and keys, what rows are decoded to, and how aliases stand (plain mathematics).
-/
import Derived.Test.YthjfcfhibdpbnaaBMaths
import Derived.Test.YthjfcfhibdpbnaaKinds
import Derived.Test.YthjfcfhibdpbnaaGrandR
namespace Go.Proofs.Ythjfcfhibdpbnaa
open Go Go.RowKit

/-- An alias. -/
structure Al where
  k : Int
  a : ByteArray
  b : ByteArray
  l : ByteArray
  s : ByteArray
  r : ByteArray

/-- What the five texts must be. -/
structure Fv where
  f1 : ByteArray → Bool
  f2 : ByteArray → Bool
  f3 : ByteArray → Bool
  f4 : ByteArray → Bool
  f5 : ByteArray → Bool
/-! What rows are decoded to. -/
/-! How aliases stand. -/
def sgnI (a b : Int) : Int := if a < b then -1 else if b < a then 1 else 0
def cmpA (x y : Al) : Int :=
  if sgnI x.k y.k ≠ 0 then sgnI x.k y.k else if cmpL (bs x.a) (bs y.a) ≠ 0 then cmpL (bs x.a) (bs y.a) else cmpL (bs x.b) (bs y.b)
end Go.Proofs.Ythjfcfhibdpbnaa
