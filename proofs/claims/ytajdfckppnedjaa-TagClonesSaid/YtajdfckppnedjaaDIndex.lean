/-
  strings.IndexByte and strings.LastIndexByte of the mark; package split: single, Trim.
-/
import Derived.Test.YtajdfckppnedjaaDMath
import Derived.Test.YtajdfckppnedjaaBRef
import Derived.Lib.Walk
import Derived.Lib.Strings
import Derived.BigGuard
import Derived.BigQuiet
import Derived.Deep.QuietTactic
namespace Go.Proofs.Ytajdfckppnedjaa
open Go Go.RowKit

theorem bs_get (s : ByteArray) (k : Nat) (h : k < s.size) : (bs s)[k]? = some s[k] := by
  show s.data.toList[k]? = _
  rw [Array.getElem?_toList]
  exact Array.getElem?_eq_getElem h
end Go.Proofs.Ytajdfckppnedjaa
