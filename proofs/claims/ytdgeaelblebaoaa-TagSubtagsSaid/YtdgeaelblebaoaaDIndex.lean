/-
  strings.IndexByte and strings.LastIndexByte of the mark; package split: single, Trim.
-/
import Derived.Test.YtdgeaelblebaoaaDMath
import Derived.Test.YtdgeaelblebaoaaBRef
import Derived.Lib.Walk
import Derived.Lib.Strings
import Derived.BigGuard
import Derived.BigQuiet
import Derived.Deep.QuietTactic
namespace Go.Proofs.Ytdgeaelblebaoaa
open Go Go.RowKit

theorem slIndex_any (s : ByteArray) (w : World) :
    Calls Try.prog 88 #[.string s, .int .u8 45] w fun e w' => e = .returned (.int .i64 (Lib.indexByte (bs s) 45)) ∧ w = w' := by
  have hx := @run_callFunc_extern Try.prog 91 _ Extern.BytealgIndexByte.indexByte Try.func91 (by kernel_rfl) (by kernel_rfl) (by kernel_rfl) (by kernel_rfl)
  have hX := Lib.hid hx
  clear hx
  go_enter Try.func88, Try.ntmps88
  go_wp2
  rw [hX.out, Lib.run_indexByteString]
  simp only [Result.andThen]
  rw [Oper.upon_value]
  go_wp2
  go_ret
  exact ⟨rfl, rfl⟩
theorem index_any (s : ByteArray) (w : World) :
    Calls Try.prog 85 #[.string s, .int .u8 45] w fun e w' => e = .returned (.int .i64 (Lib.indexByte (bs s) 45)) ∧ w = w' := by
  go_enter Try.func85, Try.ntmps85
  go_wp2_with (go_at_call 88; refine (slIndex_any _ _).mono ?_; rintro e w' ⟨rfl, rfl⟩)
  go_ret
  exact ⟨rfl, rfl⟩

theorem bs_get (s : ByteArray) (k : Nat) (h : k < s.size) : (bs s)[k]? = some s[k] := by
  show s.data.toList[k]? = _
  rw [Array.getElem?_toList]
  exact Array.getElem?_eq_getElem h
end Go.Proofs.Ytdgeaelblebaoaa
