/-
  strings.IndexByte and strings.LastIndexByte of the mark; package split: single, Trim.
-/
import Derived.Test.YtjajlfcmmgdfcaaDoorDMath
import Derived.Test.YtjajlfcmmgdfcaaDoorBRef
import Derived.Lib.Walk
import Derived.Lib.Strings
import Derived.BigGuard
import Derived.BigQuiet
import Derived.Deep.QuietTactic
namespace Go.Proofs.YtjajlfcmmgdfcaaDoor
open Go Go.RowKit

theorem slIndex_any (s : ByteArray) (w : World) :
    Calls Tryd.prog 37 #[.string s, .int .u8 45] w fun e w' => e = .returned (.int .i64 (Lib.indexByte (bs s) 45)) ∧ w = w' := by
  have hx := @run_callFunc_extern Tryd.prog 51 _ Extern.BytealgIndexByte.indexByte Tryd.func51 (by kernel_rfl) (by kernel_rfl) (by kernel_rfl) (by kernel_rfl)
  have hX := Lib.hid hx
  clear hx
  go_enter Tryd.func37, Tryd.ntmps37
  go_wp2
  rw [hX.out, Lib.run_indexByteString]
  simp only [Result.andThen]
  rw [Oper.upon_value]
  go_wp2
  go_ret
  exact ⟨rfl, rfl⟩
theorem index_any (s : ByteArray) (w : World) :
    Calls Tryd.prog 26 #[.string s, .int .u8 45] w fun e w' => e = .returned (.int .i64 (Lib.indexByte (bs s) 45)) ∧ w = w' := by
  go_enter Tryd.func26, Tryd.ntmps26
  go_wp2_with (go_at_call 37; refine (slIndex_any _ _).mono ?_; rintro e w' ⟨rfl, rfl⟩)
  go_ret
  exact ⟨rfl, rfl⟩

theorem bs_get (s : ByteArray) (k : Nat) (h : k < s.size) : (bs s)[k]? = some s[k] := by
  show s.data.toList[k]? = _
  rw [Array.getElem?_toList]
  exact Array.getElem?_eq_getElem h
set_option maxHeartbeats 1000000 in
theorem lastRaw_any (s : ByteArray) (w : World) (hs : s.size ≤ 140737488351232) :
    Calls Tryd.prog 47 #[.string s, .int .u8 45] w fun e w' => e = .returned (.int .i64 (lastM (bs s))) ∧ w = w' := by
  go_enter Tryd.func47, Tryd.ntmps47
  go_wp2
  go_loop [5] (fun i => ∃ k : Nat, k ≤ s.size ∧ i = .int .i64 ((k : Int) - 1) ∧ Hid (lastM (bs s) = lastK (bs s) k)) (fun i => (intOf i + 1).toNat)
  case atStart => exact ⟨s.size, Nat.le_refl _, rfl, by unfold lastM; rw [size_bs]; exact Lib.hid rfl⟩
  case round =>
    obtain ⟨k, hk, rfl, HR⟩ := hrel
    rcases k with _ | k
    · go_wp2
      go_ret
      exact ⟨ret_int (by rw [HR.out]; rfl), rfl⟩
    · have hg := bs_get s k (by omega)
      have e0 : (((k + 1 : Nat) : Int) - 1) = (k : Int) := by omega
      rw [e0]
      clear e0
      by_cases hc : s[k] = 45
      · have HE := Lib.hid (show lastM (bs s) = (k : Int) by rw [HR.out]; unfold lastK; rw [hg, hc, if_pos rfl])
        have h1 : (((s[k]).toNat : Int) == 45) = true := by rw [hc]; rfl
        have h2 : (0 : Int) ≤ (k : Int) := by omega
        clear hc hg HR
        go_wp2
        go_ret
        exact ⟨ret_int HE.out.symm, rfl⟩
      · have HE := Lib.hid (show lastM (bs s) = lastK (bs s) k by rw [HR.out]; conv => lhs; unfold lastK; rw [hg, if_neg (fun e => hc (Option.some.inj e))])
        have h1 : (((s[k]).toNat : Int) == 45) = false := by
          rw [beq_eq_false_iff_ne]
          exact fun e => hc (UInt8.toNat_inj.1 (by have : (s[k]).toNat = 45 := by omega
                                                   simpa using this))
        have h2 : (0 : Int) ≤ (k : Int) := by omega
        clear hc hg HR
        go_wp2
        go_round
        case rel => exact ⟨k, by omega, rfl, HE⟩
        case measure => simp [intOf]
theorem last_any (s : ByteArray) (w : World) (hs : s.size ≤ 140737488351232) :
    Calls Tryd.prog 33 #[.string s, .int .u8 45] w fun e w' => e = .returned (.int .i64 (lastM (bs s))) ∧ w = w' := by
  go_enter Tryd.func33, Tryd.ntmps33
  go_wp2_with (go_at_call 47; refine (lastRaw_any _ _ hs).mono ?_; rintro e w' ⟨rfl, rfl⟩)
  go_ret
  exact ⟨rfl, rfl⟩
end Go.Proofs.YtjajlfcmmgdfcaaDoor
