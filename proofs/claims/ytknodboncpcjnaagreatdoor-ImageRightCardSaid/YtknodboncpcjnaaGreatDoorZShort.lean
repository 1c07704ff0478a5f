/-
  What ImageRight makes of its arguments: short, rest, copies. (Printed by wip/gen_zrightlaw.py.)
-/
import Derived.Test.YtknodboncpcjnaaGreatDoorZSeed
import Derived.Test.YtknodboncpcjnaaGreatDoorZRefP
namespace Go.Proofs.YtknodboncpcjnaaGreatDoor
open Go Go.RowKit

def shZ (s : ByteArray) : ByteArray := if 10 < s.size then s.extract 0 10 else s
theorem shZ_size (s : ByteArray) : (shZ s).size ≤ 10 := by
  unfold shZ
  split
  · rw [ByteArray.size_extract]; omega
  · omega
set_option maxRecDepth 100000 in
theorem short13_any (s : ByteArray) (w : World) (hs : s.size ≤ maxLen) :
    Calls Tryz.prog 15 #[.string s] w fun e w' => e = .returned (.string (shZ s)) ∧ w' = w := by
  unfold maxLen at hs
  by_cases h : 10 < s.size
  · have h1 : (10 : Int) < (s.size : Int) := by omega
    have h2 : (10 : Int) ≤ (s.size : Int) := by omega
    have HE := Lib.hid (show shZ s = s.extract 0 10 by unfold shZ; rw [if_pos h])
    clear h
    go_enter Tryz.func15, Tryz.ntmps15
    go_wp2
    go_ret
    exact ⟨ret_string HE.out.symm, rfl⟩
  · have h1 : ¬ (10 : Int) < (s.size : Int) := by omega
    have HE := Lib.hid (show shZ s = s by unfold shZ; rw [if_neg h])
    clear h
    go_enter Tryz.func15, Tryz.ntmps15
    go_wp2
    go_ret
    exact ⟨ret_string HE.out.symm, rfl⟩
set_option maxRecDepth 100000 in
theorem rest13E_any (x : Int) (n : Nat) (w : World) (hn : 1 ≤ n) (hn2 : n ≤ 1000) :
    Calls Tryz.prog 16 #[.int .i64 x, .int .i64 (n : Int)] w fun e w' => e = .returned (.int .i64 (restV x n : Int)) ∧ w' = w := by
  have HE := Lib.hid (rest_numZ x n hn hn2)
  have h0 : ((n : Int) == 0) = false := by rw [beq_eq_false_iff_ne]; omega
  have h1 : (n : Int) ≠ 0 := by omega
  clear hn hn2
  generalize hm : (n : Int) = m at *
  go_enter Tryz.func16, Tryz.ntmps16
  go_wp2
  go_ret
  exact ⟨ret_int HE.out, rfl⟩
def shLk (x : Lk) : Lk := ⟨shZ x.l, shZ x.s, shZ x.r, shZ x.tl, shZ x.ts, shZ x.tr⟩
def shRl (x : Rl) : Rl := ⟨x.lv, x.co, x.ow, shZ x.d0, shZ x.d1, shZ x.d2, shZ x.s0, shZ x.s1, shZ x.s2⟩
def shMb (x : Lk) : Mb := ⟨shZ x.l, shZ x.r⟩
theorem shLk_s (x : Lk) : LkS (shLk x) := by
  intro t ht
  simp only [lkT, shLk, List.mem_cons, List.not_mem_nil, or_false] at ht
  rcases ht with rfl | rfl | rfl | rfl | rfl | rfl <;> exact Nat.le_trans (shZ_size _) (by decide)
theorem shRl_s (x : Rl) : ∀ t ∈ rlT (shRl x), t.size ≤ 1000 := by
  intro t ht
  simp only [rlT, shRl, List.mem_cons, List.not_mem_nil, or_false] at ht
  rcases ht with rfl | rfl | rfl | rfl | rfl | rfl <;> exact Nat.le_trans (shZ_size _) (by decide)
theorem shMb_s (x : Lk) : MbS (shMb x) := ⟨Nat.le_trans (shZ_size _) (by decide), Nat.le_trans (shZ_size _) (by decide)⟩
/-- The rule's copy, as far as the loop has come. -/
def upRl (r : Rl) : Nat → Array Value
  | 0 => #[.int .i64 r.lv, .int .i64 r.co, .bool r.ow, .string ⟨#[]⟩, .string ⟨#[]⟩, .string ⟨#[]⟩, .string ⟨#[]⟩, .string ⟨#[]⟩, .string ⟨#[]⟩]
  | 1 => #[.int .i64 r.lv, .int .i64 r.co, .bool r.ow, .string (shZ r.d0), .string ⟨#[]⟩, .string ⟨#[]⟩, .string (shZ r.s0), .string ⟨#[]⟩, .string ⟨#[]⟩]
  | 2 => #[.int .i64 r.lv, .int .i64 r.co, .bool r.ow, .string (shZ r.d0), .string (shZ r.d1), .string ⟨#[]⟩, .string (shZ r.s0), .string (shZ r.s1), .string ⟨#[]⟩]
  | _ => #[.int .i64 r.lv, .int .i64 r.co, .bool r.ow, .string (shZ r.d0), .string (shZ r.d1), .string (shZ r.d2), .string (shZ r.s0), .string (shZ r.s1), .string (shZ r.s2)]
end Go.Proofs.YtknodboncpcjnaaGreatDoor
