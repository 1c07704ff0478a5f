/-
  PackTells: the walk of the law.
-/
import Derived.Test.YtckdfonpllngcaaDoorCUnref
import Derived.Test.YtckdfonpllngcaaDoorCAwake
import Derived.OpenShut
namespace Go.Proofs.YtckdfonpllngcaaDoor
open Go Go.RowKit

set_option maxHeartbeats 1000000 in
theorem unpacks_any (n : Nat) (w : World) (hn : n < 18446744073709551616) :
    Calls Tryd.prog 9 #[.int .u64 (n : Int)] w fun e w' => e = .returned (.bool true) ∧ Below w.heap.size w w' := by
  have C1 := onward w fun w5 => unpack_any n w5
  have C2 := onward w fun w5 => unpackR_any n w5 hn
  generalize unT n = x at *
  generalize packT (unS n) = b at *
  have hB0 : Below w.heap.size w w := Below.refl _ _
  cases b
  all_goals
    go_enter Tryd.func9, Tryd.ntmps9
    go_wp2_with (first
      | (go_at_call 10; ((with_reducible refine (C1.out _ (by assumption)).mono ?_); rintro e w5 ⟨rfl, hb5⟩))
      | (go_at_call 17; ((with_reducible refine (C2.out _ (by assumption)).mono ?_); rintro e w6 ⟨rfl, hb6⟩)))
    go_ret
    exact ⟨rfl, hb6.alloc hb6.size _⟩

theorem i64_and7 (n : Int) : bits .and .i64 n 7 = n % 8 := by
  have h7 : (BitVec.ofInt 64 7).toNat = 2 ^ 3 - 1 := by decide
  have key : (BitVec.ofInt 64 n &&& BitVec.ofInt 64 7).toNat = (n % ((2 ^ 64 : Nat) : Int)).toNat % 2 ^ 3 := by
    rw [BitVec.toNat_and, BitVec.toNat_ofInt, h7, Nat.and_two_pow_sub_one_eq_mod]
  show IntKind.i64.wrap ((BitVec.ofInt 64 n &&& BitVec.ofInt 64 7).toNat : Nat) = n % 8
  rw [key, IntKind.wrap_i64]
  omega

/-- The document's answer lies in memory; what is asked between leaves it. -/
structure PtK (w : World) (b : Nat) (m : Nat) (o : Bool) (wx : World) : Prop where
  n : wx.cell? ⟨b, 0, none⟩ = some (.int .u64 (m : Int))
  ok : wx.cell? ⟨b, 1, none⟩ = some (.bool o)
  lt : b < wx.heap.size
  bel : Below w.heap.size w wx
theorem PtK.next {w : World} {b m : Nat} {o : Bool} {wx wy : World} (hb : Below wx.heap.size wx wy) (h : PtK w b m o wx) : PtK w b m o wy := by
  obtain ⟨h1, h2, h3, h4⟩ := h
  exact ⟨(hb.cell (p := ⟨b, 0, none⟩) h3).trans h1, (hb.cell (p := ⟨b, 1, none⟩) h3).trans h2, Nat.lt_of_lt_of_le h3 hb.size, h4.trans (hb.mono h4.size)⟩
theorem PtK.start {w w5 : World} (h : Below w.heap.size w w5) (m : Nat) (o : Bool) (t : TypeId) : PtK w w5.heap.size m o (w5.alloc (.cells #[.int .u64 (m : Int), .bool o] t)) :=
  ⟨by simp, by simp, by simp, h.alloc h.size _⟩

set_option maxHeartbeats 8000000 in
theorem tells3_nat (s : ByteArray) (n : Nat) (many : Int) (w : World) (hs : s.size ≤ maxLen) (hn : n < 18446744073709551616) :
    Calls Tryd.prog 3 #[.string s, .int .u64 (n : Int), .int .i64 many] w fun e w' => e = .returned (.bool true) ∧ Below w.heap.size w w' := by
  obtain ⟨t, ht⟩ : ∃ t, cut20 s = t := ⟨_, rfl⟩
  have h20 : t.size ≤ 20 := by rw [← ht]; exact size_cut20 s
  have SH := told (onwardS w fun w5 => short20_any s w5 hs) (ret_string ht)
  have A1 := onward w awake3_any
  have C1 := onward w fun w5 => pack_any t w5 (by omega)
  have C2 := onward w fun w5 => packR_any t w5 (by omega)
  have hm := packN_lt t
  generalize packN t = m at *
  generalize packT (lowS t) = o at *
  have hm' : m < 18446744073709551616 := hm
  obtain ⟨k, hk, hand⟩ : ∃ k : Nat, k ≤ 7 ∧ bits .and .i64 many 7 = (k : Int) := ⟨(many % 8).toNat, by omega, by rw [i64_and7]; omega⟩
  have hcv : IntKind.u64.wrap (k : Int) = (k : Int) := u64_wrap_id _ (by omega) (by omega)
  obtain ⟨j, hj, hmul⟩ : ∃ j : Nat, j ≤ 56 ∧ IntKind.u64.wrap ((k : Int) * 8) = (j : Int) := ⟨k * 8, by omega, by rw [u64_wrap_id _ (by omega) (by omega)]; simp⟩
  obtain ⟨q, hq, hshl⟩ : ∃ q : Nat, q < 18446744073709551616 ∧ IntKind.u64.wrap ((n : Int) / 2 ^ j * 2 ^ j) = (q : Int) := by
    refine ⟨n / 2 ^ j * 2 ^ j, Nat.lt_of_le_of_lt (Nat.div_mul_le_self n (2 ^ j)) hn, ?_⟩
    have h1 : ((n : Int) / 2 ^ j * 2 ^ j) = ((n / 2 ^ j * 2 ^ j : Nat) : Int) := by simp
    have h2 := Nat.lt_of_le_of_lt (Nat.div_mul_le_self n (2 ^ j)) hn
    rw [h1, u64_wrap_id _ (by omega) (by omega)]
  have U1 := Lib.hid (fun w5 => unpacks_any n w5 hn)
  have U2 := Lib.hid (fun w5 => unpacks_any q w5 hq)
  have U3 := Lib.hid (fun w5 => unpacks_any m w5 hm')
  have hB0 : Below w.heap.size w w := Below.refl _ _
  clear ht h20 hs hn hm hm' hq
  go_enter Tryd.func3, Tryd.ntmps3
  go_wp2_with (first
    | (go_at_call 5; ((with_reducible refine (A1.out _ (by assumption)).mono ?_); rintro e w5 ⟨rfl, hb5⟩))
    | (go_at_call 6; ((with_reducible refine (SH.out _ (by assumption)).mono ?_); rintro e w5 ⟨rfl, hb5⟩))
    | (go_at_call 7; ((with_reducible refine (C1.out _ (by assumption)).mono ?_); rintro e w5 ⟨rfl, hb5⟩))
    | (go_at_call 8; ((with_reducible refine (C2.out _ (by assumption)).mono ?_); rintro e w5 ⟨rfl, hb5⟩; have HK := PtK.start hb5 m o 28))
    | (go_at_call 9; ((with_reducible refine (U1.out _).mono ?_); rintro e w6 ⟨rfl, hb6⟩; have HK6 := PtK.next hb6 (by assumption); have k1 := HK6.n; have k2 := HK6.ok))
    | (go_at_call 9; ((with_reducible refine (U2.out _).mono ?_); rintro e w7 ⟨rfl, hb7⟩; have HK7 := PtK.next hb7 (by assumption); have k3 := HK7.n; have k4 := HK7.ok))
    | (go_at_call 9; ((with_reducible refine (U3.out _).mono ?_); rintro e w8 ⟨rfl, hb8⟩; have HK8 := PtK.next hb8 (by assumption))))
  go_ret
  exact ⟨rfl, HK8.bel⟩

theorem tells3_law (s : ByteArray) (n many : Int) (w : World) (hs : s.size ≤ maxLen) (hn : (Lit.int .u64 n).wf = true) (_ : (Lit.int .i64 many).wf = true) :
    Calls Tryd.prog 3 #[.string s, .int .u64 n, .int .i64 many] w fun e w' => e = .returned (.bool true) ∧ Below w.heap.size w w' := by
  have h1 := bounds_u64 hn
  obtain ⟨n, rfl⟩ := Int.eq_ofNat_of_zero_le h1.1
  exact tells3_nat s n many w hs (by omega)
end Go.Proofs.YtckdfonpllngcaaDoor
