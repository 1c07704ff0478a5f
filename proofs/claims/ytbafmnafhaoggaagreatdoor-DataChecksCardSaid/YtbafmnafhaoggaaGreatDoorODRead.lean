/-
  image.Decode's reader: take, number, fill.
-/
import Derived.Test.YtbafmnafhaoggaaGreatDoorYCode
import Derived.Test.YtbafmnafhaoggaaGreatDoorZPacks
namespace Go.Proofs.YtbafmnafhaoggaaGreatDoor
open Go Go.RowKit

/-! What is left of bytes from a place on. -/
def lf (b : ByteArray) (p : Nat) : ByteArray := b.extract p b.size
def ck (b : ByteArray) (p n : Nat) : ByteArray := b.extract p (p + n)
theorem bs_lf (b : ByteArray) (p : Nat) : bs (lf b p) = (bs b).drop p := by
  unfold lf
  rw [bs_extract, List.take_of_length_le]
  rw [List.length_drop, size_bs]; omega
theorem bs_ck (b : ByteArray) (p n : Nat) : bs (ck b p n) = ((bs b).drop p).take n := by
  unfold ck
  rw [bs_extract, Nat.add_sub_cancel_left]
theorem size_lf (b : ByteArray) (p : Nat) : (lf b p).size = b.size - p := by
  rw [← size_bs, bs_lf, List.length_drop, size_bs]
theorem size_ck_le (b : ByteArray) (p n : Nat) : (ck b p n).size ≤ n := by
  rw [← size_bs, bs_ck, List.length_take]; omega
theorem lf_zero (b : ByteArray) : lf b 0 = b := ofL_ext (by rw [bs_lf]; rfl)
theorem lf_take {b : ByteArray} {p n m : Nat} (hm : m = n ∨ (m = (lf b p).size ∧ m ≤ n)) : (lf b p).extract 0 m = ck b p n := by
  apply ofL_ext
  rw [bs_extract, bs_ck, bs_lf, List.drop_zero, Nat.sub_zero]
  rcases hm with rfl | ⟨h1, h2⟩
  · rfl
  · have h3 : ((bs b).drop p).length = m := by rw [List.length_drop, size_bs, h1, size_lf]
    rw [List.take_of_length_le (by omega), List.take_of_length_le (by omega)]
theorem lf_rest {b : ByteArray} {p n m : Nat} (hm : m = n ∨ (m = (lf b p).size ∧ m ≤ n)) : (lf b p).extract m (lf b p).size = lf b (p + n) := by
  apply ofL_ext
  rw [bs_extract, bs_lf, bs_lf, List.drop_drop]
  rcases hm with rfl | ⟨h1, h2⟩
  · rw [List.take_of_length_le]
    rw [List.length_drop, size_bs, size_lf]; omega
  · rw [List.drop_of_length_le (by rw [size_bs]; rw [size_lf] at h1; omega), List.drop_of_length_le (by rw [size_bs]; rw [size_lf] at h1; omega)]
    simp

/-! The reader in memory; the function that takes, in its box. -/
def takeV (R : Nat) : Value := .func (.func 59) #[.pointer (some ⟨R, 0, none⟩)] #[]
structure RdZ (W : World) (R T : Nat) (b : ByteArray) (p : Nat) : Prop where
  rd : W.heap[R]? = some (.cells #[.string (lf b p)] 114 (0, 0))
  bx : W.heap[T]? = some (.cells #[takeV R] 95 (0, 0))
  ne : T ≠ R
  sz : b.size ≤ 1048576
theorem RdZ.below {W w' : World} {R T p : Nat} {b : ByteArray} (h : RdZ W R T b p) (hb : Below W.heap.size W w') : RdZ w' R T b p :=
  ⟨(hb.block _ (lt_of_block h.rd)).trans h.rd, (hb.block _ (lt_of_block h.bx)).trans h.bx, h.ne, h.sz⟩

set_option maxRecDepth 100000 in
set_option maxHeartbeats 4000000 in
theorem take_any {W : World} {R : Nat} {b : ByteArray} {p : Nat} (n : Nat) (h : W.heap[R]? = some (.cells #[.string (lf b p)] 114 (0, 0))) (hs : b.size ≤ 1048576) (hn : n ≤ 64) :
    Calls Tryz.prog 59 #[.pointer (some ⟨R, 0, none⟩), .int .i64 (n : Int)] W fun e w' => e = .returned (.string (ck b p n)) ∧ w'.heap[R]? = some (.cells #[.string (lf b (p + n))] 114 (0, 0)) ∧ W.grownBy w' (some R) := by
  have hz := size_lf b p
  have HT := Lib.hid (fun (m : Nat) (hm : m = n ∨ (m = (lf b p).size ∧ m ≤ n)) => lf_take hm)
  have HR := Lib.hid (fun (m : Nat) (hm : m = n ∨ (m = (lf b p).size ∧ m ≤ n)) => lf_rest hm)
  have hc := cell_of_one h
  have hf := frozenY h 0
  have HH := Lib.hid h
  have HX := Lib.hid (show ∀ v, W.grownBy (W.setCell ⟨R, 0, none⟩ v) (some R) ∧ (W.setCell ⟨R, 0, none⟩ v).heap[R]? = some (.cells #[v] 114 (0, 0)) from fun v => ⟨grownBy_setCell' W R v, setY h v⟩)
  clear h
  generalize lf b p = s at *
  generalize ck b p n = c at *
  generalize lf b (p + n) = r at *
  have hs2 : s.size ≤ 1048576 := by omega
  clear hz
  have hm : (min (n : Int) (s.size : Int)).toNat = min n s.size := by omega
  have hmm : min n s.size = n ∨ (min n s.size = s.size ∧ min n s.size ≤ n) := by omega
  have HT' := Lib.hid (HT.out _ hmm)
  have HK := Lib.hid (show (W.setCell ⟨R, 0, none⟩ (.string (s.extract (min n s.size) s.size))).heap[R]? = some (.cells #[.string r] 114 (0, 0)) from by rw [(HX.out _).2, HR.out _ hmm])
  have HM := Lib.hid hm
  clear HT HR HH hm hmm
  go_enter Tryz.func59, Tryz.ntmps59
  go_wp2
  go_ret
  refine ⟨?_, ?_, (HX.out _).1⟩
  · show Ending.returned (Value.string (s.extract 0 (min (n : Int) (s.size : Int)).toNat)) = _
    rw [HM.out, HT'.out]
  · rw [HM.out]; exact HK.out
theorem RdZ.take {W : World} {R T p : Nat} {b : ByteArray} (h : RdZ W R T b p) (n : Nat) (N : Int) (hN : N = (n : Int)) (hn : n ≤ 64) :
    Calls Tryz.prog 59 #[.pointer (some ⟨R, 0, none⟩), .int .i64 N] W fun e w' => e = .returned (.string (ck b p n)) ∧ RdZ w' R T b (p + n) ∧ W.grownBy w' (some R) := by
  subst hN
  refine (take_any n h.rd h.sz hn).mono ?_
  rintro e w' ⟨rfl, h1, h2⟩
  exact ⟨rfl, ⟨h1, (h2.block _ (lt_of_block h.bx) (fun e => h.ne (Option.some.inj e))).trans h.bx, h.ne, h.sz⟩, h2⟩
theorem getN_two (r : ByteArray) (n : Nat) (hn : n ≤ 2) : getN r 0 n < 65536 := by
  unfold getN
  split
  · refine Nat.lt_of_lt_of_le (num_lt n _) ?_
    have h3 : n = 0 ∨ n = 1 ∨ n = 2 := by omega
    rcases h3 with rfl | rfl | rfl <;> decide
  · decide
theorem get_at0n (r : ByteArray) (n : Nat) (w : World) (hr : r.size ≤ 1048576) (hn : n ≤ 8) : Calls Tryz.prog 92 #[.string r, .int .i64 0, .int .i64 (n : Int)] w fun e w' => (∃ b, e = .returned (.tuple #[.int .u64 ((getN r 0 n : Nat) : Int), .bool b])) ∧ w = w' := get_all r 0 n w hr hn
def nb (b : ByteArray) (p n : Nat) : Nat := getN (ck b p n) 0 n
theorem nb_lt (b : ByteArray) (p n : Nat) (hn : n ≤ 2) : nb b p n < 65536 := getN_two _ n hn
set_option maxRecDepth 100000 in
set_option maxHeartbeats 4000000 in
theorem numberD_any {W : World} {R T p : Nat} {b : ByteArray} (h : RdZ W R T b p) (n : Nat) (N : Int) (hN : N = (n : Int)) (hn : n ≤ 2) :
    Calls Tryz.prog 60 #[takeV R, .int .i64 N] W fun e w' => e = .returned (.int .i64 (nb b p n : Nat)) ∧ RdZ w' R T b (p + n) ∧ W.grownBy w' (some R) := by
  subst hN
  have hl := nb_lt b p n hn
  have hwc : IntKind.i64.wrap ((nb b p n : Nat) : Int) = ((nb b p n : Nat) : Int) := IntWalk.i64_in _ ⟨by omega, by omega⟩
  have HT := Lib.hid (h.take n _ rfl (by omega))
  have HG := Lib.hid (fun w' => get_at0n (ck b p n) n w' (Nat.le_trans (size_ck_le b p n) (by omega)) (by omega))
  have HE := Lib.hid (show getN (ck b p n) 0 n = nb b p n from rfl)
  rw [HE.out] at HG
  clear h hl HE
  generalize nb b p n = k at *
  unfold takeV
  go_enter Tryz.func60, Tryz.ntmps60
  go_wp2_with (first
    | (go_at_call 59; (with_reducible refine HT.out.mono ?_); rintro e w5 ⟨rfl, hr5, hg5⟩)
    | (go_at_call 92; (with_reducible refine (HG.out _).mono ?_); rintro e w6 ⟨⟨b0, rfl⟩, rfl⟩))
  go_ret
  exact ⟨rfl, hr5, hg5⟩
end Go.Proofs.YtbafmnafhaoggaaGreatDoor
