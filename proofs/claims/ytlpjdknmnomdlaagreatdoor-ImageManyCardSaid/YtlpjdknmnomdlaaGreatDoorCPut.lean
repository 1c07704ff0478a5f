/-
  Package pack: Put and Get.
-/
import Derived.Test.YtlpjdknmnomdlaaGreatDoorCPack
namespace Go.Proofs.YtlpjdknmnomdlaaGreatDoor
open Go Go.RowKit

/-- What Put's rounds keep. -/
def PuI (n k : Nat) (w : World) (i : Nat) (wr : World) : Prop :=
  wr.ownsRow w.heap.size 5 1 (.slice (some ⟨w.heap.size, 0, none⟩) k k) k (bcells (List.replicate (k - i) 0 ++ putL n i)) ∧ Below w.heap.size w wr
theorem PuI.start {n k : Nat} {w w1 : World} (h : w1.ownsRow w.heap.size 5 1 (.slice (some ⟨w.heap.size, 0, none⟩) k k) k (madeCells (Value.int .u8 0).cells (k * 1)).toList) (hg : w.grownBy w1 none) : PuI n k w 0 w1 := by
  refine ⟨?_, (Below.refl _ w).grown hg (Nat.le_refl _) (fun _ h => by cases h)⟩
  rw [made_bcells] at h
  simpa [putL] using h
theorem PuI.cell {n k i : Nat} {w wr : World} (h : PuI n k w i wr) (hi : i < k) : (∃ v, wr.cell? ⟨w.heap.size, k - 1 - i, none⟩ = some v) ∧ wr.frozen? ⟨w.heap.size, k - 1 - i, none⟩ = false := by
  refine ⟨?_, h.1.frozenAt _⟩
  rw [h.1.cellAt _ (by omega)]
  have hl : k - 1 - i < (bcells (List.replicate (k - i) 0 ++ putL n i)).length := by rw [length_bcells, List.length_append, List.length_replicate, length_putL]; omega
  exact ⟨_, List.getElem?_eq_getElem hl⟩
theorem put_set (n k i : Nat) (hi : i < k) : (List.replicate (k - i) 0 ++ putL n i).set (k - 1 - i) (byteAt n i) = List.replicate (k - (i + 1)) 0 ++ putL n (i + 1) := by
  rw [List.set_append_left _ _ (by rw [List.length_replicate]; omega), show k - i = (k - (i + 1)) + 1 by omega, List.replicate_succ', List.set_append_right _ _ (by rw [List.length_replicate]; omega), List.length_replicate, show k - 1 - i - (k - (i + 1)) = 0 by omega]
  simp [putL]
theorem PuI.step {n k i : Nat} {w wr : World} (h : PuI n k w i wr) (hi : i < k) : PuI n k w (i + 1) (wr.setCell ⟨w.heap.size, k - 1 - i, none⟩ (.int .u8 ((byteAt n i).toNat : Int))) := by
  refine ⟨?_, h.2.setCell (p := ⟨w.heap.size, k - 1 - i, none⟩) (Nat.le_refl _) _⟩
  have h1 := (h.1.stored (k - 1 - i) (.int .u8 ((byteAt n i).toNat : Int))).1
  rw [bcells_set, put_set n k i hi] at h1
  exact h1
theorem PuI.conv {n k : Nat} {w wr : World} (h : PuI n k w k wr) : (convert 55 9 (.slice (some ⟨w.heap.size, 0, none⟩) k k)).run Tryz.prog wr = .ok (.string (ofL (putL n k))) wr := by
  have h1 := h.1
  rw [Nat.sub_self, List.replicate_zero, List.nil_append] at h1
  have hl := length_putL n k
  have := conv_owned (v := .slice (some ⟨w.heap.size, 0, none⟩) k k) (B := w.heap.size) (w := wr) (putL n k)
  rw [hl] at this
  exact this h1

theorem byte_int (n j : Nat) : ((n : Int) / 2 ^ (8 * j) % 256) = ((byteAt n j).toNat : Int) := by
  rw [byteAt_nat, show ((2 : Int) ^ (8 * j)) = ((256 ^ j : Nat) : Int) by rw [Int.pow_mul]; simp]
  simp

set_option maxRecDepth 100000 in
set_option maxHeartbeats 1000000 in
theorem put_any (n k : Nat) (w : World) (hk : k ≤ 8) :
    Calls Tryz.prog 106 #[.int .u64 (n : Int), .int .i64 (k : Int)] w fun e w' => e = .returned (.string (ofL (putL n k))) ∧ Below w.heap.size w w' := by
  obtain ⟨i0, hi, hz0, hz1, hz2⟩ := info_parts byteInfo
  go_enter Tryz.func106, Tryz.ntmps106
  go_wp2_with (refine wpList_make_full _ rfl _ _ 55 rfl w.heap.size 5 i0 (.int .u8 0) 1 Tryz.underlying55 hi hz0 hz1 .i64 .i64 _ _ k rfl rfl rfl rfl (by rw [hz2]; omega) (by unfold maxLen; omega) (Nat.le_refl _) ?_; intro w1 hown hgrow)
  have HI := PuI.start (n := n) hown hgrow
  clear hown hgrow
  go_loopw [13] (fun i wr => ∃ j : Nat, j ≤ k ∧ i = .int .i64 j ∧ PuI n k w j wr) (fun i _ => k - (intOf i).toNat)
  case atStart => exact ⟨0, Nat.zero_le _, rfl, HI⟩
  case round =>
    obtain ⟨j, hj, rfl, HR⟩ := hrel
    by_cases hlt : j < k
    · obtain ⟨⟨v0, hc⟩, hf⟩ := HR.cell hlt
      have HS := Lib.hid (HR.step hlt)
      rw [← byte_int n j] at HS
      clear HR
      go_wp2
      go_roundw
      case rel => exact ⟨j + 1, by omega, by go_num, HS.out⟩
      case measure => simp [intOf]; omega
    · obtain rfl : j = k := by omega
      have hconv := HR.conv
      go_wp2
      go_ret
      exact ⟨rfl, HR.2⟩

theorem put8 (n : Nat) (w : World) : Calls Tryz.prog 106 #[.int .u64 (n : Int), .int .i64 8] w fun e w' => e = .returned (.string (ofL (putL n 8))) ∧ Below w.heap.size w w' := put_any n 8 w (by decide)
theorem put4 (n : Nat) (w : World) : Calls Tryz.prog 106 #[.int .u64 (n : Int), .int .i64 4] w fun e w' => e = .returned (.string (ofL (putL n 4))) ∧ Below w.heap.size w w' := put_any n 4 w (by decide)
theorem put0 (n : Nat) (w : World) : Calls Tryz.prog 106 #[.int .u64 (n : Int), .int .i64 0] w fun e w' => e = .returned (.string ⟨#[]⟩) ∧ Below w.heap.size w w' := put_any n 0 w (by decide)

/- Get. -/
theorem num_drop (a j : Nat) (s : ByteArray) (h : a + j < s.size) : num (j + 1) ((bs s).drop a) = num j ((bs s).drop a) * 256 + s[a + j].toNat := by
  have hk : a + j < (bs s).length := by rw [size_bs]; exact h
  rw [num_succ, List.getElem?_drop, List.getElem?_eq_getElem hk]
  rfl

set_option maxRecDepth 100000 in
set_option maxHeartbeats 1000000 in
theorem get_any (s : ByteArray) (a k : Nat) (w : World) (hs : s.size ≤ maxLen) (hk : k ≤ 8) (ha : a + k ≤ s.size) :
    Calls Tryz.prog 154 #[.string s, .int .i64 (a : Int), .int .i64 (k : Int)] w fun e w' => e = .returned (.tuple #[.int .u64 ((num k ((bs s).drop a) : Nat) : Int), .bool true]) ∧ w = w' := by
  unfold maxLen at hs
  have h1 : ¬ (8 : Int) < (k : Int) := by omega
  have h2 : ¬ ((s.size : Int) - (k : Int) < (a : Int)) := by omega
  go_enter Tryz.func154, Tryz.ntmps154
  go_wp2
  go_loop [8, 29] (fun x i => ∃ j : Nat, j ≤ k ∧ i = .int .i64 j ∧ x = .int .u64 ((num j ((bs s).drop a) : Nat) : Int)) (fun _ i => k - (intOf i).toNat)
  case atStart => exact ⟨0, Nat.zero_le _, rfl, rfl⟩
  case round =>
    obtain ⟨j, hj, rfl, rfl⟩ := hrel
    by_cases hlt : j < k
    · have hlt' : a + j < s.size := by omega
      have HA := Lib.hid (num_drop a j s hlt')
      have hxl := num_room j ((bs s).drop a) (by omega)
      generalize num j ((bs s).drop a) = x at *
      have hsh := shl8 x hxl
      have hor := or8 x s[a + j] hxl
      have hwc : IntKind.u64.wrap (s[a + j].toNat : Int) = (s[a + j].toNat : Int) := by
        have := s[a + j].toNat_lt
        exact u64_wrap_id _ (by omega) (by omega)
      go_wp2
      go_round
      case rel => exact ⟨j + 1, by omega, by go_num, by rw [HA.out]; simp⟩
      case measure => simp [intOf]; omega
    · obtain rfl : j = k := by omega
      go_wp2
      go_ret2
      exact ⟨rfl, rfl⟩
end Go.Proofs.YtlpjdknmnomdlaaGreatDoor
