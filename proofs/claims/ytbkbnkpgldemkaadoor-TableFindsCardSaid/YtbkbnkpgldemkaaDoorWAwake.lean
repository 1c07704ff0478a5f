/-
  Layer 11's statements: the chapter's example, rest, short, rows.
-/
import Derived.Test.YtbkbnkpgldemkaaDoorWBuild
namespace Go.Proofs.YtbkbnkpgldemkaaDoor
open Go Go.RowKit

def exW : List ByteArray := [⟨#[98, 48, 49]⟩, ⟨#[97, 49, 50]⟩, ⟨#[97, 48, 51]⟩]
def exC : ByteArray := ⟨#[97, 48, 51, 97, 49, 50, 98, 48, 49]⟩
def exS : List ByteArray := [⟨#[97, 48, 51]⟩, ⟨#[97, 49, 50]⟩, ⟨#[98, 48, 49]⟩]
theorem ex_perm : exW.Perm exS := List.reverse_perm exS
theorem ex_riseS : RisingW 2 exS := by unfold RisingW; decide +kernel
theorem ex_cat : catW (sortW exW) = exC := by
  rw [sortW_congr ex_perm, sortW_rising ex_riseS]
  decide +kernel
theorem ex_build : buildE 3 2 exW exC = none := by decide +kernel
theorem ex_rising : RisingW 2 (rowsW 3 exC) := (badW_none (by decide) (fun x hx => by rw [rowsW_size x hx]; decide)).1 (by decide +kernel)
theorem ex_find : findW 2 (rowsW 3 exC) ⟨#[97, 49]⟩ = some ⟨#[97, 49, 50]⟩ := by decide +kernel

set_option maxRecDepth 100000 in
set_option maxHeartbeats 1000000 in
theorem awake11_any (w : World) : Calls Tryd.prog 7 #[] w fun e w' => e = .returned (.bool true) ∧ Below w.heap.size w w' := by
  obtain ⟨W0, hW0⟩ : ∃ W0, w.alloc (.cells #[.string ⟨#[98, 48, 49]⟩, .string ⟨#[97, 49, 50]⟩, .string ⟨#[97, 48, 51]⟩] 9) = W0 := ⟨_, rfl⟩
  have hb0 : Below w.heap.size w W0 := by rw [← hW0]; exact (Below.refl _ w).alloc (Nat.le_refl _) _
  have hh0 : W0.heap[w.heap.size]? = some (.cells #[.string ⟨#[98, 48, 49]⟩, .string ⟨#[97, 49, 50]⟩, .string ⟨#[97, 48, 51]⟩] 9 (0, 0)) := by rw [← hW0]; exact World.alloc_heap_new w _
  have hrow : RowW W0 (.slice (some ⟨w.heap.size, 0, none⟩) 3 3) exW := ⟨_, 3, rfl, fun i x hx => ⟨w.heap.size, 0, rfl, by
    have hi : i < 3 := (List.getElem?_eq_some_iff.1 hx).1
    have h3 : i = 0 ∨ i = 1 ∨ i = 2 := by omega
    rcases h3 with rfl | rfl | rfl <;> (cases hx; simp [World.cell?, hh0])⟩⟩
  have HBu := Lib.hid ((build_table 3 2 _ exW W0 hrow (by decide) (by decide)).mono (R' := fun e w' => ∃ b, e = .returned (.tuple #[.pointer (some ⟨b, 0, none⟩), .nilIface]) ∧ (w'.heap[b]? = some (tabObj 3 2 exC) ∧ Below W0.heap.size W0 w')) fun e w' ⟨t, u, h1, h2, h3⟩ => by
    rw [ex_cat, ex_build] at h2
    obtain ⟨rfl, b, rfl, h4⟩ := h2
    exact ⟨b, h1, h4, h3⟩)
  have HF := Lib.hid (fun (b : Nat) (w5 : World) (h5 : w5.heap[b]? = some (tabObj 3 2 exC)) => show Calls Tryd.prog 20 #[.pointer (some ⟨b, 0, none⟩), .string ⟨#[97, 49]⟩] w5 fun e w' => e = .returned (.tuple #[.string ⟨#[97, 49, 50]⟩, .bool true]) ∧ Below w5.heap.size w5 w' from by
    have := findW_any ⟨#[97, 49]⟩ w5 h5 ⟨by decide, by decide, by decide, by decide⟩ (mono_rising ex_rising _)
    rw [ex_find] at this
    exact this)
  have HY := Lib.hid (fun (b : Nat) (w5 : World) (h5 : w5.heap[b]? = some (tabObj 3 2 exC)) => bytesW_any w5 h5)
  have HB0 := Lib.hid hb0
  unfold exC at HY
  clear hb0 hh0 hrow
  go_enter Tryd.func7, Tryd.ntmps7
  go_wp2_with (go_at_call 11; (with_reducible refine HBu.out.mono ?_); rintro e w1 ⟨b, rfl, ht, hb1⟩; have HT := Lib.hid ht; have HB1 := Lib.hid hb1; clear ht hb1)
  go_wp2_with (go_at_call 20; (with_reducible refine (HF.out _ _ HT.out).mono ?_); rintro e w2 ⟨rfl, hb2⟩; have HT2 := Lib.hid ((hb2.block _ (lt_of_block HT.out)).trans HT.out); have HB2 := Lib.hid hb2; clear hb2)
  go_wp2_with (go_at_call 16; refine (HY.out _ _ HT2.out).mono ?_; rintro e w3 ⟨rfl, rfl⟩)
  go_ret
  exact ⟨rfl, (HB0.out.trans (HB1.out.mono HB0.out.size)).trans (HB2.out.mono (Nat.le_trans HB0.out.size HB1.out.size))⟩

/-- A number's, from 0 on. -/
def restW (x : Int) (n : Nat) : Nat := ((x.tmod n + n) % n).toNat
theorem restW_lt (x : Int) (n : Nat) (hn : 1 ≤ n) : restW x n < n := by
  unfold restW
  have h1 := Int.emod_lt_of_pos (x.tmod n + n) (show (0 : Int) < (n : Int) by omega)
  have h2 := Int.emod_nonneg (x.tmod n + n) (show (n : Int) ≠ 0 by omega)
  omega
theorem restW_num (x : Int) (n : Nat) (hn : 1 ≤ n) (hn2 : n ≤ 100) : (wrap64 (x.tmod n + n)).tmod n = (restW x n : Int) := by
  have h := Int.natAbs_tmod x n
  have hm := Nat.mod_lt x.natAbs (show 0 < n by omega)
  unfold restW
  rw [Int.natAbs_natCast] at h
  generalize x.tmod n = z at *
  have hz : z.natAbs < n := by omega
  have hw : wrap64 (z + n) = z + n := IntWalk.wrap64_in _ ⟨by omega, by omega⟩
  rw [hw, Int.tmod_eq_emod_of_nonneg (by omega)]
  have h2 := Int.emod_nonneg (z + n) (show (n : Int) ≠ 0 by omega)
  omega
set_option maxRecDepth 100000 in
theorem rest11_any (x : Int) (n : Nat) (w : World) (hn : 1 ≤ n) (hn2 : n ≤ 100) :
    Calls Tryd.prog 8 #[.int .i64 x, .int .i64 (n : Int)] w fun e w' => e = .returned (.int .i64 (restW x n : Int)) ∧ w = w' := by
  have HE := Lib.hid (restW_num x n hn hn2)
  have h0 : ((n : Int) == 0) = false := by rw [beq_eq_false_iff_ne]; omega
  have h1 : (n : Int) ≠ 0 := by omega
  clear hn hn2
  generalize (n : Int) = m at *
  go_enter Tryd.func8, Tryd.ntmps8
  go_wp2
  go_ret
  exact ⟨ret_intW HE.out, rfl⟩

/-- A text cut to 60 bytes. -/
def cutW (s : ByteArray) : ByteArray := if 60 < s.size then s.extract 0 60 else s
theorem cutW_size (s : ByteArray) : (cutW s).size ≤ 60 := by
  unfold cutW; split
  · rw [ByteArray.size_extract]; omega
  · omega
set_option maxRecDepth 100000 in
theorem short11_any (s : ByteArray) (w : World) (hs : s.size ≤ maxLen) :
    Calls Tryd.prog 13 #[.string s] w fun e w' => e = .returned (.string (cutW s)) ∧ w = w' := by
  unfold maxLen at hs
  by_cases h : 60 < s.size
  · have h1 : (60 : Int) < (s.size : Int) := by omega
    have h2 : (60 : Int) ≤ (s.size : Int) := by omega
    have HE := Lib.hid (show s.extract 0 60 = cutW s by unfold cutW; rw [if_pos h])
    go_enter Tryd.func13, Tryd.ntmps13
    go_wp2
    go_ret
    exact ⟨ret_stringW HE.out, rfl⟩
  · have h1 : ¬ (60 : Int) < (s.size : Int) := by omega
    have HE := Lib.hid (show s = cutW s by unfold cutW; rw [if_neg h])
    go_enter Tryd.func13, Tryd.ntmps13
    go_wp2
    go_ret
    exact ⟨ret_stringW HE.out, rfl⟩
end Go.Proofs.YtbkbnkpgldemkaaDoor
