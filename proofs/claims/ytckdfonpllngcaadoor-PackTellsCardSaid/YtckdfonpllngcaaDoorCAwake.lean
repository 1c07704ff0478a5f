/-
  Layer 3: awake; short.
-/
import Derived.Test.YtckdfonpllngcaaDoorCPut
namespace Go.Proofs.YtckdfonpllngcaaDoor
open Go Go.RowKit

theorem ex_pack : packN ⟨#[69, 78]⟩ = 7308779245268893696 ∧ packT (lowS ⟨#[69, 78]⟩) = true := by decide +kernel
theorem ex_get : num 2 ((bs ⟨#[120, 65, 66]⟩).drop 1) = 16706 := by decide +kernel

theorem awake3_any (w : World) :
    Calls Tryd.prog 5 #[] w fun e w' => e = .returned (.bool true) ∧ Below w.heap.size w w' := by
  have HP := Lib.hid (fun w5 => (pack_any ⟨#[69, 78]⟩ w5 (by decide)).mono (R' := fun e w6 => e = .returned (.tuple #[.int .u64 7308779245268893696, .bool true]) ∧ Below w5.heap.size w5 w6) fun e w6 ⟨p, q⟩ => ⟨by rw [p, ex_pack.1, ex_pack.2]; rfl, q⟩)
  have HG := Lib.hid (fun w5 => (get_any ⟨#[120, 65, 66]⟩ 1 2 w5 (by decide) (by decide) (by decide)).mono (R' := fun e w6 => e = .returned (.tuple #[.int .u64 16706, .bool true]) ∧ w5 = w6) fun e w6 ⟨p, q⟩ => ⟨by rw [p, ex_get]; rfl, q⟩)
  go_enter Tryd.func5, Tryd.ntmps5
  go_wp2_with (first | (go_at_call 7; refine (HP.out _).mono ?_; rintro e w1 ⟨rfl, hb1⟩) | (go_at_call 12; refine (HG.out _).mono ?_; rintro e w2 ⟨rfl, rfl⟩))
  go_ret
  exact ⟨rfl, hb1⟩

/-- A text cut to 20 bytes. -/
def cut20 (s : ByteArray) : ByteArray := if 20 < s.size then s.extract 0 20 else s
theorem size_cut20 (s : ByteArray) : (cut20 s).size ≤ 20 := by
  unfold cut20; split
  · rw [ByteArray.size_extract]; omega
  · omega
theorem short20_any (s : ByteArray) (w : World) (hs : s.size ≤ maxLen) :
    Calls Tryd.prog 6 #[.string s] w fun e w' => e = .returned (.string (cut20 s)) ∧ w = w' := by
  unfold maxLen at hs
  by_cases h : 20 < s.size
  · have HE := Lib.hid (show cut20 s = s.extract 0 20 by unfold cut20; rw [if_pos h])
    have h' : (20 : Int) < (s.size : Int) := by omega
    have h'' : (20 : Int) ≤ (s.size : Int) := by omega
    go_enter Tryd.func6, Tryd.ntmps6
    go_wp2
    go_ret
    exact ⟨ret_string HE.out.symm, rfl⟩
  · have HE := Lib.hid (show cut20 s = s by unfold cut20; rw [if_neg h])
    have h' : ¬ (20 : Int) < (s.size : Int) := by omega
    go_enter Tryd.func6, Tryd.ntmps6
    go_wp2
    go_ret
    exact ⟨ret_string HE.out.symm, rfl⟩
end Go.Proofs.YtckdfonpllngcaaDoor
