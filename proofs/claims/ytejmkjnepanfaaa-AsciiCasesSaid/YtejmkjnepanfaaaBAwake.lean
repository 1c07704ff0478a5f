/-
  The statements' own: awake and short.
-/
import Derived.Test.YtejmkjnepanfaaaBRef
namespace Go.Proofs.Ytejmkjnepanfaaa
open Go Go.RowKit

/-- A text cut to 40 bytes. -/
def cut (s : ByteArray) : ByteArray := if 40 < s.size then s.extract 0 40 else s
theorem size_cut (s : ByteArray) : (cut s).size ≤ 40 := by
  unfold cut; split
  · rw [ByteArray.size_extract]; omega
  · omega
theorem short_any (s : ByteArray) (w : World) (hs : s.size ≤ maxLen) :
    Calls Try.prog 10 #[.string s] w fun e w' => e = .returned (.string (cut s)) ∧ w = w' := by
  unfold maxLen at hs
  by_cases h : 40 < s.size
  · have HE := Lib.hid (show cut s = s.extract 0 40 by unfold cut; rw [if_pos h])
    have h' : (40 : Int) < (s.size : Int) := by omega
    have h'' : (40 : Int) ≤ (s.size : Int) := by omega
    go_enter Try.func10, Try.ntmps10
    go_wp2
    go_ret
    exact ⟨ret_string HE.out.symm, rfl⟩
  · have HE := Lib.hid (show cut s = s by unfold cut; rw [if_neg h])
    have h' : ¬ (40 : Int) < (s.size : Int) := by omega
    go_enter Try.func10, Try.ntmps10
    go_wp2
    go_ret
    exact ⟨ret_string HE.out.symm, rfl⟩

theorem ex_title : titleS ⟨#[108, 65, 84, 78]⟩ = ⟨#[76, 97, 116, 110]⟩ := by decide +kernel
theorem ex_class : classS ⟨#[49, 57, 57, 52]⟩ = 2 := by decide +kernel
theorem ex_same : sameS ⟨#[69, 78]⟩ ⟨#[101, 110]⟩ = true := by decide +kernel

theorem awake_any (w : World) :
    Calls Try.prog 9 #[] w fun e w' => e = .returned (.bool true) ∧ Below w.heap.size w w' := by
  have HT := Lib.hid (fun w5 => (title_text ⟨#[108, 65, 84, 78]⟩ w5 (by decide)).mono (R' := fun e w6 => e = .returned (.string ⟨#[76, 97, 116, 110]⟩) ∧ Below w5.heap.size w5 w6) fun e w6 ⟨p, q⟩ => ⟨by rw [p, ex_title], q⟩)
  have HC := Lib.hid (fun w5 => (class_any ⟨#[49, 57, 57, 52]⟩ w5 (by decide)).mono (R' := fun e w6 => e = .returned (.int .i64 2) ∧ Below w5.heap.size w5 w6) fun e w6 ⟨p, q⟩ => ⟨by rw [p, ex_class], q⟩)
  have HS := Lib.hid (fun w5 => (same_any ⟨#[69, 78]⟩ ⟨#[101, 110]⟩ w5 (by decide) (by decide)).mono (R' := fun e w6 => e = .returned (.bool true) ∧ Below w5.heap.size w5 w6) fun e w6 ⟨p, q⟩ => ⟨by rw [p, ex_same], q⟩)
  go_enter Try.func9, Try.ntmps9
  go_wp2_with (first | (go_at_call 20; refine (HT.out _).mono ?_; rintro e w1 ⟨rfl, hb1⟩) | (go_at_call 12; refine (HC.out _).mono ?_; rintro e w2 ⟨rfl, hb2⟩) | (go_at_call 24; refine (HS.out _).mono ?_; rintro e w3 ⟨rfl, hb3⟩))
  go_ret
  exact ⟨rfl, hb1.trans ((hb2.mono hb1.size).trans (hb3.mono (Nat.le_trans hb1.size hb2.size)))⟩
end Go.Proofs.Ytejmkjnepanfaaa
