/-
  The statements' own (layer 4): awake and short.
-/
import Derived.Test.YtjajlfcmmgdfcaaDoorDCheck
import Derived.Test.YtjajlfcmmgdfcaaDoorBKit
namespace Go.Proofs.YtjajlfcmmgdfcaaDoor
open Go Go.RowKit

/-- A text cut to 60 bytes. -/
def cut60 (s : ByteArray) : ByteArray := if 60 < s.size then s.extract 0 60 else s
theorem size_cut60 (s : ByteArray) : (cut60 s).size ≤ 60 := by
  unfold cut60; split
  · rw [ByteArray.size_extract]; omega
  · omega
theorem short60_any (s : ByteArray) (w : World) (hs : s.size ≤ maxLen) :
    Calls Tryd.prog 10 #[.string s] w fun e w' => e = .returned (.string (cut60 s)) ∧ w = w' := by
  unfold maxLen at hs
  by_cases h : 60 < s.size
  · have HE := Lib.hid (show cut60 s = s.extract 0 60 by unfold cut60; rw [if_pos h])
    have h' : (60 : Int) < (s.size : Int) := by omega
    have h'' : (60 : Int) ≤ (s.size : Int) := by omega
    go_enter Tryd.func10, Tryd.ntmps10
    go_wp2
    go_ret
    exact ⟨ret_string HE.out.symm, rfl⟩
  · have HE := Lib.hid (show cut60 s = s by unfold cut60; rw [if_neg h])
    have h' : ¬ (60 : Int) < (s.size : Int) := by omega
    go_enter Tryd.func10, Tryd.ntmps10
    go_wp2
    go_ret
    exact ⟨ret_string HE.out.symm, rfl⟩

theorem ex_chk : chkS ⟨#[101, 110, 45, 45, 117, 115]⟩ = some 3 := by decide +kernel
theorem ex_trim : trimS ⟨#[122, 104, 45, 72, 97, 110, 116, 45, 67, 78, 45, 120, 45, 112, 114, 105, 118, 97, 116, 101, 49]⟩ = ⟨#[122, 104, 45, 72, 97, 110, 116, 45, 67, 78]⟩ := by decide +kernel

theorem awake4_any (w : World) (hg : TypeLaid w) :
    Calls Tryd.prog 9 #[] w fun e w' => e = .returned (.bool true) ∧ Below w.heap.size w w' := by
  have HG := Lib.hid hg
  clear hg
  have HC := Lib.hid (check_any ⟨#[101, 110, 45, 45, 117, 115]⟩ w (by decide))
  have HT := Lib.hid (fun w5 => (trim_split ⟨#[122, 104, 45, 72, 97, 110, 116, 45, 67, 78, 45, 120, 45, 112, 114, 105, 118, 97, 116, 101, 49]⟩ w5 (by decide)).mono (R' := fun e w6 => e = .returned (.string ⟨#[122, 104, 45, 72, 97, 110, 116, 45, 67, 78]⟩) ∧ w5 = w6) fun e w6 ⟨p, q⟩ => ⟨by rw [p, ex_trim], q⟩)
  go_enter Tryd.func9, Tryd.ntmps9
  go_wp2_with fail
  refine HC.out.mono ?_
  rintro e w1 ⟨v, rfl, hE, hb1⟩
  have hk : kindE ⟨#[101, 110, 45, 45, 117, 115]⟩ = 10 := by unfold kindE; rw [ex_chk]; rfl
  have hp : placeE ⟨#[101, 110, 45, 45, 117, 115]⟩ = 3 := by unfold placeE; rw [ex_chk]; rfl
  have hg1 := HG.out.below hb1 HG.out.size
  have HK := Lib.hid (fun w5 (hb : Below w1.heap.size w1 w5) => (kind_err w5 (hE.below hb) (hg1.below hb hg1.size)).mono (R' := fun e w6 => e = .returned (.int .i64 10) ∧ Below w1.heap.size w1 w6) fun e w6 ⟨p, q⟩ => ⟨by rw [p, hk], hb.trans (q.mono hb.size)⟩)
  have HP := Lib.hid (fun w5 (hb : Below w1.heap.size w1 w5) => (place_err w5 (hE.below hb)).mono (R' := fun e w6 => e = .returned (.int .i64 3) ∧ Below w1.heap.size w1 w6) fun e w6 ⟨p, q⟩ => ⟨by rw [p, hp], hb.trans (q.mono hb.size)⟩)
  have hb0 := Below.refl w1.heap.size w1
  have HB1 := Lib.hid hb1
  clear hE hk hp hg1 hb1
  go_wp2_with (first
    | (go_at_call 21; ((with_reducible refine (HT.out _).mono ?_); rintro e w5 ⟨rfl, rfl⟩))
    | (go_at_call 19; ((with_reducible refine (HK.out _ (by assumption)).mono ?_); rintro e w5 ⟨rfl, hb5⟩))
    | (go_at_call 20; ((with_reducible refine (HP.out _ (by assumption)).mono ?_); rintro e w5 ⟨rfl, hb6⟩)))
  go_ret
  exact ⟨rfl, HB1.out.trans (hb6.mono HB1.out.size)⟩
end Go.Proofs.YtjajlfcmmgdfcaaDoor
