/-
  The document's own answers for package split: Sub, Check.
-/
import Derived.Test.YtdgeaelblebaoaaDRefS
import Derived.Test.YtdgeaelblebaoaaLrow
namespace Go.Proofs.Ytdgeaelblebaoaa
open Go Go.RowKit

theorem class_pos (s : ByteArray) : decide ((0 : Int) < classS s) = alnumS s := by
  obtain ⟨c, a, d, n, h⟩ := classIs s
  cases h with
  | none h0 h1 h2 h3 => rw [h0, h3]; rfl
  | alpha h0 h1 h2 h3 => rw [h0, h3]; rfl
  | digit h0 h1 h2 h3 => rw [h0, h3]; rfl
  | alnum h0 h1 h2 h3 => rw [h0, h3]; rfl
set_option maxHeartbeats 1000000 in
theorem sub_ref (s : ByteArray) (w : World) (hs : s.size ≤ 1048576) :
    Calls Try.prog 18 #[.string s] w fun e w' => e = .returned (.bool (okS s)) ∧ w = w' := by
  have C1 := Lib.hid (fun w5 => class_ref s w5 (by omega))
  have hcp := class_pos s
  by_cases h8 : s.size ≤ 8
  · have h8i : (s.size : Int) ≤ 8 := by omega
    have HE := Lib.hid (show okS s = alnumS s by unfold okS; rw [decide_eq_true h8, Bool.true_and])
    generalize alnumS s = t at *
    generalize classS s = c at *
    have HCP := Lib.hid hcp
    clear h8
    cases t
    · have hc0 : ¬ (0 : Int) < c := by simpa using hcp
      clear hcp
      go_enter Try.func18, Try.ntmps18
      go_wp2_with (go_at_call 16; refine (C1.out _).mono ?_; rintro e w' ⟨rfl, rfl⟩)
      go_ret
      exact ⟨ret_bool (by rw [HE.out]; exact HCP.out), rfl⟩
    · have hc0 : (0 : Int) < c := by simpa using hcp
      clear hcp
      go_enter Try.func18, Try.ntmps18
      go_wp2_with (go_at_call 16; refine (C1.out _).mono ?_; rintro e w' ⟨rfl, rfl⟩)
      go_ret
      exact ⟨ret_bool HE.out.symm, rfl⟩
  · have h8i : ¬ (s.size : Int) ≤ 8 := by omega
    have HE := Lib.hid (show okS s = false by unfold okS; rw [decide_eq_false h8, Bool.false_and])
    clear h8 hcp
    go_enter Try.func18, Try.ntmps18
    go_wp2
    go_ret
    exact ⟨ret_bool HE.out.symm, rfl⟩

theorem badOf_succ {l : List (Nat × ByteArray)} {k : Nat} {x : Nat × ByteArray} (h : l[k]? = some x) (hb : badOf (l.take k) = none) : badOf (l.take (k + 1)) = if okS x.2 then none else some x.1 := by
  obtain ⟨hk, he⟩ := List.getElem?_eq_some_iff.1 h
  rw [List.take_succ_eq_append_getElem hk, he, badOf_append, if_pos hb]
  rfl
theorem badOf_full {l : List (Nat × ByteArray)} {k : Nat} {a : Nat} (h : badOf (l.take k) = some a) : badOf l = some a := by
  conv => lhs; rw [← List.take_append_drop k l]
  rw [badOf_append, h]; rfl

end Go.Proofs.Ytdgeaelblebaoaa
