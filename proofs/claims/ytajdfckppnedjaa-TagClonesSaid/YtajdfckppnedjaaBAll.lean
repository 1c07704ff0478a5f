/-
  Package ascii: what a text has: all, Alpha, Digit, Alnum, Class.
-/
import Derived.Test.YtajdfckppnedjaaBByte
import Derived.WalkSmall
namespace Go.Proofs.Ytajdfckppnedjaa
open Go Go.RowKit

theorem all_take_succ (p : UInt8 → Bool) (s : ByteArray) (k : Nat) (h : k < s.size) : ((bs s).take (k + 1)).all p = (((bs s).take k).all p && p s[k]) := by
  rw [List.take_succ_eq_append_getElem (by simpa [size_bs] using h), List.all_append]
  simp
  rfl

theorem has_false_at (p : UInt8 → Bool) (s : ByteArray) (k : Nat) (h : k < s.size) (hp : p s[k] = false) : has p s = false := by
  unfold has
  rw [Bool.and_eq_false_iff]
  right
  rw [List.all_eq_false]
  exact ⟨s[k], List.getElem_mem (l := bs s) (by simpa [size_bs] using h), by simp [hp]⟩
theorem has_all (p : UInt8 → Bool) (s : ByteArray) (h : ((bs s).take s.size).all p = true) : has p s = !s.toList.isEmpty := by
  rw [List.take_of_length_le (by simp)] at h
  unfold has
  rw [h, ByteArray.toList_eq]
  simp

set_option maxHeartbeats 400000 in
theorem all_any (m : Int) (hm : m = 2 ∨ m = 4 ∨ m = 6) (s : ByteArray) (a : Addr) (w : World) (hs : s.size ≤ maxLen) (h : w.cell? a = some (.int .i64 m)) :
    Calls Try.prog 34 #[.string s, .func (.func 39) #[] #[.pointer (some a)]] w fun e w' => e = .returned (.bool (has (mkP m) s)) ∧ Below w.heap.size w w' := by
  unfold maxLen at hs
  go_enter Try.func34, Try.ntmps34
  go_wp2
  go_loopw [8] (fun i wr => ∃ k : Nat, k ≤ s.size ∧ i = .int .i64 k ∧ Hid (((bs s).take k).all (mkP m) = true) ∧ wr.cell? a = some (.int .i64 m) ∧ Below w.heap.size w wr) (fun i _ => s.size - (intOf i).toNat)
  case atStart => exact ⟨0, Nat.zero_le _, rfl, by simp [Hid], h, Below.refl _ _⟩
  case round =>
    obtain ⟨k, hk, rfl, HP, hc, hB⟩ := hrel
    by_cases hlt : k < s.size
    · have HT := Lib.hid (all_take_succ (mkP m) s k hlt)
      rcases hv : mkP m s[k] with _ | _
      · have HV := Lib.hid hv
        clear hv
        go_wp2_with (go_at_call 39; refine (marked1_quiet m hm _ a _ hc).mono ?_; rintro e w' ⟨rfl, nq, rfl⟩; rw [HV.out])
        go_ret
        exact ⟨ret_bool (has_false_at _ s k hlt HV.out).symm, below_drewN hB _⟩
      · have HV := Lib.hid hv
        clear hv
        go_wp2_with (go_at_call 39; refine (marked1_quiet m hm _ a _ hc).mono ?_; rintro e w' ⟨rfl, nq, rfl⟩; rw [HV.out])
        go_roundw
        case rel => exact ⟨k + 1, by omega, by go_num, Lib.hid (by rw [HT.out, HP.out, HV.out]; rfl), by simpa using hc, below_drewN hB _⟩
        case measure => simp [intOf]; omega
    · obtain rfl : k = s.size := by omega
      go_wp2
      go_ret
      exact ⟨ret_bool (has_all _ s HP.out).symm, hB⟩

theorem has_congr {p q : UInt8 → Bool} (h : ∀ c, p c = q c) (s : ByteArray) : has p s = has q s := by
  rw [funext h]
theorem marked_any (m : Int) (w : World) :
    Calls Try.prog 35 #[.int .i64 m] w fun e w' => e = .returned (.func (.func 39) #[] #[.pointer (some ⟨w.heap.size, 0, none⟩)]) ∧ w.alloc (.cells #[.int .i64 m] 3) = w' := by
  have hmf : ∀ (fn : Fn) (first cap : Array Value) (w : World), (Instr.makeFunc fn first cap).run Try.prog w = .ok (.func fn first cap) w := fun _ _ _ _ => rfl
  go_enter Try.func35, Try.ntmps35
  go_wp2
  go_ret
  exact ⟨rfl, rfl⟩
theorem alpha_any (s : ByteArray) (w : World) (hs : s.size ≤ maxLen) :
    Calls Try.prog 26 #[.string s] w fun e w' => e = .returned (.bool (alphaS s)) ∧ Below w.heap.size w w' := by
  have HE := Lib.hid (has_congr mkP_2 s)
  go_enter Try.func26, Try.ntmps26
  go_wp2_with (first | (go_at_call 35; refine (marked_any _ _).mono ?_; rintro e w' ⟨rfl, rfl⟩) | (go_at_call 34; refine (all_any 2 (by simp) s _ _ hs (by simp)).mono ?_; rintro e w' ⟨rfl, hb⟩))
  go_ret
  exact ⟨ret_bool HE.out, ((Below.refl _ w).alloc (Nat.le_refl _) _).trans (hb.mono (by simp))⟩
theorem digitS_any (s : ByteArray) (w : World) (hs : s.size ≤ maxLen) :
    Calls Try.prog 25 #[.string s] w fun e w' => e = .returned (.bool (digitS s)) ∧ Below w.heap.size w w' := by
  have HE := Lib.hid (has_congr mkP_4 s)
  go_enter Try.func25, Try.ntmps25
  go_wp2_with (first | (go_at_call 35; refine (marked_any _ _).mono ?_; rintro e w' ⟨rfl, rfl⟩) | (go_at_call 34; refine (all_any 4 (by simp) s _ _ hs (by simp)).mono ?_; rintro e w' ⟨rfl, hb⟩))
  go_ret
  exact ⟨ret_bool HE.out, ((Below.refl _ w).alloc (Nat.le_refl _) _).trans (hb.mono (by simp))⟩
theorem alnum_any (s : ByteArray) (w : World) (hs : s.size ≤ maxLen) :
    Calls Try.prog 24 #[.string s] w fun e w' => e = .returned (.bool (alnumS s)) ∧ Below w.heap.size w w' := by
  have HE := Lib.hid (has_congr mkP_6 s)
  go_enter Try.func24, Try.ntmps24
  go_wp2_with (first | (go_at_call 35; refine (marked_any _ _).mono ?_; rintro e w' ⟨rfl, rfl⟩) | (go_at_call 34; refine (all_any 6 (by simp) s _ _ hs (by simp)).mono ?_; rintro e w' ⟨rfl, hb⟩))
  go_ret
  exact ⟨ret_bool HE.out, ((Below.refl _ w).alloc (Nat.le_refl _) _).trans (hb.mono (by simp))⟩

end Go.Proofs.Ytajdfckppnedjaa
