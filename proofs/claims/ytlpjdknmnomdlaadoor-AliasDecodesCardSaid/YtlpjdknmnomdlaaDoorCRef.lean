/-
  The document's own May, Pack.
-/
import Derived.Test.YtlpjdknmnomdlaaDoorCTrim
namespace Go.Proofs.YtlpjdknmnomdlaaDoor
open Go Go.RowKit

set_option maxRecDepth 100000 in
set_option maxHeartbeats 2000000 in
theorem may_any (s : ByteArray) (w : World) (hs : s.size ≤ 140737488351232) :
    Calls Tryd.prog 26 #[.string s] w fun e w' => e = .returned (.bool (packT s)) ∧ w = w' := by
  go_enter Tryd.func26, Tryd.ntmps26
  go_wp2
  go_loop [3] (fun i => ∃ k : Nat, k ≤ s.size ∧ i = .int .i64 k ∧ ((bs s).take k).all isP = true) (fun i => s.size - (intOf i).toNat)
  case atStart => exact ⟨0, Nat.zero_le _, rfl, by simp⟩
  case round =>
    obtain ⟨k, hk, rfl, HR⟩ := hrel
    by_cases hlt : k < s.size
    · have HV := Lib.hid (isP_val s[k])
      have HF := Lib.hid (packT_at hlt)
      have HS := Lib.hid (fun h : isP s[k] = true => show ((bs s).take (k + 1)).all isP = true by rw [all_take_succ _ _ _ hlt, HR, h]; rfl)
      clear HR
      rcases pd s[k] with ⟨h1, h2⟩ | ⟨h1, h2⟩ | h | h | h | h | ⟨h1, h2⟩ | ⟨h1, h2⟩ | ⟨h1, h2⟩ | ⟨h1, h2⟩ | h1
      iterate 5
        · go_wp2
          go_round
          case rel => exact ⟨k + 1, by omega, by go_num, HS.out (by rw [HV.out]; simp; omega)⟩
          case measure => simp [intOf]; omega
      all_goals
        have g1 : ((s[k].toNat : Int) == 42) = false := by simp; omega
        have g2 : ((s[k].toNat : Int) == 33) = false := by simp; omega
        have g3 : ((s[k].toNat : Int) == 36) = false := by simp; omega
        first
        | have g4 : decide ((s[k].toNat : Int) ≤ 122) = false := decide_eq_false (by omega)
          have g5 : decide ((s[k].toNat : Int) ≤ 57) = false := decide_eq_false (by omega)
        | have g4 : decide ((s[k].toNat : Int) ≤ 57) = false := decide_eq_false (by omega)
        | have g4 := Lib.hid trivial
        go_wp2
        go_ret
        exact ⟨ret_bool (HF.out (by rw [HV.out]; simp; omega)).symm, rfl⟩
    · obtain rfl : k = s.size := by omega
      rw [List.take_of_length_le (by rw [size_bs]; exact Nat.le_refl _)] at HR
      have HF := Lib.hid (show packT s = decide ((s.size : Int) ≤ 8) by
        unfold packT
        rw [HR, Bool.and_true]
        rw [Bool.eq_iff_iff, decide_eq_true_iff, decide_eq_true_iff]; omega)
      clear HR
      go_wp2
      go_ret
      exact ⟨ret_bool HF.out.symm, rfl⟩

set_option maxRecDepth 100000 in
set_option maxHeartbeats 2000000 in
theorem packR_any (s : ByteArray) (w : World) (hs : s.size ≤ 140737488351232) :
    Calls Tryd.prog 12 #[.string s] w fun e w' => e = .returned (.agg #[.int .u64 ((packN s : Nat) : Int), .bool (packT (lowS s))]) ∧ Below w.heap.size w w' := by
  obtain ⟨t, ht⟩ : ∃ t, lowS s = t := ⟨_, rfl⟩
  have HN : Hid (packN s = if packT t then num 8 (bs t) else 0) := by unfold packN; rw [ht]; exact Lib.hid rfl
  have hts : t.size ≤ 140737488351232 := by rw [← ht, size_lowS]; exact hs
  have HM := Lib.hid (fun w5 => may_any t w5 hts)
  have HL := Lib.hid (fun w5 => (lower_ref s w5 hs).mono (R' := fun e w6 => e = .returned (.string t) ∧ Below w5.heap.size w5 w6) fun e w6 ⟨p, q⟩ => ⟨by rw [p, ht], q⟩)
  rw [ht]
  clear ht
  generalize packN s = r at *
  rcases hP : packT t with _ | _
  all_goals
    have HP := Lib.hid hP
    rw [hP] at HN
    clear hP
    go_enter Tryd.func12, Tryd.ntmps12
    go_wp2_with fail
    refine (HL.out _).mono ?_
    rintro e w1 ⟨rfl, hb1⟩
    have r1 : w1.cell? ⟨w.heap.size, 0, none⟩ = some (.int .u64 0) := (hb1.cell (p := ⟨w.heap.size, 0, none⟩) (by simp)).trans (by simp)
    have r2 : w1.cell? ⟨w.heap.size, 1, none⟩ = some (.bool false) := (hb1.cell (p := ⟨w.heap.size, 1, none⟩) (by simp)).trans (by simp)
    have r3 : w1.frozen? ⟨w.heap.size, 0, none⟩ = false := (hb1.frozen (p := ⟨w.heap.size, 0, none⟩) (by simp)).trans (by simp)
    have r4 : w1.frozen? ⟨w.heap.size, 1, none⟩ = false := (hb1.frozen (p := ⟨w.heap.size, 1, none⟩) (by simp)).trans (by simp)
    have hB : Below w.heap.size w w1 := ((Below.refl _ w).alloc (Nat.le_refl _) _).trans (hb1.mono (by simp))
    clear hb1
    go_wp2_with (go_at_call 26; refine (HM.out _).mono ?_; rintro e w' ⟨rfl, rfl⟩; rw [HP.out])
  · have hn := HN.out
    rw [if_neg (by simp)] at hn
    subst hn
    have q1 := World.cell?_setCell_same w1 ⟨w.heap.size, 0, none⟩ (.int .u64 0) r1
    have q2 := (World.cell?_setCell_other w1 ⟨w.heap.size, 0, none⟩ ⟨w.heap.size, 1, none⟩ (.int .u64 0) (by simp)).trans r2
    have q3 := hB.setCell (p := ⟨w.heap.size, 0, none⟩) (Nat.le_refl _) (.int .u64 0)
    have p1 := (World.cell?_setCell_other (w1.setCell ⟨w.heap.size, 0, none⟩ (.int .u64 0)) ⟨w.heap.size, 1, none⟩ ⟨w.heap.size, 0, none⟩ (.bool false) (by simp)).trans q1
    have p2 := World.cell?_setCell_same _ _ (.bool false) q2
    have p3 := q3.setCell (p := ⟨w.heap.size, 1, none⟩) (Nat.le_refl _) (.bool false)
    simp [bodyPost, results, Tryd.results12, go_sem, p1, p2, p3]
  · have hn := HN.out
    simp only [if_true] at hn
    subst hn
    have q1 := World.cell?_setCell_same w1 ⟨w.heap.size, 0, none⟩ (.int .u64 ((num 8 (bs t) : Nat) : Int)) r1
    have q2 := (World.cell?_setCell_other w1 ⟨w.heap.size, 0, none⟩ ⟨w.heap.size, 1, none⟩ (.int .u64 ((num 8 (bs t) : Nat) : Int)) (by simp)).trans r2
    have q3 := hB.setCell (p := ⟨w.heap.size, 0, none⟩) (Nat.le_refl _) (.int .u64 ((num 8 (bs t) : Nat) : Int))
    go_loop [5, 6] (fun x i => ∃ k : Nat, k ≤ 8 ∧ i = .int .i64 k ∧ x = .int .u64 ((num k (bs t) : Nat) : Int)) (fun _ i => 8 - (intOf i).toNat)
    case atStart => exact ⟨0, Nat.zero_le _, rfl, rfl⟩
    case round =>
      obtain ⟨k, hk, rfl, rfl⟩ := hrel
      by_cases hlt : k < 8
      · have HA := Lib.hid (num_at k t)
        have HB := Lib.hid (num_past k t)
        have hxl := num_room k (bs t) hlt
        generalize num k (bs t) = x at *
        have hsh := shl8 x hxl
        by_cases hkt : k < t.size
        · have hwc : IntKind.u64.wrap (t[k].toNat : Int) = (t[k].toNat : Int) := by
            have := t[k].toNat_lt
            exact u64_wrap_id _ (by omega) (by omega)
          have hsm : IntKind.u64.wrap ((x : Int) * 256 + (t[k].toNat : Int)) = (x : Int) * 256 + (t[k].toNat : Int) := by
            have := t[k].toNat_lt
            exact u64_wrap_id _ (by omega) (by omega)
          go_wp2
          go_round
          case rel => exact ⟨k + 1, by omega, by go_num, by rw [HA.out hkt]; simp⟩
          case measure => simp [intOf]; omega
        · go_wp2
          go_round
          case rel => exact ⟨k + 1, by omega, by go_num, by rw [HB.out hkt]; simp⟩
          case measure => simp [intOf]; omega
      · obtain rfl : k = 8 := by omega
        have p1 := (World.cell?_setCell_other (w1.setCell ⟨w.heap.size, 0, none⟩ (.int .u64 ((num 8 (bs t) : Nat) : Int))) ⟨w.heap.size, 1, none⟩ ⟨w.heap.size, 0, none⟩ (.bool true) (by simp)).trans q1
        have p2 := World.cell?_setCell_same _ _ (.bool true) q2
        have p3 := q3.setCell (p := ⟨w.heap.size, 1, none⟩) (Nat.le_refl _) (.bool true)
        go_wp2
        simp [bodyPost, results, Tryd.results12, go_sem, p1, p2, p3]
end Go.Proofs.YtlpjdknmnomdlaaDoor
