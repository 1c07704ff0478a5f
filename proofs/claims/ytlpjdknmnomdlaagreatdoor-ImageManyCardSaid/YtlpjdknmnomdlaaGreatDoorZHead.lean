/-
  Package image: counts, what of an image can't be told by the first of its bytes, and these.
-/
import Derived.Test.YtlpjdknmnomdlaaGreatDoorZRowA
namespace Go.Proofs.YtlpjdknmnomdlaaGreatDoor
open Go Go.RowKit

/-- An image in memory. -/
structure ImR (W : World) (va vl vr vm : Value) (im : Im) : Prop where
  a : RowC W va 6 (im.als.map alC)
  l : RowC W vl 6 (im.lks.map lkC)
  r : RowC W vr 9 (im.rls.map rlC)
  m : RowC W vm 2 (im.mbs.map mbC)
theorem ImR.below {W W' : World} {va vl vr vm : Value} {im : Im} (h : ImR W va vl vr vm im) (hb : Below W.heap.size W W') : ImR W' va vl vr vm im := ⟨h.a.below hb, h.l.below hb, h.r.below hb, h.m.below hb⟩
theorem ImR.slices {W : World} {va vl vr vm : Value} {im : Im} (h : ImR W va vl vr vm im) : ∃ a1 c1 a2 c2 a3 c3 a4 c4, va = .slice a1 (cntN im 0) c1 ∧ vl = .slice a2 (cntN im 1) c2 ∧ vr = .slice a3 (cntN im 2) c3 ∧ vm = .slice a4 (cntN im 3) c4 := by
  obtain ⟨a1, c1, h1⟩ := h.a.slice
  obtain ⟨a2, c2, h2⟩ := h.l.slice
  obtain ⟨a3, c3, h3⟩ := h.r.slice
  obtain ⟨a4, c4, h4⟩ := h.m.slice
  rw [List.length_map] at h1 h2 h3 h4
  exact ⟨a1, c1, a2, c2, a3, c3, a4, c4, h1, h2, h3, h4⟩
theorem size4I : (Tryz.prog.info? 90).map (·.size) = some 4 := by kernel_rfl
set_option maxRecDepth 100000 in
set_option maxHeartbeats 2000000 in
theorem counts_any (a1 a2 a3 a4 : Option Addr) (n1 n2 n3 n4 c1 c2 c3 c4 : Nat) (th de : Int) (w : World) :
    Calls Tryz.prog 92 #[.agg #[.slice a1 n1 c1, .slice a2 n2 c2, .slice a3 n3 c3, .slice a4 n4 c4, .int .i64 th, .int .i64 de]] w fun e w' => e = .returned (.agg #[.int .i64 (n1 : Int), .int .i64 (n2 : Int), .int .i64 (n3 : Int), .int .i64 (n4 : Int)]) ∧ Below w.heap.size w w' := by
  go_enter Tryz.func92, Tryz.ntmps92
  go_wp2
  refine bodyPost_ret (results_cell_row rfl _ _ (w.heap.size + 1) 90 #[.int .i64 (n1 : Int), .int .i64 (n2 : Int), .int .i64 (n3 : Int), .int .i64 (n4 : Int)] (0, 0) _ rfl (by exact heap_alloc2_new w _ _) Tryz.underlying90 rfl size4I) rfl ?_
  exact ⟨rfl, ((Below.refl _ w).alloc (Nat.le_refl _) _).alloc (by simp) _⟩
theorem cnt_index (n : Nat → Nat) (k : Nat) (hk : k < 4) (c : Nat) (hc : n k = c) (w : World) : (Instr.index 90 (.agg #[.int .i64 (n 0 : Int), .int .i64 (n 1 : Int), .int .i64 (n 2 : Int), .int .i64 (n 3 : Int)]) (.int .i64 (k : Int))).run Tryz.prog w = .ok (.int .i64 (c : Int)) w := by
  subst hc
  rcases four k hk with rfl | rfl | rfl | rfl <;> (show _ = _; kernel_rfl)
theorem manyB_true {im : Im} {k : Nat} (hk : k < 4) (h : 4000 < cntN im k) : manyB im = true := by
  unfold manyB
  rw [decide_eq_true_iff]
  rcases four k hk with rfl | rfl | rfl | rfl <;> omega
theorem manyB_none {im : Im} (h : ∀ k, k < 4 → cntN im k ≤ 4000) : manyB im = false := by
  unfold manyB
  rw [decide_eq_false_iff_not]
  have h0 := h 0 (by decide)
  have h1 := h 1 (by decide)
  have h2 := h 2 (by decide)
  have h3 := h 3 (by decide)
  omega
/-- What checkHead tells. -/
def headE (im : Im) : Option ErrT := if manyB im then some (16, 0, IMAGE) else if argB im then some (1, 0, IMAGE) else none
set_option maxRecDepth 100000 in
set_option maxHeartbeats 4000000 in
theorem checkHead_any (a1 a2 a3 a4 : Option Addr) (c1 c2 c3 c4 : Nat) (im : Im) (w : World) :
    Calls Tryz.prog 57 #[.agg #[.slice a1 (cntN im 0) c1, .slice a2 (cntN im 1) c2, .slice a3 (cntN im 2) c3, .slice a4 (cntN im 3) c4, .int .i64 im.th, .int .i64 im.de]] w fun e w' => ∃ v, e = .returned v ∧ EncZ w' v (headE im) ∧ Below w.heap.size w w' := by
  have HC := Lib.hid (fun w' => counts_any a1 a2 a3 a4 (cntN im 0) (cntN im 1) (cntN im 2) (cntN im 3) c1 c2 c3 c4 im.th im.de w')
  have HN := Lib.hid (fun w' => show Calls Tryz.prog 62 #[.int .i64 16, .int .i64 0, .string { data := #[105, 109, 97, 103, 101] }] w' fun e w'' => ∃ v, e = .returned v ∧ FaultZ w'' v 16 0 IMAGE ∧ Below w'.heap.size w' w'' from newZ_any 16 0 IMAGE w' (by decide))
  have HA := Lib.hid (fun w' => show Calls Tryz.prog 62 #[.int .i64 1, .int .i64 0, .string { data := #[105, 109, 97, 103, 101] }] w' fun e w'' => ∃ v, e = .returned v ∧ FaultZ w'' v 1 0 IMAGE ∧ Below w'.heap.size w' w'' from newZ_any 1 0 IMAGE w' (by decide))
  obtain ⟨W1, hW1⟩ : ∃ W1, w.alloc (.cells #[.slice a1 (cntN im 0) c1, .slice a2 (cntN im 1) c2, .slice a3 (cntN im 2) c3, .slice a4 (cntN im 3) c4, .int .i64 im.th, .int .i64 im.de] 44) = W1 := ⟨_, rfl⟩
  have hb1 : Below w.heap.size w W1 := by rw [← hW1]; exact (Below.refl _ w).alloc (Nat.le_refl _) _
  have hh1 : W1.heap[w.heap.size]? = some (.cells #[.slice a1 (cntN im 0) c1, .slice a2 (cntN im 1) c2, .slice a3 (cntN im 2) c3, .slice a4 (cntN im 3) c4, .int .i64 im.th, .int .i64 im.de] 44 (0, 0)) := by rw [← hW1]; exact World.alloc_heap_new w _
  have H6 := Lib.hid (fun w' (h : Below W1.heap.size W1 w') => cells6 ((h.block _ (lt_of_block hh1)).trans hh1))
  have HB := Lib.hid (fun w' (h : Below W1.heap.size W1 w') => hb1.trans (h.mono hb1.size))
  have HW1 := Lib.hid hW1
  have c := H6.out _ (Below.refl _ _)
  obtain ⟨d0, d1, d2, d3, d4, d5⟩ := c
  clear hW1 hb1 hh1
  go_enter Tryz.func57, Tryz.ntmps57
  go_upto_region 1 with fail
  rw [HW1.out]
  go_wp2_with (go_at_call 92; (with_reducible refine (HC.out _).mono ?_); rintro e w2 ⟨rfl, hb2⟩)
  clear d0 d1 d2 d3 d4 d5 HW1
  go_loopw [4, 7] (fun _ i wr => ∃ k : Nat, k ≤ 4 ∧ i = .int .i64 (k : Int) ∧ (∀ j, j < k → cntN im j ≤ 4000) ∧ Below W1.heap.size W1 wr) (fun _ i _ => 4 - (intOf i).toNat)
  case atStart => exact ⟨0, Nat.zero_le _, rfl, fun j hj => absurd hj (Nat.not_lt_zero _), hb2⟩
  case round =>
    obtain ⟨k, hk, rfl, hu, hR⟩ := hrel
    clear hb2
    have HU := Lib.hid hu
    clear hu
    by_cases hlt : k < 4
    · have hlt' : (k : Int) < 4 := by omega
      obtain ⟨c, hc⟩ : ∃ c, cntN im k = c := ⟨_, rfl⟩
      have hix := cnt_index (cntN im) k hlt c hc wr
      by_cases h4 : 4000 < c
      · have h4' : (4000 : Int) < (c : Int) := by omega
        have HE := Lib.hid (show headE im = some (16, 0, IMAGE) by unfold headE; rw [if_pos (manyB_true hlt (by omega))])
        clear h4 hc
        go_wp2_with (go_at_call 62; (with_reducible refine (HN.out _).mono ?_); rintro e w5 ⟨v, rfl, hv, hb5⟩)
        go_ret
        exact ⟨_, rfl, by rw [HE.out]; exact hv, HB.out _ (hR.trans (hb5.mono hR.size))⟩
      · have h4' : ¬ (4000 : Int) < (c : Int) := by omega
        have HX := Lib.hid (show ∀ j, j < k + 1 → cntN im j ≤ 4000 from fun j hj => by
          rcases Nat.lt_or_eq_of_le (Nat.le_of_lt_succ hj) with h | h
          · exact HU.out j h
          · rw [h]; omega)
        clear h4 hc
        go_wp2
        go_roundw
        case rel => exact ⟨k + 1, by omega, by go_num, HX.out, hR⟩
        case measure => simp [intOf]; omega
    · obtain rfl : k = 4 := by omega
      have HM := Lib.hid (manyB_none HU.out)
      have d := H6.out wr hR
      obtain ⟨d0, d1, d2, d3, d4, d5⟩ := d
      by_cases h1 : min im.th im.de < 0
      · have HE := Lib.hid (show headE im = some (1, 0, IMAGE) by unfold headE; rw [HM.out, if_neg (by decide), if_pos (show argB im = true from decide_eq_true (by omega))])
        go_wp2_with (go_at_call 62; (with_reducible refine (HA.out _).mono ?_); rintro e w5 ⟨v, rfl, hv, hb5⟩)
        go_ret
        exact ⟨_, rfl, by rw [HE.out]; exact hv, HB.out _ (hR.trans (hb5.mono hR.size))⟩
      · by_cases h2 : 255 < max im.th im.de
        · have HE := Lib.hid (show headE im = some (1, 0, IMAGE) by unfold headE; rw [HM.out, if_neg (by decide), if_pos (show argB im = true from decide_eq_true (by omega))])
          go_wp2_with (go_at_call 62; (with_reducible refine (HA.out _).mono ?_); rintro e w5 ⟨v, rfl, hv, hb5⟩)
          go_ret
          exact ⟨_, rfl, by rw [HE.out]; exact hv, HB.out _ (hR.trans (hb5.mono hR.size))⟩
        · have HE := Lib.hid (show headE im = none by unfold headE; rw [HM.out, if_neg (by decide), if_neg (by rw [show argB im = false from decide_eq_false (by omega)]; decide)])
          go_wp2
          go_ret
          exact ⟨_, rfl, by rw [HE.out]; rfl, HB.out _ hR⟩

theorem put2 (n : Nat) (w : World) : Calls Tryz.prog 106 #[.int .u64 (n : Int), .int .i64 2] w fun e w' => e = .returned (.string (ofL (putL n 2))) ∧ Below w.heap.size w w' := put_any n 2 w (by decide)
set_option maxRecDepth 100000 in
set_option maxHeartbeats 4000000 in
theorem head_any (a1 a2 a3 a4 : Option Addr) (c1 c2 c3 c4 : Nat) (im : Im) (w : World) (hn : ∀ k, cntN im k ≤ 4000) :
    Calls Tryz.prog 59 #[.agg #[.slice a1 (cntN im 0) c1, .slice a2 (cntN im 1) c2, .slice a3 (cntN im 2) c3, .slice a4 (cntN im 3) c4, .int .i64 im.th, .int .i64 im.de]] w fun e w' => e = .returned (.string (headB im)) ∧ Below w.heap.size w w' := by
  have HC := Lib.hid (fun w' => counts_any a1 a2 a3 a4 (cntN im 0) (cntN im 1) (cntN im 2) (cntN im 3) c1 c2 c3 c4 im.th im.de w')
  obtain ⟨W1, hW1⟩ : ∃ W1, w.alloc (.cells #[.slice a1 (cntN im 0) c1, .slice a2 (cntN im 1) c2, .slice a3 (cntN im 2) c3, .slice a4 (cntN im 3) c4, .int .i64 im.th, .int .i64 im.de] 44) = W1 := ⟨_, rfl⟩
  have hb1 : Below w.heap.size w W1 := by rw [← hW1]; exact (Below.refl _ w).alloc (Nat.le_refl _) _
  have hh1 : W1.heap[w.heap.size]? = some (.cells #[.slice a1 (cntN im 0) c1, .slice a2 (cntN im 1) c2, .slice a3 (cntN im 2) c3, .slice a4 (cntN im 3) c4, .int .i64 im.th, .int .i64 im.de] 44 (0, 0)) := by rw [← hW1]; exact World.alloc_heap_new w _
  have H6 := Lib.hid (fun w' (h : Below W1.heap.size W1 w') => cells6 ((h.block _ (lt_of_block hh1)).trans hh1))
  have HB := Lib.hid (fun w' (h : Below W1.heap.size W1 w') => hb1.trans (h.mono hb1.size))
  have HT := Lib.hid (onward W1 (fun w' => smallZ_any im.th w')).out
  have HD := Lib.hid (onward W1 (fun w' => smallZ_any im.de w')).out
  have HHB := Lib.hid (show headB im = headUp im 4 ++ byteZ im.th ++ byteZ im.de from rfl)
  have HW1 := Lib.hid hW1
  have c := H6.out _ (Below.refl _ _)
  obtain ⟨d0, d1, d2, d3, d4, d5⟩ := c
  clear hW1 hb1 hh1
  go_enter Tryz.func59, Tryz.ntmps59
  go_upto_region 1 with fail
  rw [HW1.out]
  go_wp2_with (go_at_call 92; (with_reducible refine (HC.out _).mono ?_); rintro e w2 ⟨rfl, hb2⟩)
  clear d0 d1 d2 d3 d4 d5 HW1
  go_loopw [3, 5, 8] (fun row _ i wr => ∃ k : Nat, k ≤ 4 ∧ i = .int .i64 (k : Int) ∧ row = .string (headUp im k) ∧ Below W1.heap.size W1 wr) (fun _ _ i _ => 4 - (intOf i).toNat)
  case atStart => exact ⟨0, Nat.zero_le _, rfl, rfl, hb2⟩
  case round =>
    obtain ⟨k, hk, rfl, rfl, hR⟩ := hrel
    clear hb2
    by_cases hlt : k < 4
    · have hlt' : (k : Int) < 4 := by omega
      have hck := hn k
      have HST := Lib.hid (show headUp im k ++ ofL (putL (cntN im k) 2) = headUp im (k + 1) from rfl)
      obtain ⟨c, hc⟩ : ∃ c, cntN im k = c := ⟨_, rfl⟩
      have hix := cnt_index (cntN im) k hlt c hc wr
      have hsz := headUp_size im k
      have hs2 : (ofL (putL c 2)).size = 2 := by rw [size_ofL, length_putL]
      rw [hc] at HST hck
      have hwr : IntKind.u64.wrap (c : Int) = (c : Int) := u64_wrap_id _ (by omega) (by omega)
      have HP := Lib.hid (onward W1 (fun w' => put2 c w')).out
      generalize headUp im k = hu at *
      generalize ofL (putL c 2) = p2 at *
      have hnf : ¬ (9223372036854775807 < hu.size + p2.size) := by omega
      clear hc hsz hs2 hck hn
      go_wp2_with (go_at_call 106; (with_reducible refine (HP.out _ hR).mono ?_); rintro e w5 ⟨rfl, hb5⟩)
      go_roundw
      case rel => exact ⟨k + 1, by omega, by go_num, by rw [HST.out], hb5⟩
      case measure => simp [intOf]; omega
    · obtain rfl : k = 4 := by omega
      have y0 := headUp_size im 4
      have y1 := size_byteZ im.th
      have y2 := size_byteZ im.de
      generalize headUp im 4 = hu at *
      generalize byteZ im.th = b1 at *
      generalize byteZ im.de = b2 at *
      have o1 : ¬ 9223372036854775807 < hu.size + b1.size := by omega
      obtain ⟨h1, hh1⟩ : ∃ h1, hu ++ b1 = h1 := ⟨_, rfl⟩
      have y3 : h1.size = 13 := by rw [← hh1, ByteArray.size_append]; omega
      have o2 : ¬ 9223372036854775807 < h1.size + b2.size := by omega
      obtain ⟨h2, hh2⟩ : ∃ h2, h1 ++ b2 = h2 := ⟨_, rfl⟩
      rw [hh1, hh2] at HHB
      clear y0 y1 y2 y3 hn
      have hd : Below W1.heap.size W1 wr.drew := Below.drew hR
      have HS := Lib.hid (fun w' (h : Below W1.heap.size W1 w') => (show Below W1.heap.size W1 w' ∧ _ from ⟨h, (H6.out w' h).2.2.2.2⟩))
      go_wp2
      go_region_held3 (fun w' => Below W1.heap.size W1 w' ∧ (w'.cell? ⟨w.heap.size, 4, none⟩ = some (.int .i64 im.th) ∧ w'.cell? ⟨w.heap.size, 5, none⟩ = some (.int .i64 im.de)))
        (exact HS.out _ (by assumption))
        (first
          | (go_at_call 100; (with_reducible refine (HT.out _ (by assumption)).mono ?_); rintro e w5 ⟨rfl, hb5⟩)
          | (go_at_call 100; (with_reducible refine (HD.out _ (by assumption)).mono ?_); rintro e w6 ⟨rfl, hb6⟩))
      all_goals go_wp2
      all_goals go_ret
      all_goals exact ⟨by rw [HHB.out]; rfl, HB.out _ (by assumption)⟩
end Go.Proofs.YtlpjdknmnomdlaaGreatDoor
