/-
  The document's RightLikely, place, RightRule (layer 13). (Printed by wip/gen_zrefl.py.)
-/
import Derived.Test.YtgjifikahlmioaaGreatDoorZRefR
import Derived.Deep.CutRange
namespace Go.Proofs.YtgjifikahlmioaaGreatDoor
open Go Go.RowKit

set_option maxRecDepth 100000 in
set_option maxHeartbeats 8000000 in
theorem rightLikelyD_any (x : Lk) (w : World) (hx : LkS x) :
    Calls Tryz.prog 87 #[.agg #[.string x.l, .string x.s, .string x.r, .string x.tl, .string x.ts, .string x.tr]] w fun e w' => e = .returned (.bool (rightLk x)) ∧ Below w.heap.size w w' := by
  obtain ⟨W1, hW1⟩ : ∃ W1, w.alloc (.cells #[.string x.l, .string x.s, .string x.r, .string x.tl, .string x.ts, .string x.tr] 49) = W1 := ⟨_, rfl⟩
  have hb1 : Below w.heap.size w W1 := by rw [← hW1]; exact (Below.refl _ w).alloc (Nat.le_refl _) _
  have hA : W1.heap[w.heap.size]? = some (.cells #[.string x.l, .string x.s, .string x.r, .string x.tl, .string x.ts, .string x.tr] 49 (0, 0)) := by rw [← hW1]; exact World.alloc_heap_new w _
  have HC := Lib.hid (fun w' (h : Below W1.heap.size W1 w') => cells6 ((h.block _ (lt_of_block hA)).trans hA))
  have HB := Lib.hid (fun w' (h : Below W1.heap.size W1 w') => hb1.trans (h.mono hb1.size))
  have HM := Lib.hid (rightLk_refZ x)
  have hz : ∀ t ∈ lkT x, t.size ≤ 1000 := hx
  have HA1 := onward W1 (fun w5 => languageD_any x.l w5 (by have := hz x.l (by simp [lkT]); omega))
  have HA2 := onward W1 (fun w5 => languageD_any x.tl w5 (by have := hz x.tl (by simp [lkT]); omega))
  have HA3 := onward W1 (fun w5 => scriptD_any x.s w5 (by have := hz x.s (by simp [lkT]); omega))
  have HA4 := onward W1 (fun w5 => regionD_any x.r w5 (by have := hz x.r (by simp [lkT]); omega))
  have HA5 := onward W1 (fun w5 => scriptD_any x.ts w5 (by have := hz x.ts (by simp [lkT]); omega))
  have HA6 := onward W1 (fun w5 => regionD_any x.tr w5 (by have := hz x.tr (by simp [lkT]); omega))
  have hu1 : (x.tl.toList == ({ data := #[117, 110, 100] } : ByteArray).toList) = decide (x.tl = UND) := same_bool x.tl UND
  have hu2 : (x.tl.toList == [117, 110, 100]) = decide (x.tl = UND) := by
    rw [show (({ data := #[117, 110, 100] } : ByteArray).toList) = [117, 110, 100] from by rw [ByteArray.toList_eq]] at hu1
    exact hu1
  have hn3 := none_bool x.s
  have hn4 := none_bool x.r
  have e3 : noneS x.s = decide (x.s.size = 0) := rfl
  have e4 : noneS x.r = decide (x.r.size = 0) := rfl
  rw [← e3, ← e4] at HM
  have HW1 := Lib.hid hW1
  obtain ⟨d0, d1, d2, d3, d4, d5⟩ := HC.out _ (Below.refl _ _)
  clear hW1 hb1 hA hx hz e3 e4
  generalize (smallS x.l && languageS x.l) = a1 at *
  generalize (smallS x.tl && languageS x.tl) = a2 at *
  generalize (smallS x.s && scriptS x.s) = a3 at *
  generalize (smallS x.r && regionS x.r) = a4 at *
  generalize (smallS x.ts && scriptS x.ts) = a5 at *
  generalize (smallS x.tr && regionS x.tr) = a6 at *
  generalize decide (x.tl = UND) = u at *
  generalize noneS x.s = n3 at *
  generalize noneS x.r = n4 at *
  go_enter Tryz.func87, Tryz.ntmps87
  go_upto_region 1 with fail
  rw [HW1.out]
  go_upto_region 3 with (first
    | (go_at_call 125; (with_reducible refine (HA1.out _ (Below.refl _ _)).mono ?_); rintro e w2 ⟨rfl, hb2⟩; obtain ⟨c0, c1, c2, c3, c4, c5⟩ := HC.out _ hb2)
    | (go_at_call 125; (with_reducible refine (HA2.out _ (by assumption)).mono ?_); rintro e w3 ⟨rfl, hb3⟩))
  go_cut [5] from 13 to 20 (fun u wx => u = .bool (n3 || a3) ∧ Below W1.heap.size W1 wx)
  case first =>
    obtain ⟨f0, f1, f2, f3, f4, f5⟩ := HC.out _ hb3
    cases n3 with
    | true =>
      go_wp2_with fail
      go_meet
      case rel => exact ⟨rfl, hb3⟩
    | false =>
      go_wp2_with (go_at_call 126; (with_reducible refine (HA3.out _ (by assumption)).mono ?_); rintro e w4 ⟨rfl, hb4⟩)
      go_meet
      case rel => exact ⟨rfl, hb4⟩
  case rest =>
    obtain ⟨rfl, hb4⟩ := hcut
    obtain ⟨wo, rfl⟩ : ∃ x, x = wc := ⟨_, rfl⟩
    go_upto_region 4 with fail
    go_cut [6] from 21 to 28 (fun u wx => u = .bool (n4 || a4) ∧ Below W1.heap.size W1 wx)
    case first =>
      obtain ⟨f0, f1, f2, f3, f4, f5⟩ := HC.out _ hb4
      cases n4 with
      | true =>
        go_wp2_with fail
        go_meet
        case rel => exact ⟨rfl, hb4⟩
      | false =>
        go_wp2_with (go_at_call 127; (with_reducible refine (HA4.out _ (by assumption)).mono ?_); rintro e w5 ⟨rfl, hb5⟩)
        go_meet
        case rel => exact ⟨rfl, hb5⟩
    case rest =>
      obtain ⟨rfl, hb5⟩ := hcut
      obtain ⟨wp, rfl⟩ : ∃ x, x = wc := ⟨_, rfl⟩
      obtain ⟨f0, f1, f2, f3, f4, f5⟩ := HC.out _ hb5
      clear d0 d1 d2 d3 d4 d5 hb2 hb3 hb4 hn3 hn4
      generalize (n3 || a3) = b3 at *
      generalize (n4 || a4) = b4 at *
      cases a1 with
      | false =>
        go_wp2_with (first
          | (go_at_call 126; (with_reducible refine (HA5.out _ (by assumption)).mono ?_); rintro e w6 ⟨rfl, hb6⟩; obtain ⟨g0, g1, g2, g3, g4, g5⟩ := HC.out _ hb6)
          | (go_at_call 127; (with_reducible refine (HA6.out _ (by assumption)).mono ?_); rintro e w7 ⟨rfl, hb7⟩; obtain ⟨k0, k1, k2, k3, k4, k5⟩ := HC.out _ hb7))
        go_ret
        exact ⟨ret_bool (by rw [HM.out]; rfl), HB.out _ (by assumption)⟩
      | true =>
        cases a2 with
        | false =>
          go_wp2_with (first
            | (go_at_call 126; (with_reducible refine (HA5.out _ (by assumption)).mono ?_); rintro e w6 ⟨rfl, hb6⟩; obtain ⟨g0, g1, g2, g3, g4, g5⟩ := HC.out _ hb6)
            | (go_at_call 127; (with_reducible refine (HA6.out _ (by assumption)).mono ?_); rintro e w7 ⟨rfl, hb7⟩; obtain ⟨k0, k1, k2, k3, k4, k5⟩ := HC.out _ hb7))
          go_ret
          exact ⟨ret_bool (by rw [HM.out]; rfl), HB.out _ (by assumption)⟩
        | true =>
          cases b3 with
          | false =>
            go_wp2_with (first
              | (go_at_call 126; (with_reducible refine (HA5.out _ (by assumption)).mono ?_); rintro e w6 ⟨rfl, hb6⟩; obtain ⟨g0, g1, g2, g3, g4, g5⟩ := HC.out _ hb6)
              | (go_at_call 127; (with_reducible refine (HA6.out _ (by assumption)).mono ?_); rintro e w7 ⟨rfl, hb7⟩; obtain ⟨k0, k1, k2, k3, k4, k5⟩ := HC.out _ hb7))
            go_ret
            exact ⟨ret_bool (by rw [HM.out]; rfl), HB.out _ (by assumption)⟩
          | true =>
            cases b4 with
            | false =>
              go_wp2_with (first
                | (go_at_call 126; (with_reducible refine (HA5.out _ (by assumption)).mono ?_); rintro e w6 ⟨rfl, hb6⟩; obtain ⟨g0, g1, g2, g3, g4, g5⟩ := HC.out _ hb6)
                | (go_at_call 127; (with_reducible refine (HA6.out _ (by assumption)).mono ?_); rintro e w7 ⟨rfl, hb7⟩; obtain ⟨k0, k1, k2, k3, k4, k5⟩ := HC.out _ hb7))
              go_ret
              exact ⟨ret_bool (by rw [HM.out]; rfl), HB.out _ (by assumption)⟩
            | true =>
              cases a5 with
              | false =>
                go_wp2_with (first
                  | (go_at_call 126; (with_reducible refine (HA5.out _ (by assumption)).mono ?_); rintro e w6 ⟨rfl, hb6⟩; obtain ⟨g0, g1, g2, g3, g4, g5⟩ := HC.out _ hb6)
                  | (go_at_call 127; (with_reducible refine (HA6.out _ (by assumption)).mono ?_); rintro e w7 ⟨rfl, hb7⟩; obtain ⟨k0, k1, k2, k3, k4, k5⟩ := HC.out _ hb7))
                go_ret
                exact ⟨ret_bool (by rw [HM.out]; rfl), HB.out _ (by assumption)⟩
              | true =>
                cases a6 with
                | false =>
                  go_wp2_with (first
                    | (go_at_call 126; (with_reducible refine (HA5.out _ (by assumption)).mono ?_); rintro e w6 ⟨rfl, hb6⟩; obtain ⟨g0, g1, g2, g3, g4, g5⟩ := HC.out _ hb6)
                    | (go_at_call 127; (with_reducible refine (HA6.out _ (by assumption)).mono ?_); rintro e w7 ⟨rfl, hb7⟩; obtain ⟨k0, k1, k2, k3, k4, k5⟩ := HC.out _ hb7))
                  go_ret
                  exact ⟨ret_bool (by rw [HM.out]; rfl), HB.out _ (by assumption)⟩
                | true =>
                  cases u
                  all_goals
                    go_wp2_with (first
                      | (go_at_call 126; (with_reducible refine (HA5.out _ (by assumption)).mono ?_); rintro e w6 ⟨rfl, hb6⟩; obtain ⟨g0, g1, g2, g3, g4, g5⟩ := HC.out _ hb6)
                      | (go_at_call 127; (with_reducible refine (HA6.out _ (by assumption)).mono ?_); rintro e w7 ⟨rfl, hb7⟩; obtain ⟨k0, k1, k2, k3, k4, k5⟩ := HC.out _ hb7))
                    go_ret
                    exact ⟨ret_bool (by rw [HM.out]; rfl), HB.out _ (by assumption)⟩
theorem map_selfZ (f : UInt8 → UInt8) : ∀ l : List UInt8, l.map f = l ↔ ∀ c ∈ l, f c = c
  | [] => by simp
  | a :: r => by rw [List.map_cons, List.cons.injEq, map_selfZ f r, List.forall_mem_cons]
theorem small_allZ (s : ByteArray) : smallS s = true ↔ ∀ c ∈ bs s, lowB c = c := by
  rw [smallS_iff, ← map_selfZ]
  constructor
  · intro h
    have := congrArg bs h
    rwa [show bs (lowS s) = (bs s).map lowB from bs_ofL _] at this
  · intro h
    exact ofL_ext ((bs_ofL _).trans h)
theorem small_markZ {s : ByteArray} (h : markS s = true) : smallS s = smallS (s.extract 1 s.size) := by
  rw [Bool.eq_iff_iff, small_allZ, small_allZ, drop_extract, bs_ofL]
  have h0 : 0 < s.size := by
    rcases Nat.eq_zero_or_pos s.size with h0 | h0
    · unfold markS at h; rw [dif_neg (by omega)] at h; cases h
    · exact h0
  rw [markS_pos h0] at h
  have hb : bs s = s[0] :: (bs s).drop 1 := by
    have hl : 0 < (bs s).length := by rw [size_bs]; exact h0
    have h1 := List.drop_eq_getElem_cons hl
    rw [List.drop_zero] at h1
    exact h1
  have hc : lowB s[0] = s[0] := by
    have : s[0].toNat = 36 ∨ s[0].toNat = 33 := by simpa using h
    rcases this with e | e
    · rw [show s[0] = 36 from UInt8.toNat_inj.1 e]; decide
    · rw [show s[0] = 33 from UInt8.toNat_inj.1 e]; decide
  constructor
  · intro hh c hm; exact hh c (List.mem_of_mem_drop hm)
  · intro hh c hm
    rw [hb] at hm
    rcases List.mem_cons.1 hm with rfl | hm
    · exact hc
    · exact hh c hm
theorem fit_refZ (k : Nat) (s : ByteArray) : (fitK k s && smallS s) = (match k with | 0 => smallS s && languageS s | 1 => smallS s && scriptS s | _ => if markS s then nameS (s.extract 1 s.size) else smallS s && regionS s) := by
  rcases k with _ | _ | k
  · exact Bool.and_comm _ _
  · exact Bool.and_comm _ _
  · show (placeS s && smallS s) = _
    unfold placeS
    cases hm : markS s with
    | false => simp only [Bool.false_eq_true, if_false]; exact Bool.and_comm _ _
    | true =>
      simp only [if_true]
      rw [small_markZ hm]
      unfold nameS
      generalize smallS (s.extract 1 s.size) = q
      generalize alnumS (s.extract 1 s.size) = r
      generalize decide ((s.extract 1 s.size).size ≤ 7) = p
      cases p <;> cases q <;> cases r <;> rfl
end Go.Proofs.YtgjifikahlmioaaGreatDoor
