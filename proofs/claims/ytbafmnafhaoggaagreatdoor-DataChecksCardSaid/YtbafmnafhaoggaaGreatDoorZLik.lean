/-
  Package image: RightLikely, and the closures that make rows of likely rows, rules and members. (Printed by wip/gen_zlik.py.)
-/
import Derived.Test.YtbafmnafhaoggaaGreatDoorZPacks
namespace Go.Proofs.YtbafmnafhaoggaaGreatDoor
open Go Go.RowKit

def LkS (x : Lk) : Prop := ∀ t ∈ lkT x, t.size ≤ 1000
theorem lk_at {x : Lk} {k : Nat} (hk : k < 6) : ∃ t, (lkT x)[k]? = some t := ⟨_, List.getElem?_eq_getElem (show k < (lkT x).length from hk)⟩
theorem six_at {k : Nat} (hk : k < 6) : [0, 1, 2, 3, 4, 5][k]? = some k := by
  have h : k = 0 ∨ k = 1 ∨ k = 2 ∨ k = 3 ∨ k = 4 ∨ k = 5 := by omega
  rcases h with rfl | rfl | rfl | rfl | rfl | rfl <;> rfl
theorem lk_cell {W : World} {B : Nat} {x : Lk} {t : TypeId} (h : W.heap[B]? = some (.cells #[.string x.l, .string x.s, .string x.r, .string x.tl, .string x.ts, .string x.tr] t (0, 0))) (i o : Nat) (s : ByteArray) (ho : [0, 1, 2, 3, 4, 5][i]? = some o) (hs : (lkT x)[i]? = some s) : W.cell? ⟨B, o, none⟩ = some (.string s) := by
  have hi : i < 6 := (List.getElem?_eq_some_iff.1 ho).1
  rw [six_at hi] at ho
  cases ho
  obtain ⟨c0, c1, c2, c3, c4, c5⟩ := cells6 h
  have h6 : i = 0 ∨ i = 1 ∨ i = 2 ∨ i = 3 ∨ i = 4 ∨ i = 5 := by omega
  rcases h6 with rfl | rfl | rfl | rfl | rfl | rfl <;> cases hs <;> assumption
theorem all_false {x : Lk} {k : Nat} {t : ByteArray} (h : (lkT x)[k]? = some t) (hs : smallS t = false) : rightLk x = false := by
  have : (lkT x).all smallS = false := by
    rw [List.all_eq_false]
    exact ⟨t, List.mem_of_getElem? h, by rw [hs]; simp⟩
  unfold rightLk
  rw [this]; rfl
theorem all_next {x : Lk} {k : Nat} {t : ByteArray} (h : (lkT x)[k]? = some t) (hu : ((lkT x).take k).all smallS = true) (hs : smallS t = true) : ((lkT x).take (k + 1)).all smallS = true := by
  rw [List.take_add_one, h, List.all_append, hu]
  simp [hs]
set_option maxRecDepth 100000 in
set_option maxHeartbeats 16000000 in
theorem rightLk_any (x : Lk) (w : World) (hx : LkS x) :
    Calls Tryz.prog 44 #[.agg #[.string x.l, .string x.s, .string x.r, .string x.tl, .string x.ts, .string x.tr]] w fun e w' => e = .returned (.bool (rightLk x)) ∧ Below w.heap.size w w' := by
  obtain ⟨W1, hW1⟩ : ∃ W1, w.alloc (.cells #[.string x.l, .string x.s, .string x.r, .string x.tl, .string x.ts, .string x.tr] 75) = W1 := ⟨_, rfl⟩
  have hb1 : Below w.heap.size w W1 := by rw [← hW1]; exact (Below.refl _ w).alloc (Nat.le_refl _) _
  have hA : W1.heap[w.heap.size]? = some (.cells #[.string x.l, .string x.s, .string x.r, .string x.tl, .string x.ts, .string x.tr] 75 (0, 0)) := by rw [← hW1]; exact World.alloc_heap_new w _
  have HLT := Lib.hid (likelyTexts_any w.heap.size W1)
  have HW1 := Lib.hid hW1
  have HZ := Lib.hid hx
  have z1 : x.l.size ≤ 1000 := hx _ (by simp [lkT])
  have z2 : x.s.size ≤ 1000 := hx _ (by simp [lkT])
  have z3 : x.r.size ≤ 1000 := hx _ (by simp [lkT])
  have z4 : x.tl.size ≤ 1000 := hx _ (by simp [lkT])
  have z5 : x.ts.size ≤ 1000 := hx _ (by simp [lkT])
  have z6 : x.tr.size ≤ 1000 := hx _ (by simp [lkT])
  have HV := Lib.hid (show rightLk x = ((lkT x).all smallS && (languageS x.l && ((noneS x.s || scriptS x.s) && ((noneS x.r || regionS x.r) && (languageS x.tl && (!decide (x.tl = UND) && (scriptS x.ts && regionS x.tr))))))) from rfl)
  clear hW1 hx
  go_enter Tryz.func44, Tryz.ntmps44
  go_upto_region 1 with fail
  rw [HW1.out]
  go_wp2_with (go_at_call 43; (with_reducible refine HLT.out.mono ?_); rintro e W2 ⟨v, rfl, hp, hb2⟩; obtain ⟨g, rfl, hg⟩ := hp)
  have hA2 := (hb2.block _ (lt_of_block hA)).trans hA
  have HB := Lib.hid (fun w' (h : Below W2.heap.size W2 w') => (hb1.trans (hb2.mono hb1.size)).trans (h.mono (hb1.trans (hb2.mono hb1.size)).size))
  have H6 := Lib.hid (fun w' (h : Below W2.heap.size W2 w') => cells6 ((h.block _ (lt_of_block hA2)).trans hA2))
  have HC := Lib.hid (fun i o s ho hs w' (h : Below W2.heap.size W2 w') => lk_cell ((h.block _ (lt_of_block hA2)).trans hA2) i o s ho hs)
  have HG := Lib.hid (fun k (hk : k < 6) w' (h : Below W2.heap.size W2 w') => (h.cell (p := ⟨g, k, none⟩) (lt_cellZ (hg k k (six_at hk)))).trans (hg k k (six_at hk)))
  clear HW1 HLT hA hb1 hb2 hA2 hg
  go_loopw [4, 7] (fun _ i wr => ∃ k : Nat, k ≤ 6 ∧ i = .int .i64 (k : Int) ∧ ((lkT x).take k).all smallS = true ∧ Below W2.heap.size W2 wr) (fun _ i _ => 6 - (intOf i).toNat)
  case atStart => exact ⟨0, Nat.zero_le _, rfl, rfl, Below.refl _ _⟩
  case round =>
    obtain ⟨k, hk, rfl, hu, hR⟩ := hrel
    by_cases hlt : k < 6
    · have hlt' : (k : Int) < 6 := by omega
      have hk0 : (0 : Int) ≤ (k : Int) := by omega
      obtain ⟨t, ht⟩ := lk_at (x := x) hlt
      have c1 := HG.out k hlt wr hR
      have c2 := HC.out k k t (six_at hlt) ht wr hR
      have hz := HZ.out t (List.mem_of_getElem? ht)
      have HS := onward W2 (fun w' => inSmall_any t w' (by omega))
      have HF := Lib.hid (all_false (x := x) ht)
      have HT := Lib.hid (all_next ht hu)
      generalize smallS t = p at *
      clear ht hu hz HV
      cases p with
      | false =>
        go_wp2_with (go_at_call 81; (with_reducible refine (HS.out _ hR).mono ?_); rintro e w5 ⟨rfl, hb5⟩)
        go_ret
        exact ⟨ret_bool (HF.out (by trivial)).symm, HB.out _ hb5⟩
      | true =>
        go_wp2_with (go_at_call 81; (with_reducible refine (HS.out _ hR).mono ?_); rintro e w5 ⟨rfl, hb5⟩)
        go_roundw
        case rel => exact ⟨k + 1, by omega, by go_num, HT.out (by trivial), hb5⟩
        case measure => simp [intOf]; omega
    · obtain rfl : k = 6 := by omega
      have ha : (lkT x).all smallS = true := hu
      rw [ha] at HV
      clear ha hu HG HC HZ hk hlt
      have L1 := onward W2 (fun w' => language_own x.l w' (by unfold maxLen; omega))
      have L2 := onward W2 (fun w' => script_own x.s w' (by unfold maxLen; omega))
      have L3 := onward W2 (fun w' => region_own x.r w' (by unfold maxLen; omega))
      have L4 := onward W2 (fun w' => language_own x.tl w' (by unfold maxLen; omega))
      have L5 := onward W2 (fun w' => script_own x.ts w' (by unfold maxLen; omega))
      have L6 := onward W2 (fun w' => region_own x.tr w' (by unfold maxLen; omega))
      have he2 := none_bool x.s
      have he3 := none_bool x.r
      have hu1 : (x.tl.toList == ({ data := #[117, 110, 100] } : ByteArray).toList) = decide (x.tl = UND) := same_bool x.tl UND
      have hu2 : (x.tl.toList == [117, 110, 100]) = decide (x.tl = UND) := by
        rw [show (({ data := #[117, 110, 100] } : ByteArray).toList) = [117, 110, 100] from by rw [ByteArray.toList_eq]] at hu1
        exact hu1
      clear z1 z2 z3 z4 z5 z6
      generalize languageS x.l = b1 at *
      generalize noneS x.s = n2 at *
      generalize scriptS x.s = b2 at *
      generalize noneS x.r = n3 at *
      generalize regionS x.r = b3 at *
      generalize languageS x.tl = b4 at *
      generalize decide (x.tl = UND) = u at *
      generalize scriptS x.ts = b6 at *
      generalize regionS x.tr = b7 at *
      have d := H6.out wr hR
      obtain ⟨d0, d1, d2, d3, d4, d5⟩ := d
      cases b1 with
      | false =>
        go_wp2_with (first | (go_at_call 82; (with_reducible refine (L1.out _ (by assumption)).mono ?_); rintro e w1 ⟨rfl, hb1⟩; have q1 := H6.out _ hb1; obtain ⟨p10, p11, p12, p13, p14, p15⟩ := q1))
        go_ret
        exact ⟨ret_bool HV.out.symm, HB.out _ hb1⟩
      | true =>
        cases n2 with
        | false =>
          cases b2 with
          | false =>
            go_wp2_with (first | (go_at_call 82; (with_reducible refine (L1.out _ (by assumption)).mono ?_); rintro e w1 ⟨rfl, hb1⟩; have q1 := H6.out _ hb1; obtain ⟨p10, p11, p12, p13, p14, p15⟩ := q1) | (go_at_call 83; (with_reducible refine (L2.out _ (by assumption)).mono ?_); rintro e w2 ⟨rfl, hb2⟩; have q2 := H6.out _ hb2; obtain ⟨p20, p21, p22, p23, p24, p25⟩ := q2))
            go_ret
            exact ⟨ret_bool HV.out.symm, HB.out _ hb2⟩
          | true =>
            cases n3 with
            | false =>
              cases b3 with
              | false =>
                go_wp2_with (first | (go_at_call 82; (with_reducible refine (L1.out _ (by assumption)).mono ?_); rintro e w1 ⟨rfl, hb1⟩; have q1 := H6.out _ hb1; obtain ⟨p10, p11, p12, p13, p14, p15⟩ := q1) | (go_at_call 83; (with_reducible refine (L2.out _ (by assumption)).mono ?_); rintro e w2 ⟨rfl, hb2⟩; have q2 := H6.out _ hb2; obtain ⟨p20, p21, p22, p23, p24, p25⟩ := q2) | (go_at_call 84; (with_reducible refine (L3.out _ (by assumption)).mono ?_); rintro e w3 ⟨rfl, hb3⟩; have q3 := H6.out _ hb3; obtain ⟨p30, p31, p32, p33, p34, p35⟩ := q3))
                go_ret
                exact ⟨ret_bool HV.out.symm, HB.out _ hb3⟩
              | true =>
                cases b4 with
                | false =>
                  go_wp2_with (first | (go_at_call 82; (with_reducible refine (L1.out _ (by assumption)).mono ?_); rintro e w1 ⟨rfl, hb1⟩; have q1 := H6.out _ hb1; obtain ⟨p10, p11, p12, p13, p14, p15⟩ := q1) | (go_at_call 83; (with_reducible refine (L2.out _ (by assumption)).mono ?_); rintro e w2 ⟨rfl, hb2⟩; have q2 := H6.out _ hb2; obtain ⟨p20, p21, p22, p23, p24, p25⟩ := q2) | (go_at_call 84; (with_reducible refine (L3.out _ (by assumption)).mono ?_); rintro e w3 ⟨rfl, hb3⟩; have q3 := H6.out _ hb3; obtain ⟨p30, p31, p32, p33, p34, p35⟩ := q3) | (go_at_call 82; (with_reducible refine (L4.out _ (by assumption)).mono ?_); rintro e w4 ⟨rfl, hb4⟩; have q4 := H6.out _ hb4; obtain ⟨p40, p41, p42, p43, p44, p45⟩ := q4))
                  go_ret
                  exact ⟨ret_bool HV.out.symm, HB.out _ hb4⟩
                | true =>
                  cases u with
                  | false =>
                    cases b6 with
                    | false =>
                      go_wp2_with (first | (go_at_call 82; (with_reducible refine (L1.out _ (by assumption)).mono ?_); rintro e w1 ⟨rfl, hb1⟩; have q1 := H6.out _ hb1; obtain ⟨p10, p11, p12, p13, p14, p15⟩ := q1) | (go_at_call 83; (with_reducible refine (L2.out _ (by assumption)).mono ?_); rintro e w2 ⟨rfl, hb2⟩; have q2 := H6.out _ hb2; obtain ⟨p20, p21, p22, p23, p24, p25⟩ := q2) | (go_at_call 84; (with_reducible refine (L3.out _ (by assumption)).mono ?_); rintro e w3 ⟨rfl, hb3⟩; have q3 := H6.out _ hb3; obtain ⟨p30, p31, p32, p33, p34, p35⟩ := q3) | (go_at_call 82; (with_reducible refine (L4.out _ (by assumption)).mono ?_); rintro e w4 ⟨rfl, hb4⟩; have q4 := H6.out _ hb4; obtain ⟨p40, p41, p42, p43, p44, p45⟩ := q4) | (go_at_call 83; (with_reducible refine (L5.out _ (by assumption)).mono ?_); rintro e w5 ⟨rfl, hb5⟩; have q5 := H6.out _ hb5; obtain ⟨p50, p51, p52, p53, p54, p55⟩ := q5))
                      go_ret
                      exact ⟨ret_bool HV.out.symm, HB.out _ hb5⟩
                    | true =>
                      go_wp2_with (first | (go_at_call 82; (with_reducible refine (L1.out _ (by assumption)).mono ?_); rintro e w1 ⟨rfl, hb1⟩; have q1 := H6.out _ hb1; obtain ⟨p10, p11, p12, p13, p14, p15⟩ := q1) | (go_at_call 83; (with_reducible refine (L2.out _ (by assumption)).mono ?_); rintro e w2 ⟨rfl, hb2⟩; have q2 := H6.out _ hb2; obtain ⟨p20, p21, p22, p23, p24, p25⟩ := q2) | (go_at_call 84; (with_reducible refine (L3.out _ (by assumption)).mono ?_); rintro e w3 ⟨rfl, hb3⟩; have q3 := H6.out _ hb3; obtain ⟨p30, p31, p32, p33, p34, p35⟩ := q3) | (go_at_call 82; (with_reducible refine (L4.out _ (by assumption)).mono ?_); rintro e w4 ⟨rfl, hb4⟩; have q4 := H6.out _ hb4; obtain ⟨p40, p41, p42, p43, p44, p45⟩ := q4) | (go_at_call 83; (with_reducible refine (L5.out _ (by assumption)).mono ?_); rintro e w5 ⟨rfl, hb5⟩; have q5 := H6.out _ hb5; obtain ⟨p50, p51, p52, p53, p54, p55⟩ := q5) | (go_at_call 84; (with_reducible refine (L6.out _ (by assumption)).mono ?_); rintro e w6 ⟨rfl, hb6⟩; have q6 := H6.out _ hb6; obtain ⟨p60, p61, p62, p63, p64, p65⟩ := q6))
                      go_ret
                      exact ⟨ret_bool HV.out.symm, HB.out _ hb6⟩
                  | true =>
                    go_wp2_with (first | (go_at_call 82; (with_reducible refine (L1.out _ (by assumption)).mono ?_); rintro e w1 ⟨rfl, hb1⟩; have q1 := H6.out _ hb1; obtain ⟨p10, p11, p12, p13, p14, p15⟩ := q1) | (go_at_call 83; (with_reducible refine (L2.out _ (by assumption)).mono ?_); rintro e w2 ⟨rfl, hb2⟩; have q2 := H6.out _ hb2; obtain ⟨p20, p21, p22, p23, p24, p25⟩ := q2) | (go_at_call 84; (with_reducible refine (L3.out _ (by assumption)).mono ?_); rintro e w3 ⟨rfl, hb3⟩; have q3 := H6.out _ hb3; obtain ⟨p30, p31, p32, p33, p34, p35⟩ := q3) | (go_at_call 82; (with_reducible refine (L4.out _ (by assumption)).mono ?_); rintro e w4 ⟨rfl, hb4⟩; have q4 := H6.out _ hb4; obtain ⟨p40, p41, p42, p43, p44, p45⟩ := q4))
                    go_ret
                    exact ⟨ret_bool HV.out.symm, HB.out _ hb4⟩
            | true =>
              cases b4 with
              | false =>
                go_wp2_with (first | (go_at_call 82; (with_reducible refine (L1.out _ (by assumption)).mono ?_); rintro e w1 ⟨rfl, hb1⟩; have q1 := H6.out _ hb1; obtain ⟨p10, p11, p12, p13, p14, p15⟩ := q1) | (go_at_call 83; (with_reducible refine (L2.out _ (by assumption)).mono ?_); rintro e w2 ⟨rfl, hb2⟩; have q2 := H6.out _ hb2; obtain ⟨p20, p21, p22, p23, p24, p25⟩ := q2) | (go_at_call 82; (with_reducible refine (L4.out _ (by assumption)).mono ?_); rintro e w4 ⟨rfl, hb4⟩; have q4 := H6.out _ hb4; obtain ⟨p40, p41, p42, p43, p44, p45⟩ := q4))
                go_ret
                exact ⟨ret_bool HV.out.symm, HB.out _ hb4⟩
              | true =>
                cases u with
                | false =>
                  cases b6 with
                  | false =>
                    go_wp2_with (first | (go_at_call 82; (with_reducible refine (L1.out _ (by assumption)).mono ?_); rintro e w1 ⟨rfl, hb1⟩; have q1 := H6.out _ hb1; obtain ⟨p10, p11, p12, p13, p14, p15⟩ := q1) | (go_at_call 83; (with_reducible refine (L2.out _ (by assumption)).mono ?_); rintro e w2 ⟨rfl, hb2⟩; have q2 := H6.out _ hb2; obtain ⟨p20, p21, p22, p23, p24, p25⟩ := q2) | (go_at_call 82; (with_reducible refine (L4.out _ (by assumption)).mono ?_); rintro e w4 ⟨rfl, hb4⟩; have q4 := H6.out _ hb4; obtain ⟨p40, p41, p42, p43, p44, p45⟩ := q4) | (go_at_call 83; (with_reducible refine (L5.out _ (by assumption)).mono ?_); rintro e w5 ⟨rfl, hb5⟩; have q5 := H6.out _ hb5; obtain ⟨p50, p51, p52, p53, p54, p55⟩ := q5))
                    go_ret
                    exact ⟨ret_bool HV.out.symm, HB.out _ hb5⟩
                  | true =>
                    go_wp2_with (first | (go_at_call 82; (with_reducible refine (L1.out _ (by assumption)).mono ?_); rintro e w1 ⟨rfl, hb1⟩; have q1 := H6.out _ hb1; obtain ⟨p10, p11, p12, p13, p14, p15⟩ := q1) | (go_at_call 83; (with_reducible refine (L2.out _ (by assumption)).mono ?_); rintro e w2 ⟨rfl, hb2⟩; have q2 := H6.out _ hb2; obtain ⟨p20, p21, p22, p23, p24, p25⟩ := q2) | (go_at_call 82; (with_reducible refine (L4.out _ (by assumption)).mono ?_); rintro e w4 ⟨rfl, hb4⟩; have q4 := H6.out _ hb4; obtain ⟨p40, p41, p42, p43, p44, p45⟩ := q4) | (go_at_call 83; (with_reducible refine (L5.out _ (by assumption)).mono ?_); rintro e w5 ⟨rfl, hb5⟩; have q5 := H6.out _ hb5; obtain ⟨p50, p51, p52, p53, p54, p55⟩ := q5) | (go_at_call 84; (with_reducible refine (L6.out _ (by assumption)).mono ?_); rintro e w6 ⟨rfl, hb6⟩; have q6 := H6.out _ hb6; obtain ⟨p60, p61, p62, p63, p64, p65⟩ := q6))
                    go_ret
                    exact ⟨ret_bool HV.out.symm, HB.out _ hb6⟩
                | true =>
                  go_wp2_with (first | (go_at_call 82; (with_reducible refine (L1.out _ (by assumption)).mono ?_); rintro e w1 ⟨rfl, hb1⟩; have q1 := H6.out _ hb1; obtain ⟨p10, p11, p12, p13, p14, p15⟩ := q1) | (go_at_call 83; (with_reducible refine (L2.out _ (by assumption)).mono ?_); rintro e w2 ⟨rfl, hb2⟩; have q2 := H6.out _ hb2; obtain ⟨p20, p21, p22, p23, p24, p25⟩ := q2) | (go_at_call 82; (with_reducible refine (L4.out _ (by assumption)).mono ?_); rintro e w4 ⟨rfl, hb4⟩; have q4 := H6.out _ hb4; obtain ⟨p40, p41, p42, p43, p44, p45⟩ := q4))
                  go_ret
                  exact ⟨ret_bool HV.out.symm, HB.out _ hb4⟩
        | true =>
          cases n3 with
          | false =>
            cases b3 with
            | false =>
              go_wp2_with (first | (go_at_call 82; (with_reducible refine (L1.out _ (by assumption)).mono ?_); rintro e w1 ⟨rfl, hb1⟩; have q1 := H6.out _ hb1; obtain ⟨p10, p11, p12, p13, p14, p15⟩ := q1) | (go_at_call 84; (with_reducible refine (L3.out _ (by assumption)).mono ?_); rintro e w3 ⟨rfl, hb3⟩; have q3 := H6.out _ hb3; obtain ⟨p30, p31, p32, p33, p34, p35⟩ := q3))
              go_ret
              exact ⟨ret_bool HV.out.symm, HB.out _ hb3⟩
            | true =>
              cases b4 with
              | false =>
                go_wp2_with (first | (go_at_call 82; (with_reducible refine (L1.out _ (by assumption)).mono ?_); rintro e w1 ⟨rfl, hb1⟩; have q1 := H6.out _ hb1; obtain ⟨p10, p11, p12, p13, p14, p15⟩ := q1) | (go_at_call 84; (with_reducible refine (L3.out _ (by assumption)).mono ?_); rintro e w3 ⟨rfl, hb3⟩; have q3 := H6.out _ hb3; obtain ⟨p30, p31, p32, p33, p34, p35⟩ := q3) | (go_at_call 82; (with_reducible refine (L4.out _ (by assumption)).mono ?_); rintro e w4 ⟨rfl, hb4⟩; have q4 := H6.out _ hb4; obtain ⟨p40, p41, p42, p43, p44, p45⟩ := q4))
                go_ret
                exact ⟨ret_bool HV.out.symm, HB.out _ hb4⟩
              | true =>
                cases u with
                | false =>
                  cases b6 with
                  | false =>
                    go_wp2_with (first | (go_at_call 82; (with_reducible refine (L1.out _ (by assumption)).mono ?_); rintro e w1 ⟨rfl, hb1⟩; have q1 := H6.out _ hb1; obtain ⟨p10, p11, p12, p13, p14, p15⟩ := q1) | (go_at_call 84; (with_reducible refine (L3.out _ (by assumption)).mono ?_); rintro e w3 ⟨rfl, hb3⟩; have q3 := H6.out _ hb3; obtain ⟨p30, p31, p32, p33, p34, p35⟩ := q3) | (go_at_call 82; (with_reducible refine (L4.out _ (by assumption)).mono ?_); rintro e w4 ⟨rfl, hb4⟩; have q4 := H6.out _ hb4; obtain ⟨p40, p41, p42, p43, p44, p45⟩ := q4) | (go_at_call 83; (with_reducible refine (L5.out _ (by assumption)).mono ?_); rintro e w5 ⟨rfl, hb5⟩; have q5 := H6.out _ hb5; obtain ⟨p50, p51, p52, p53, p54, p55⟩ := q5))
                    go_ret
                    exact ⟨ret_bool HV.out.symm, HB.out _ hb5⟩
                  | true =>
                    go_wp2_with (first | (go_at_call 82; (with_reducible refine (L1.out _ (by assumption)).mono ?_); rintro e w1 ⟨rfl, hb1⟩; have q1 := H6.out _ hb1; obtain ⟨p10, p11, p12, p13, p14, p15⟩ := q1) | (go_at_call 84; (with_reducible refine (L3.out _ (by assumption)).mono ?_); rintro e w3 ⟨rfl, hb3⟩; have q3 := H6.out _ hb3; obtain ⟨p30, p31, p32, p33, p34, p35⟩ := q3) | (go_at_call 82; (with_reducible refine (L4.out _ (by assumption)).mono ?_); rintro e w4 ⟨rfl, hb4⟩; have q4 := H6.out _ hb4; obtain ⟨p40, p41, p42, p43, p44, p45⟩ := q4) | (go_at_call 83; (with_reducible refine (L5.out _ (by assumption)).mono ?_); rintro e w5 ⟨rfl, hb5⟩; have q5 := H6.out _ hb5; obtain ⟨p50, p51, p52, p53, p54, p55⟩ := q5) | (go_at_call 84; (with_reducible refine (L6.out _ (by assumption)).mono ?_); rintro e w6 ⟨rfl, hb6⟩; have q6 := H6.out _ hb6; obtain ⟨p60, p61, p62, p63, p64, p65⟩ := q6))
                    go_ret
                    exact ⟨ret_bool HV.out.symm, HB.out _ hb6⟩
                | true =>
                  go_wp2_with (first | (go_at_call 82; (with_reducible refine (L1.out _ (by assumption)).mono ?_); rintro e w1 ⟨rfl, hb1⟩; have q1 := H6.out _ hb1; obtain ⟨p10, p11, p12, p13, p14, p15⟩ := q1) | (go_at_call 84; (with_reducible refine (L3.out _ (by assumption)).mono ?_); rintro e w3 ⟨rfl, hb3⟩; have q3 := H6.out _ hb3; obtain ⟨p30, p31, p32, p33, p34, p35⟩ := q3) | (go_at_call 82; (with_reducible refine (L4.out _ (by assumption)).mono ?_); rintro e w4 ⟨rfl, hb4⟩; have q4 := H6.out _ hb4; obtain ⟨p40, p41, p42, p43, p44, p45⟩ := q4))
                  go_ret
                  exact ⟨ret_bool HV.out.symm, HB.out _ hb4⟩
          | true =>
            cases b4 with
            | false =>
              go_wp2_with (first | (go_at_call 82; (with_reducible refine (L1.out _ (by assumption)).mono ?_); rintro e w1 ⟨rfl, hb1⟩; have q1 := H6.out _ hb1; obtain ⟨p10, p11, p12, p13, p14, p15⟩ := q1) | (go_at_call 82; (with_reducible refine (L4.out _ (by assumption)).mono ?_); rintro e w4 ⟨rfl, hb4⟩; have q4 := H6.out _ hb4; obtain ⟨p40, p41, p42, p43, p44, p45⟩ := q4))
              go_ret
              exact ⟨ret_bool HV.out.symm, HB.out _ hb4⟩
            | true =>
              cases u with
              | false =>
                cases b6 with
                | false =>
                  go_wp2_with (first | (go_at_call 82; (with_reducible refine (L1.out _ (by assumption)).mono ?_); rintro e w1 ⟨rfl, hb1⟩; have q1 := H6.out _ hb1; obtain ⟨p10, p11, p12, p13, p14, p15⟩ := q1) | (go_at_call 82; (with_reducible refine (L4.out _ (by assumption)).mono ?_); rintro e w4 ⟨rfl, hb4⟩; have q4 := H6.out _ hb4; obtain ⟨p40, p41, p42, p43, p44, p45⟩ := q4) | (go_at_call 83; (with_reducible refine (L5.out _ (by assumption)).mono ?_); rintro e w5 ⟨rfl, hb5⟩; have q5 := H6.out _ hb5; obtain ⟨p50, p51, p52, p53, p54, p55⟩ := q5))
                  go_ret
                  exact ⟨ret_bool HV.out.symm, HB.out _ hb5⟩
                | true =>
                  go_wp2_with (first | (go_at_call 82; (with_reducible refine (L1.out _ (by assumption)).mono ?_); rintro e w1 ⟨rfl, hb1⟩; have q1 := H6.out _ hb1; obtain ⟨p10, p11, p12, p13, p14, p15⟩ := q1) | (go_at_call 82; (with_reducible refine (L4.out _ (by assumption)).mono ?_); rintro e w4 ⟨rfl, hb4⟩; have q4 := H6.out _ hb4; obtain ⟨p40, p41, p42, p43, p44, p45⟩ := q4) | (go_at_call 83; (with_reducible refine (L5.out _ (by assumption)).mono ?_); rintro e w5 ⟨rfl, hb5⟩; have q5 := H6.out _ hb5; obtain ⟨p50, p51, p52, p53, p54, p55⟩ := q5) | (go_at_call 84; (with_reducible refine (L6.out _ (by assumption)).mono ?_); rintro e w6 ⟨rfl, hb6⟩; have q6 := H6.out _ hb6; obtain ⟨p60, p61, p62, p63, p64, p65⟩ := q6))
                  go_ret
                  exact ⟨ret_bool HV.out.symm, HB.out _ hb6⟩
              | true =>
                go_wp2_with (first | (go_at_call 82; (with_reducible refine (L1.out _ (by assumption)).mono ?_); rintro e w1 ⟨rfl, hb1⟩; have q1 := H6.out _ hb1; obtain ⟨p10, p11, p12, p13, p14, p15⟩ := q1) | (go_at_call 82; (with_reducible refine (L4.out _ (by assumption)).mono ?_); rintro e w4 ⟨rfl, hb4⟩; have q4 := H6.out _ hb4; obtain ⟨p40, p41, p42, p43, p44, p45⟩ := q4))
                go_ret
                exact ⟨ret_bool HV.out.symm, HB.out _ hb4⟩

/-! The closures. -/
set_option maxRecDepth 100000 in
set_option maxHeartbeats 8000000 in
theorem parts1_any (x : Lk) (w : World) (hx : LkS x) :
    Calls Tryz.prog 41 #[.agg #[.string x.l, .string x.s, .string x.r, .string x.tl, .string x.ts, .string x.tr]] w fun e w' => e = .returned (.tuple #[.string (rowLk x), .bool (rightLk x)]) ∧ Below w.heap.size w w' := by
  obtain ⟨W1, hW1⟩ : ∃ W1, w.alloc (.cells #[.string x.l, .string x.s, .string x.r, .string x.tl, .string x.ts, .string x.tr] 75) = W1 := ⟨_, rfl⟩
  have hb1 : Below w.heap.size w W1 := by rw [← hW1]; exact (Below.refl _ w).alloc (Nat.le_refl _) _
  have hA : W1.heap[w.heap.size]? = some (.cells #[.string x.l, .string x.s, .string x.r, .string x.tl, .string x.ts, .string x.tr] 75 (0, 0)) := by rw [← hW1]; exact World.alloc_heap_new w _
  have HB := Lib.hid (fun w' (h : Below W1.heap.size W1 w') => hb1.trans (h.mono hb1.size))
  have H6 := Lib.hid (fun w' (h : Below W1.heap.size W1 w') => cells6 ((h.block _ (lt_of_block hA)).trans hA))
  have HT := Lib.hid (fun w' (h : Below W1.heap.size W1 w') => (likelyTexts_any w.heap.size w').mono (R' := fun e w'' => ∃ v, e = .returned v ∧ PtrsZ w'' v w.heap.size [0, 1, 2, 3, 4, 5] ∧ Below W1.heap.size W1 w'') fun e w'' ⟨v, p, q, r⟩ => ⟨v, p, q, h.trans (r.mono h.size)⟩)
  have HP := Lib.hid (fun v w' (hp : PtrsZ w' v w.heap.size [0, 1, 2, 3, 4, 5]) (h : Below W1.heap.size W1 w') => (packedZ_any v w.heap.size [0, 1, 2, 3, 4, 5] (lkT x) w' hp rfl (fun i o t ho ht => lk_cell ((h.block _ (lt_of_block hA)).trans hA) i o t ho ht) hx (by show 6 ≤ 6; decide)).mono (R' := fun e w'' => e = .returned (.string (rowLk x)) ∧ Below W1.heap.size W1 w'') fun e w'' ⟨p, r⟩ => ⟨p, h.trans (r.mono h.size)⟩)
  have HR := onward W1 (fun w' => rightLk_any x w' hx)
  have HW1 := Lib.hid hW1
  generalize rowLk x = row at *
  generalize rightLk x = rt at *
  clear hW1 hb1 hA hx
  go_enter Tryz.func41, Tryz.ntmps41
  go_upto_region 1 with fail
  rw [HW1.out]
  have hd : Below W1.heap.size W1 W1.drew := Below.drew (Below.refl _ _)
  have HS := Lib.hid (fun w' (h : Below W1.heap.size W1 w') => (show Below W1.heap.size W1 w' ∧ _ from ⟨h, H6.out w' h⟩))
  go_region_held3 (fun w' => Below W1.heap.size W1 w' ∧ (w'.cell? ⟨w.heap.size, 0, none⟩ = some (.string x.l) ∧ w'.cell? ⟨w.heap.size, 1, none⟩ = some (.string x.s) ∧ w'.cell? ⟨w.heap.size, 2, none⟩ = some (.string x.r) ∧ w'.cell? ⟨w.heap.size, 3, none⟩ = some (.string x.tl) ∧ w'.cell? ⟨w.heap.size, 4, none⟩ = some (.string x.ts) ∧ w'.cell? ⟨w.heap.size, 5, none⟩ = some (.string x.tr)))
    (exact HS.out _ (by assumption))
    (first
      | (go_at_call 43; (with_reducible refine (HT.out _ (by assumption)).mono ?_); rintro e w5 ⟨v, rfl, hp, hb5⟩)
      | (go_at_call 42; (with_reducible refine (HP.out _ _ hp (by assumption)).mono ?_); rintro e w6 ⟨rfl, hb6⟩)
      | (go_at_call 44; (with_reducible refine (HR.out _ (by assumption)).mono ?_); rintro e w7 ⟨rfl, hb7⟩))
  all_goals go_wp2
  all_goals go_ret2
  all_goals exact ⟨rfl, HB.out _ (by assumption)⟩
theorem mb_cell {W : World} {B : Nat} {x : Mb} {t : TypeId} (h : W.heap[B]? = some (.cells #[.string x.st, .string x.rg] t (0, 0))) (i o : Nat) (s : ByteArray) (ho : [0, 1][i]? = some o) (hs : (mbT x)[i]? = some s) : W.cell? ⟨B, o, none⟩ = some (.string s) := by
  have hi : i < 2 := (List.getElem?_eq_some_iff.1 ho).1
  obtain ⟨c0, c1⟩ := cells2Z h
  have h2 : i = 0 ∨ i = 1 := by omega
  rcases h2 with rfl | rfl <;> cases ho <;> cases hs <;> assumption
theorem mb_small {x : Mb} (h : MbS x) : ∀ t ∈ mbT x, t.size ≤ 1000 := by
  intro t ht
  simp only [mbT, List.mem_cons, List.not_mem_nil, or_false] at ht
  rcases ht with rfl | rfl
  · exact h.st
  · exact h.rg
set_option maxRecDepth 100000 in
set_option maxHeartbeats 8000000 in
theorem parts3_any (x : Mb) (w : World) (hx : MbS x) :
    Calls Tryz.prog 52 #[.agg #[.string x.st, .string x.rg]] w fun e w' => e = .returned (.tuple #[.string (rowMb x), .bool (rightMb x)]) ∧ Below w.heap.size w w' := by
  obtain ⟨W1, hW1⟩ : ∃ W1, w.alloc (.cells #[.string x.st, .string x.rg] 82) = W1 := ⟨_, rfl⟩
  have hb1 : Below w.heap.size w W1 := by rw [← hW1]; exact (Below.refl _ w).alloc (Nat.le_refl _) _
  have hA : W1.heap[w.heap.size]? = some (.cells #[.string x.st, .string x.rg] 82 (0, 0)) := by rw [← hW1]; exact World.alloc_heap_new w _
  have HB := Lib.hid (fun w' (h : Below W1.heap.size W1 w') => hb1.trans (h.mono hb1.size))
  have H2 := Lib.hid (fun w' (h : Below W1.heap.size W1 w') => cells2Z ((h.block _ (lt_of_block hA)).trans hA))
  have HT := Lib.hid (fun w' (h : Below W1.heap.size W1 w') => (memberTexts_any w.heap.size w').mono (R' := fun e w'' => ∃ v, e = .returned v ∧ PtrsZ w'' v w.heap.size [0, 1] ∧ Below W1.heap.size W1 w'') fun e w'' ⟨v, p, q, r⟩ => ⟨v, p, q, h.trans (r.mono h.size)⟩)
  have HP := Lib.hid (fun v w' (hp : PtrsZ w' v w.heap.size [0, 1]) (h : Below W1.heap.size W1 w') => (packedZ_any v w.heap.size [0, 1] (mbT x) w' hp rfl (fun i o t ho ht => mb_cell ((h.block _ (lt_of_block hA)).trans hA) i o t ho ht) (mb_small hx) (by show 2 ≤ 6; decide)).mono (R' := fun e w'' => e = .returned (.string (rowMb x)) ∧ Below W1.heap.size W1 w'') fun e w'' ⟨p, r⟩ => ⟨p, h.trans (r.mono h.size)⟩)
  have HR := onward W1 (fun w' => rightMb_any x w' hx)
  have HW1 := Lib.hid hW1
  generalize rowMb x = row at *
  generalize rightMb x = rt at *
  clear hW1 hb1 hA hx
  go_enter Tryz.func52, Tryz.ntmps52
  go_upto_region 1 with fail
  rw [HW1.out]
  have hd : Below W1.heap.size W1 W1.drew := Below.drew (Below.refl _ _)
  have HS := Lib.hid (fun w' (h : Below W1.heap.size W1 w') => (show Below W1.heap.size W1 w' ∧ _ from ⟨h, H2.out w' h⟩))
  go_region_held3 (fun w' => Below W1.heap.size W1 w' ∧ (w'.cell? ⟨w.heap.size, 0, none⟩ = some (.string x.st) ∧ w'.cell? ⟨w.heap.size, 1, none⟩ = some (.string x.rg)))
    (exact HS.out _ (by assumption))
    (first
      | (go_at_call 53; (with_reducible refine (HT.out _ (by assumption)).mono ?_); rintro e w5 ⟨v, rfl, hp, hb5⟩)
      | (go_at_call 42; (with_reducible refine (HP.out _ _ hp (by assumption)).mono ?_); rintro e w6 ⟨rfl, hb6⟩)
      | (go_at_call 54; (with_reducible refine (HR.out _ (by assumption)).mono ?_); rintro e w7 ⟨rfl, hb7⟩))
  all_goals go_wp2
  all_goals go_ret2
  all_goals exact ⟨rfl, HB.out _ (by assumption)⟩
theorem rl_cell {W : World} {B : Nat} {x : Rl} {t : TypeId} {a b c : Value} (h : W.heap[B]? = some (.cells #[a, b, c, .string x.d0, .string x.d1, .string x.d2, .string x.s0, .string x.s1, .string x.s2] t (0, 0))) (i o : Nat) (s : ByteArray) (ho : [3, 4, 5, 6, 7, 8][i]? = some o) (hs : (rlT x)[i]? = some s) : W.cell? ⟨B, o, none⟩ = some (.string s) := by
  have hi : i < 6 := (List.getElem?_eq_some_iff.1 ho).1
  obtain ⟨c0, c1, c2, c3, c4, c5, c6, c7, c8⟩ := cells9Z h
  have h6 : i = 0 ∨ i = 1 ∨ i = 2 ∨ i = 3 ∨ i = 4 ∨ i = 5 := by omega
  rcases h6 with rfl | rfl | rfl | rfl | rfl | rfl <;> cases ho <;> cases hs <;> assumption
set_option maxRecDepth 100000 in
set_option maxHeartbeats 8000000 in
theorem parts2_any (x : Rl) (w : World) (hx : RlS x) :
    Calls Tryz.prog 46 #[.agg #[.int .i64 x.lv, .int .i64 x.co, .bool x.ow, .string x.d0, .string x.d1, .string x.d2, .string x.s0, .string x.s1, .string x.s2]] w fun e w' => e = .returned (.tuple #[.string (rowRl x), .bool (rightRl x)]) ∧ Below w.heap.size w w' := by
  obtain ⟨W1, hW1⟩ : ∃ W1, w.alloc (.cells #[.int .i64 x.lv, .int .i64 x.co, .bool x.ow, .string x.d0, .string x.d1, .string x.d2, .string x.s0, .string x.s1, .string x.s2] 79) = W1 := ⟨_, rfl⟩
  have hb1 : Below w.heap.size w W1 := by rw [← hW1]; exact (Below.refl _ w).alloc (Nat.le_refl _) _
  have hA : W1.heap[w.heap.size]? = some (.cells #[.int .i64 x.lv, .int .i64 x.co, .bool x.ow, .string x.d0, .string x.d1, .string x.d2, .string x.s0, .string x.s1, .string x.s2] 79 (0, 0)) := by rw [← hW1]; exact World.alloc_heap_new w _
  have HB := Lib.hid (fun w' (h : Below W1.heap.size W1 w') => hb1.trans (h.mono hb1.size))
  have H9 := Lib.hid (fun w' (h : Below W1.heap.size W1 w') => cells9Z ((h.block _ (lt_of_block hA)).trans hA))
  have HT := Lib.hid (fun w' (h : Below W1.heap.size W1 w') => (ruleTexts_any w.heap.size w').mono (R' := fun e w'' => ∃ v, e = .returned v ∧ PtrsZ w'' v w.heap.size [3, 4, 5, 6, 7, 8] ∧ Below W1.heap.size W1 w'') fun e w'' ⟨v, p, q, r⟩ => ⟨v, p, q, h.trans (r.mono h.size)⟩)
  have HP := Lib.hid (fun v w' (hp : PtrsZ w' v w.heap.size [3, 4, 5, 6, 7, 8]) (h : Below W1.heap.size W1 w') => (packedZ_any v w.heap.size [3, 4, 5, 6, 7, 8] (rlT x) w' hp rfl (fun i o t ho ht => rl_cell ((h.block _ (lt_of_block hA)).trans hA) i o t ho ht) hx.z (by show 6 ≤ 6; decide)).mono (R' := fun e w'' => e = .returned (.string (ofL (packL (rlT x)))) ∧ Below W1.heap.size W1 w'') fun e w'' ⟨p, r⟩ => ⟨p, h.trans (r.mono h.size)⟩)
  have HSM := Lib.hid (fun n => onward W1 (fun w' => smallZ_any n w'))
  have HBT := onwardS W1 (fun w' => bitZ_any x.ow w')
  have HR := onward W1 (fun w' => rightRl_any x w' hx)
  have HRW := Lib.hid (show rowRl x = byteZ x.lv ++ byteZ x.co ++ byteZ (bitN x.ow : Int) ++ ofL (packL (rlT x)) from rfl)
  have HA1 := Lib.hid (HSM.out x.lv).out
  have HA2 := Lib.hid (HSM.out x.co).out
  have HA3 := Lib.hid (HSM.out (bitN x.ow : Int)).out
  have y1 := size_byteZ x.lv
  have y2 := size_byteZ x.co
  have y3 := size_byteZ (bitN x.ow : Int)
  have y4 : (ofL (packL (rlT x))).size = 48 := by rw [size_ofL, length_packL]; rfl
  have HW1 := Lib.hid hW1
  generalize byteZ x.lv = a1 at *
  generalize byteZ x.co = a2 at *
  generalize byteZ (bitN x.ow : Int) = a3 at *
  generalize ofL (packL (rlT x)) = a4 at *
  have o1 : ¬ 9223372036854775807 < a1.size + a2.size := by omega
  obtain ⟨a12, h12⟩ : ∃ a12, a1 ++ a2 = a12 := ⟨_, rfl⟩
  have y12 : a12.size = 2 := by rw [← h12, ByteArray.size_append]; omega
  have o2 : ¬ 9223372036854775807 < a12.size + a3.size := by omega
  obtain ⟨a13, h13⟩ : ∃ a13, a12 ++ a3 = a13 := ⟨_, rfl⟩
  have y13 : a13.size = 3 := by rw [← h13, ByteArray.size_append]; omega
  have o3 : ¬ 9223372036854775807 < a13.size + a4.size := by omega
  rw [h12, h13] at HRW
  generalize rightRl x = rt at *
  obtain ⟨row, hrow⟩ : ∃ row, rowRl x = row := ⟨_, rfl⟩
  rw [hrow] at HRW ⊢
  have h14 : a13 ++ a4 = row := HRW.out.symm
  clear hrow HRW y1 y2 y3 y4 y12 y13 HSM
  clear hW1 hb1 hA hx
  go_enter Tryz.func46, Tryz.ntmps46
  go_upto_region 1 with fail
  rw [HW1.out]
  have hd : Below W1.heap.size W1 W1.drew := Below.drew (Below.refl _ _)
  have HS := Lib.hid (fun w' (h : Below W1.heap.size W1 w') => (show Below W1.heap.size W1 w' ∧ _ from ⟨h, H9.out w' h⟩))
  go_region_held3 (fun w' => Below W1.heap.size W1 w' ∧ (w'.cell? ⟨w.heap.size, 0, none⟩ = some (.int .i64 x.lv) ∧ w'.cell? ⟨w.heap.size, 1, none⟩ = some (.int .i64 x.co) ∧ w'.cell? ⟨w.heap.size, 2, none⟩ = some (.bool x.ow) ∧ w'.cell? ⟨w.heap.size, 3, none⟩ = some (.string x.d0) ∧ w'.cell? ⟨w.heap.size, 4, none⟩ = some (.string x.d1) ∧ w'.cell? ⟨w.heap.size, 5, none⟩ = some (.string x.d2) ∧ w'.cell? ⟨w.heap.size, 6, none⟩ = some (.string x.s0) ∧ w'.cell? ⟨w.heap.size, 7, none⟩ = some (.string x.s1) ∧ w'.cell? ⟨w.heap.size, 8, none⟩ = some (.string x.s2)))
    (exact HS.out _ (by assumption))
    (first
      | (go_at_call 47; (with_reducible refine (HA1.out _ (by assumption)).mono ?_); rintro e w1 ⟨rfl, hb1⟩)
      | (go_at_call 47; (with_reducible refine (HA2.out _ (by assumption)).mono ?_); rintro e w2 ⟨rfl, hb2⟩)
      | (go_at_call 48; (with_reducible refine (HBT.out _ (by assumption)).mono ?_); rintro e w3 ⟨rfl, hb3⟩)
      | (go_at_call 47; (with_reducible refine (HA3.out _ (by assumption)).mono ?_); rintro e w4 ⟨rfl, hb4⟩)
      | (go_at_call 49; (with_reducible refine (HT.out _ (by assumption)).mono ?_); rintro e w5 ⟨v, rfl, hp, hb5⟩)
      | (go_at_call 42; (with_reducible refine (HP.out _ _ hp (by assumption)).mono ?_); rintro e w6 ⟨rfl, hb6⟩)
      | (go_at_call 50; (with_reducible refine (HR.out _ (by assumption)).mono ?_); rintro e w7 ⟨rfl, hb7⟩))
  all_goals go_wp2
  all_goals go_ret2
  all_goals exact ⟨rfl, HB.out _ (by assumption)⟩
end Go.Proofs.YtbafmnafhaoggaaGreatDoor
