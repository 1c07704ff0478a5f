/-
  AliasSmall: the walk of the law. (Printed by wip/gen_ysmall.py.)
-/
import Derived.Test.YtmoblofkcfondaaDoorYKit
import Derived.Deep.RegionHeld3
import Derived.Deep.CutRange
namespace Go.Proofs.YtmoblofkcfondaaDoor
open Go Go.RowKit

theorem right_smalls {x : Al} (h : rightA x = true) : smallS x.a = true ∧ smallS x.b = true ∧ smallS x.l = true ∧ smallS x.s = true ∧ smallS x.r = true := by
  unfold rightA mustA at h
  simp only [Bool.and_eq_true] at h
  obtain ⟨_, ⟨_, h1⟩, ⟨_, h2⟩, ⟨_, h3⟩, ⟨_, h4⟩, ⟨_, h5⟩⟩ := h
  exact ⟨h1, h2, h3, h4, h5⟩
theorem small_up {a b : Al} {t : ByteArray} (hr : rightA a = true) (ht : smallS t = true) (hb : upS t = t → b = a) (hs : rightA b = true → smallS (upS t) = true) : rightA b = (t.toList == (upS t).toList) := by
  rw [same_bool]
  by_cases h : upS t = t
  · rw [hb h, hr, decide_eq_true h.symm]
  · rw [decide_eq_false (fun e => h e.symm)]
    cases hb2 : rightA b with
    | false => rfl
    | true =>
      have h2 := (smallS_iff _).1 (hs hb2)
      rw [low_upS, (smallS_iff t).1 ht] at h2
      exact absurd h2.symm h
theorem up_small {t : ByteArray} (h : t.size ≤ 1000) : (upS t).size ≤ 1000 := by rw [size_upS]; exact h

set_option maxRecDepth 1000000 in
set_option maxHeartbeats 16000000 in
theorem small_law (S : Sd) (n : Int) (w : World) (_hn : (Lit.int .i64 n).wf = true) (hg : GL w) :
    Calls Tryd.prog 8 #[.agg #[.int .i64 S.kind, .int .i64 S.a, .int .i64 S.b, .int .i64 S.l, .int .i64 S.s, .int .i64 S.r, .int .i64 S.odd], .int .i64 n] w fun e w' => e = .returned (.bool true) ∧ Below w.heap.size w w' := by
  have hgs := hg.size
  obtain ⟨W1, hW1⟩ : ∃ W1, w.alloc (.cells #[.int .i64 S.kind, .int .i64 S.a, .int .i64 S.b, .int .i64 S.l, .int .i64 S.s, .int .i64 S.r, .int .i64 S.odd] 25) = W1 := ⟨_, rfl⟩
  have hb1 : Below w.heap.size w W1 := by rw [← hW1]; exact (Below.refl _ w).alloc (Nat.le_refl _) _
  have hA : W1.heap[w.heap.size]? = some (.cells #[.int .i64 S.kind, .int .i64 S.a, .int .i64 S.b, .int .i64 S.l, .int .i64 S.s, .int .i64 S.r, .int .i64 S.odd] 25 (0, 0)) := by rw [← hW1]; exact World.alloc_heap_new w _
  have HGL := Lib.hid (fun w' (hb : Below w.heap.size w w') => hg.below hb hgs)
  have AW := Lib.hid (fun w' (hg : GL w') => awake12_any w' hg)
  have MS := Lib.hid (fun w' => made_any ⟨S.kind, S.a, S.b, S.l, S.s, S.r, 0⟩ w')
  have RS := Lib.hid (fun w' => rest12_5 n w')
  have hra : rightA (madeA ⟨S.kind, S.a, S.b, S.l, S.s, S.r, 0⟩) = true := by
    rw [made_zero _ rfl]
    exact base_right _ _ (pickY_facts 7 S.kind (by decide)).2.2.2
  have has := made_small ⟨S.kind, S.a, S.b, S.l, S.s, S.r, 0⟩
  have hj : restV n 5 < 5 := restV_lt n 5 (by decide)
  generalize madeA ⟨S.kind, S.a, S.b, S.l, S.s, S.r, 0⟩ = a at *
  generalize restV n 5 = j at *
  have RA := Lib.hid (fun w' (hg : GL w') => (right_al a w' has hg).mono (R' := fun e w'' => e = .returned (.bool true) ∧ Below w'.heap.size w' w'') fun e w'' ⟨p, q⟩ => ⟨by rw [p, hra], q⟩)
  have hsm := right_smalls hra
  have HB1 := Lib.hid hb1
  have HA := Lib.hid hA
  have HW1 := Lib.hid hW1
  clear hA hb1 hW1 hg
  go_enter Tryd.func8, Tryd.ntmps8
  go_upto_region 1 with fail
  rw [HW1.out]
  go_upto_region 2 with (go_at_call 9; (with_reducible refine (AW.out _ (HGL.out _ HB1.out)).mono ?_); rintro e w2 ⟨rfl, hb2⟩)
  have hA2 := (hb2.block _ (lt_of_block HA.out)).trans HA.out
  obtain ⟨s0, s1, s2, s3, s4, s5, s6⟩ := cells7 hA2
  have f6 := frozenY hA2 6
  go_upto_region 3 with fail
  have hX : (w2.setCell ⟨w.heap.size, 6, none⟩ (.int .i64 0)).heap[w.heap.size]? = some (.cells #[.int .i64 S.kind, .int .i64 S.a, .int .i64 S.b, .int .i64 S.l, .int .i64 S.s, .int .i64 S.r, .int .i64 0] 25 (0, 0)) := setY hA2 _
  have hbX : Below w.heap.size w (w2.setCell ⟨w.heap.size, 6, none⟩ (.int .i64 0)) := (HB1.out.trans (hb2.mono HB1.out.size)).setCell (p := ⟨w.heap.size, 6, none⟩) (Nat.le_refl _) _
  generalize hXX : w2.setCell ⟨w.heap.size, 6, none⟩ (.int .i64 0) = X at *
  clear hXX hA2 s0 s1 s2 s3 s4 s5 s6 f6 hb2
  obtain ⟨s0, s1, s2, s3, s4, s5, s6⟩ := cells7 hX
  have hlX := lt_of_block hX
  go_upto_region 4 with (go_at_call 13; (with_reducible refine (MS.out _).mono ?_); rintro e w3 ⟨rfl, hb3⟩)
  clear s0 s1 s2 s3 s4 s5 s6 hX
  have hb3' : Below w.heap.size w (w3.alloc (.cells #[.int .i64 a.k, .string a.a, .string a.b, .string a.l, .string a.s, .string a.r] 23)) := (hbX.trans (hb3.mono hbX.size)).alloc (Nat.le_trans hbX.size hb3.size) _
  have hA3 := World.alloc_heap_new w3 (.cells #[.int .i64 a.k, .string a.a, .string a.b, .string a.l, .string a.s, .string a.r] 23)
  generalize hW3 : w3.alloc (.cells #[.int .i64 a.k, .string a.a, .string a.b, .string a.l, .string a.s, .string a.r] 23) = W3 at *
  clear hW3 hb3 hbX hlX
  have hl3 : w3.heap.size < W3.heap.size := lt_of_block hA3
  have hl30 : w.heap.size ≤ W3.heap.size := hb3'.size
  obtain ⟨a0, a1, a2, a3, a4, a5⟩ := cells6 hA3
  go_upto_region 5 with fail
  clear a0 a1 a2 a3 a4 a5
  have hB4 := World.alloc_heap_new W3 (.cells #[.int .i64 a.k, .string a.a, .string a.b, .string a.l, .string a.s, .string a.r] 23)
  have hA4 := (Below.heap_alloc W3 (.cells #[.int .i64 a.k, .string a.a, .string a.b, .string a.l, .string a.s, .string a.r] 23) _ hl3).trans hA3
  have hb4 : Below w.heap.size w (W3.alloc (.cells #[.int .i64 a.k, .string a.a, .string a.b, .string a.l, .string a.s, .string a.r] 23)) := hb3'.alloc hl30 _
  generalize hW4 : W3.alloc (.cells #[.int .i64 a.k, .string a.a, .string a.b, .string a.l, .string a.s, .string a.r] 23) = W4 at *
  clear hW4 hA3 hb3'
  have hl4 : W3.heap.size < W4.heap.size := lt_of_block hB4
  have h5 : j = 0 ∨ j = 1 ∨ j = 2 ∨ j = 3 ∨ j = 4 := by omega
  obtain ⟨m1, m2, m3, m4, m5⟩ := hsm
  have HRA := Lib.hid hra
  have HAS := Lib.hid has
  generalize w3.heap.size = N3 at *
  generalize hN4 : W3.heap.size = N4 at *
  clear hra has hj hN4 HW1 HA HB1 AW MS
  rcases h5 with rfl | rfl | rfl | rfl | rfl
  · obtain ⟨t, ht⟩ : ∃ t, upS a.a = t := ⟨_, rfl⟩
    have hq : rightA ⟨a.k, upS a.a, a.b, a.l, a.s, a.r⟩ = (a.a.toList == (upS a.a).toList) := small_up HRA.out m1 (fun e => by cases a; simp only [Al.mk.injEq]; simp_all) (fun e => (right_smalls e).1)
    have RB := Lib.hid (fun w' (hg : GL w') => (right_al ⟨a.k, upS a.a, a.b, a.l, a.s, a.r⟩ w' ⟨HAS.out.k, (up_small HAS.out.a), HAS.out.b, HAS.out.l, HAS.out.s, HAS.out.r⟩ hg))
    have UP := Lib.hid (fun w' => upper_ref a.a w' (by have := HAS.out.a; omega))
    rw [hq] at RB
    rw [ht] at RB UP
    have hts := HAS.out.a
    clear hq ht
    obtain ⟨a0, a1, a2, a3, a4, a5⟩ := cells6 hA4
    go_upto_region 15 with (first
      | (go_at_call 11; (with_reducible refine (RS.out _).mono ?_); rintro e w5 ⟨rfl, rfl⟩)
      | (go_at_call 24; (with_reducible refine (UP.out _).mono ?_); rintro e w5 ⟨rfl, hb5⟩; have hB5 := (hb5.block _ hl4).trans hB4; have c5 := cellAtY hB5 1 _ rfl; have f5 := frozenY hB5 1))
    have hAY : (w5.setCell ⟨N4, 1, none⟩ (.string t)).heap[N3]? = some (.cells #[.int .i64 a.k, .string a.a, .string a.b, .string a.l, .string a.s, .string a.r] 23 (0, 0)) := (heap_setCellY (by omega)).trans ((hb5.block _ (by omega)).trans hA4)
    have hBY : (w5.setCell ⟨N4, 1, none⟩ (.string t)).heap[N4]? = some (.cells #[.int .i64 a.k, .string t, .string a.b, .string a.l, .string a.s, .string a.r] 23 (0, 0)) := setY hB5 _
    have hbY : Below w.heap.size w (w5.setCell ⟨N4, 1, none⟩ (.string t)) := (hb4.trans (hb5.mono hb4.size)).setCell (p := ⟨N4, 1, none⟩) hl30 _
    generalize hYY : w5.setCell ⟨N4, 1, none⟩ (.string t) = Y at *
    have HY := Lib.hid (fun w' (hb : Below Y.heap.size Y w') => (show Below Y.heap.size Y w' ∧ (w'.cell? ⟨N3, 0, none⟩ = some (.int .i64 a.k) ∧ w'.cell? ⟨N3, 1, none⟩ = some (.string a.a) ∧ w'.cell? ⟨N3, 2, none⟩ = some (.string a.b) ∧ w'.cell? ⟨N3, 3, none⟩ = some (.string a.l) ∧ w'.cell? ⟨N3, 4, none⟩ = some (.string a.s) ∧ w'.cell? ⟨N3, 5, none⟩ = some (.string a.r) ∧ w'.cell? ⟨N4, 0, none⟩ = some (.int .i64 a.k) ∧ w'.cell? ⟨N4, 1, none⟩ = some (.string t) ∧ w'.cell? ⟨N4, 2, none⟩ = some (.string a.b) ∧ w'.cell? ⟨N4, 3, none⟩ = some (.string a.l) ∧ w'.cell? ⟨N4, 4, none⟩ = some (.string a.s) ∧ w'.cell? ⟨N4, 5, none⟩ = some (.string a.r)) from by
      obtain ⟨a0, a1, a2, a3, a4, a5⟩ := cells6 ((hb.block _ (lt_of_block hAY)).trans hAY)
      obtain ⟨b0, b1, b2, b3, b4, b5⟩ := cells6 ((hb.block _ (lt_of_block hBY)).trans hBY)
      exact ⟨hb, a0, a1, a2, a3, a4, a5, b0, b1, b2, b3, b4, b5⟩))
    have HBY := Lib.hid (fun w' (hb : Below Y.heap.size Y w') => hbY.trans (hb.mono hbY.size))
    have GA := Lib.hid (fun w' (hb : Below Y.heap.size Y w') => (RA.out w' (HGL.out _ (HBY.out _ hb))).mono (R' := fun e w'' => e = .returned (.bool true) ∧ Below Y.heap.size Y w'') fun e w'' ⟨p, q⟩ => ⟨p, hb.trans (q.mono hb.size)⟩)
    obtain ⟨bv, hbv⟩ : ∃ bv, (a.a.toList == t.toList) = bv := ⟨_, rfl⟩
    rw [hbv] at RB
    have GB := Lib.hid (fun w' (hb : Below Y.heap.size Y w') => (RB.out w' (HGL.out _ (HBY.out _ hb))).mono (R' := fun e w'' => e = .returned (.bool bv) ∧ Below Y.heap.size Y w'') fun e w'' ⟨p, q⟩ => ⟨p, hb.trans (q.mono hb.size)⟩)
    clear hYY hAY hBY hbY hb5 hB5 c5 f5 a0 a1 a2 a3 a4 a5 hA4 hB4 hb4 hl3 hl4 hl30 RA RB UP RS HRA HAS m1 m2 m3 m4 m5 hts
    have hd1 : Below Y.heap.size Y Y.drew := Below.drew (Below.refl _ _)
    cases bv
    all_goals
      go_region_held3 (fun w' => Below Y.heap.size Y w' ∧ (w'.cell? ⟨N3, 0, none⟩ = some (.int .i64 a.k) ∧ w'.cell? ⟨N3, 1, none⟩ = some (.string a.a) ∧ w'.cell? ⟨N3, 2, none⟩ = some (.string a.b) ∧ w'.cell? ⟨N3, 3, none⟩ = some (.string a.l) ∧ w'.cell? ⟨N3, 4, none⟩ = some (.string a.s) ∧ w'.cell? ⟨N3, 5, none⟩ = some (.string a.r) ∧ w'.cell? ⟨N4, 0, none⟩ = some (.int .i64 a.k) ∧ w'.cell? ⟨N4, 1, none⟩ = some (.string t) ∧ w'.cell? ⟨N4, 2, none⟩ = some (.string a.b) ∧ w'.cell? ⟨N4, 3, none⟩ = some (.string a.l) ∧ w'.cell? ⟨N4, 4, none⟩ = some (.string a.s) ∧ w'.cell? ⟨N4, 5, none⟩ = some (.string a.r))) (exact HY.out _ (by assumption))
        (first
        | (go_at_call 18; (with_reducible refine (GA.out _ (by assumption)).mono ?_); rintro e w5 ⟨rfl, hb5⟩)
        | (go_at_call 18; (with_reducible refine (GB.out _ (by assumption)).mono ?_); rintro e w5 ⟨rfl, hb5⟩))
      go_wp2
      go_ret
      exact ⟨rfl, HBY.out _ (by assumption)⟩
  · obtain ⟨t, ht⟩ : ∃ t, upS a.b = t := ⟨_, rfl⟩
    have hq : rightA ⟨a.k, a.a, upS a.b, a.l, a.s, a.r⟩ = (a.b.toList == (upS a.b).toList) := small_up HRA.out m2 (fun e => by cases a; simp only [Al.mk.injEq]; simp_all) (fun e => (right_smalls e).2.1)
    have RB := Lib.hid (fun w' (hg : GL w') => (right_al ⟨a.k, a.a, upS a.b, a.l, a.s, a.r⟩ w' ⟨HAS.out.k, HAS.out.a, (up_small HAS.out.b), HAS.out.l, HAS.out.s, HAS.out.r⟩ hg))
    have UP := Lib.hid (fun w' => upper_ref a.b w' (by have := HAS.out.b; omega))
    rw [hq] at RB
    rw [ht] at RB UP
    have hts := HAS.out.b
    clear hq ht
    obtain ⟨a0, a1, a2, a3, a4, a5⟩ := cells6 hA4
    go_upto_region 15 with (first
      | (go_at_call 11; (with_reducible refine (RS.out _).mono ?_); rintro e w5 ⟨rfl, rfl⟩)
      | (go_at_call 24; (with_reducible refine (UP.out _).mono ?_); rintro e w5 ⟨rfl, hb5⟩; have hB5 := (hb5.block _ hl4).trans hB4; have c5 := cellAtY hB5 2 _ rfl; have f5 := frozenY hB5 2))
    have hAY : (w5.setCell ⟨N4, 2, none⟩ (.string t)).heap[N3]? = some (.cells #[.int .i64 a.k, .string a.a, .string a.b, .string a.l, .string a.s, .string a.r] 23 (0, 0)) := (heap_setCellY (by omega)).trans ((hb5.block _ (by omega)).trans hA4)
    have hBY : (w5.setCell ⟨N4, 2, none⟩ (.string t)).heap[N4]? = some (.cells #[.int .i64 a.k, .string a.a, .string t, .string a.l, .string a.s, .string a.r] 23 (0, 0)) := setY hB5 _
    have hbY : Below w.heap.size w (w5.setCell ⟨N4, 2, none⟩ (.string t)) := (hb4.trans (hb5.mono hb4.size)).setCell (p := ⟨N4, 2, none⟩) hl30 _
    generalize hYY : w5.setCell ⟨N4, 2, none⟩ (.string t) = Y at *
    have HY := Lib.hid (fun w' (hb : Below Y.heap.size Y w') => (show Below Y.heap.size Y w' ∧ (w'.cell? ⟨N3, 0, none⟩ = some (.int .i64 a.k) ∧ w'.cell? ⟨N3, 1, none⟩ = some (.string a.a) ∧ w'.cell? ⟨N3, 2, none⟩ = some (.string a.b) ∧ w'.cell? ⟨N3, 3, none⟩ = some (.string a.l) ∧ w'.cell? ⟨N3, 4, none⟩ = some (.string a.s) ∧ w'.cell? ⟨N3, 5, none⟩ = some (.string a.r) ∧ w'.cell? ⟨N4, 0, none⟩ = some (.int .i64 a.k) ∧ w'.cell? ⟨N4, 1, none⟩ = some (.string a.a) ∧ w'.cell? ⟨N4, 2, none⟩ = some (.string t) ∧ w'.cell? ⟨N4, 3, none⟩ = some (.string a.l) ∧ w'.cell? ⟨N4, 4, none⟩ = some (.string a.s) ∧ w'.cell? ⟨N4, 5, none⟩ = some (.string a.r)) from by
      obtain ⟨a0, a1, a2, a3, a4, a5⟩ := cells6 ((hb.block _ (lt_of_block hAY)).trans hAY)
      obtain ⟨b0, b1, b2, b3, b4, b5⟩ := cells6 ((hb.block _ (lt_of_block hBY)).trans hBY)
      exact ⟨hb, a0, a1, a2, a3, a4, a5, b0, b1, b2, b3, b4, b5⟩))
    have HBY := Lib.hid (fun w' (hb : Below Y.heap.size Y w') => hbY.trans (hb.mono hbY.size))
    have GA := Lib.hid (fun w' (hb : Below Y.heap.size Y w') => (RA.out w' (HGL.out _ (HBY.out _ hb))).mono (R' := fun e w'' => e = .returned (.bool true) ∧ Below Y.heap.size Y w'') fun e w'' ⟨p, q⟩ => ⟨p, hb.trans (q.mono hb.size)⟩)
    obtain ⟨bv, hbv⟩ : ∃ bv, (a.b.toList == t.toList) = bv := ⟨_, rfl⟩
    rw [hbv] at RB
    have GB := Lib.hid (fun w' (hb : Below Y.heap.size Y w') => (RB.out w' (HGL.out _ (HBY.out _ hb))).mono (R' := fun e w'' => e = .returned (.bool bv) ∧ Below Y.heap.size Y w'') fun e w'' ⟨p, q⟩ => ⟨p, hb.trans (q.mono hb.size)⟩)
    clear hYY hAY hBY hbY hb5 hB5 c5 f5 a0 a1 a2 a3 a4 a5 hA4 hB4 hb4 hl3 hl4 hl30 RA RB UP RS HRA HAS m1 m2 m3 m4 m5 hts
    have hd1 : Below Y.heap.size Y Y.drew := Below.drew (Below.refl _ _)
    cases bv
    all_goals
      go_region_held3 (fun w' => Below Y.heap.size Y w' ∧ (w'.cell? ⟨N3, 0, none⟩ = some (.int .i64 a.k) ∧ w'.cell? ⟨N3, 1, none⟩ = some (.string a.a) ∧ w'.cell? ⟨N3, 2, none⟩ = some (.string a.b) ∧ w'.cell? ⟨N3, 3, none⟩ = some (.string a.l) ∧ w'.cell? ⟨N3, 4, none⟩ = some (.string a.s) ∧ w'.cell? ⟨N3, 5, none⟩ = some (.string a.r) ∧ w'.cell? ⟨N4, 0, none⟩ = some (.int .i64 a.k) ∧ w'.cell? ⟨N4, 1, none⟩ = some (.string a.a) ∧ w'.cell? ⟨N4, 2, none⟩ = some (.string t) ∧ w'.cell? ⟨N4, 3, none⟩ = some (.string a.l) ∧ w'.cell? ⟨N4, 4, none⟩ = some (.string a.s) ∧ w'.cell? ⟨N4, 5, none⟩ = some (.string a.r))) (exact HY.out _ (by assumption))
        (first
        | (go_at_call 18; (with_reducible refine (GA.out _ (by assumption)).mono ?_); rintro e w5 ⟨rfl, hb5⟩)
        | (go_at_call 18; (with_reducible refine (GB.out _ (by assumption)).mono ?_); rintro e w5 ⟨rfl, hb5⟩))
      go_wp2
      go_ret
      exact ⟨rfl, HBY.out _ (by assumption)⟩
  · obtain ⟨t, ht⟩ : ∃ t, upS a.l = t := ⟨_, rfl⟩
    have hq : rightA ⟨a.k, a.a, a.b, upS a.l, a.s, a.r⟩ = (a.l.toList == (upS a.l).toList) := small_up HRA.out m3 (fun e => by cases a; simp only [Al.mk.injEq]; simp_all) (fun e => (right_smalls e).2.2.1)
    have RB := Lib.hid (fun w' (hg : GL w') => (right_al ⟨a.k, a.a, a.b, upS a.l, a.s, a.r⟩ w' ⟨HAS.out.k, HAS.out.a, HAS.out.b, (up_small HAS.out.l), HAS.out.s, HAS.out.r⟩ hg))
    have UP := Lib.hid (fun w' => upper_ref a.l w' (by have := HAS.out.l; omega))
    rw [hq] at RB
    rw [ht] at RB UP
    have hts := HAS.out.l
    clear hq ht
    obtain ⟨a0, a1, a2, a3, a4, a5⟩ := cells6 hA4
    go_upto_region 15 with (first
      | (go_at_call 11; (with_reducible refine (RS.out _).mono ?_); rintro e w5 ⟨rfl, rfl⟩)
      | (go_at_call 24; (with_reducible refine (UP.out _).mono ?_); rintro e w5 ⟨rfl, hb5⟩; have hB5 := (hb5.block _ hl4).trans hB4; have c5 := cellAtY hB5 3 _ rfl; have f5 := frozenY hB5 3))
    have hAY : (w5.setCell ⟨N4, 3, none⟩ (.string t)).heap[N3]? = some (.cells #[.int .i64 a.k, .string a.a, .string a.b, .string a.l, .string a.s, .string a.r] 23 (0, 0)) := (heap_setCellY (by omega)).trans ((hb5.block _ (by omega)).trans hA4)
    have hBY : (w5.setCell ⟨N4, 3, none⟩ (.string t)).heap[N4]? = some (.cells #[.int .i64 a.k, .string a.a, .string a.b, .string t, .string a.s, .string a.r] 23 (0, 0)) := setY hB5 _
    have hbY : Below w.heap.size w (w5.setCell ⟨N4, 3, none⟩ (.string t)) := (hb4.trans (hb5.mono hb4.size)).setCell (p := ⟨N4, 3, none⟩) hl30 _
    generalize hYY : w5.setCell ⟨N4, 3, none⟩ (.string t) = Y at *
    have HY := Lib.hid (fun w' (hb : Below Y.heap.size Y w') => (show Below Y.heap.size Y w' ∧ (w'.cell? ⟨N3, 0, none⟩ = some (.int .i64 a.k) ∧ w'.cell? ⟨N3, 1, none⟩ = some (.string a.a) ∧ w'.cell? ⟨N3, 2, none⟩ = some (.string a.b) ∧ w'.cell? ⟨N3, 3, none⟩ = some (.string a.l) ∧ w'.cell? ⟨N3, 4, none⟩ = some (.string a.s) ∧ w'.cell? ⟨N3, 5, none⟩ = some (.string a.r) ∧ w'.cell? ⟨N4, 0, none⟩ = some (.int .i64 a.k) ∧ w'.cell? ⟨N4, 1, none⟩ = some (.string a.a) ∧ w'.cell? ⟨N4, 2, none⟩ = some (.string a.b) ∧ w'.cell? ⟨N4, 3, none⟩ = some (.string t) ∧ w'.cell? ⟨N4, 4, none⟩ = some (.string a.s) ∧ w'.cell? ⟨N4, 5, none⟩ = some (.string a.r)) from by
      obtain ⟨a0, a1, a2, a3, a4, a5⟩ := cells6 ((hb.block _ (lt_of_block hAY)).trans hAY)
      obtain ⟨b0, b1, b2, b3, b4, b5⟩ := cells6 ((hb.block _ (lt_of_block hBY)).trans hBY)
      exact ⟨hb, a0, a1, a2, a3, a4, a5, b0, b1, b2, b3, b4, b5⟩))
    have HBY := Lib.hid (fun w' (hb : Below Y.heap.size Y w') => hbY.trans (hb.mono hbY.size))
    have GA := Lib.hid (fun w' (hb : Below Y.heap.size Y w') => (RA.out w' (HGL.out _ (HBY.out _ hb))).mono (R' := fun e w'' => e = .returned (.bool true) ∧ Below Y.heap.size Y w'') fun e w'' ⟨p, q⟩ => ⟨p, hb.trans (q.mono hb.size)⟩)
    obtain ⟨bv, hbv⟩ : ∃ bv, (a.l.toList == t.toList) = bv := ⟨_, rfl⟩
    rw [hbv] at RB
    have GB := Lib.hid (fun w' (hb : Below Y.heap.size Y w') => (RB.out w' (HGL.out _ (HBY.out _ hb))).mono (R' := fun e w'' => e = .returned (.bool bv) ∧ Below Y.heap.size Y w'') fun e w'' ⟨p, q⟩ => ⟨p, hb.trans (q.mono hb.size)⟩)
    clear hYY hAY hBY hbY hb5 hB5 c5 f5 a0 a1 a2 a3 a4 a5 hA4 hB4 hb4 hl3 hl4 hl30 RA RB UP RS HRA HAS m1 m2 m3 m4 m5 hts
    have hd1 : Below Y.heap.size Y Y.drew := Below.drew (Below.refl _ _)
    cases bv
    all_goals
      go_region_held3 (fun w' => Below Y.heap.size Y w' ∧ (w'.cell? ⟨N3, 0, none⟩ = some (.int .i64 a.k) ∧ w'.cell? ⟨N3, 1, none⟩ = some (.string a.a) ∧ w'.cell? ⟨N3, 2, none⟩ = some (.string a.b) ∧ w'.cell? ⟨N3, 3, none⟩ = some (.string a.l) ∧ w'.cell? ⟨N3, 4, none⟩ = some (.string a.s) ∧ w'.cell? ⟨N3, 5, none⟩ = some (.string a.r) ∧ w'.cell? ⟨N4, 0, none⟩ = some (.int .i64 a.k) ∧ w'.cell? ⟨N4, 1, none⟩ = some (.string a.a) ∧ w'.cell? ⟨N4, 2, none⟩ = some (.string a.b) ∧ w'.cell? ⟨N4, 3, none⟩ = some (.string t) ∧ w'.cell? ⟨N4, 4, none⟩ = some (.string a.s) ∧ w'.cell? ⟨N4, 5, none⟩ = some (.string a.r))) (exact HY.out _ (by assumption))
        (first
        | (go_at_call 18; (with_reducible refine (GA.out _ (by assumption)).mono ?_); rintro e w5 ⟨rfl, hb5⟩)
        | (go_at_call 18; (with_reducible refine (GB.out _ (by assumption)).mono ?_); rintro e w5 ⟨rfl, hb5⟩))
      go_wp2
      go_ret
      exact ⟨rfl, HBY.out _ (by assumption)⟩
  · obtain ⟨t, ht⟩ : ∃ t, upS a.s = t := ⟨_, rfl⟩
    have hq : rightA ⟨a.k, a.a, a.b, a.l, upS a.s, a.r⟩ = (a.s.toList == (upS a.s).toList) := small_up HRA.out m4 (fun e => by cases a; simp only [Al.mk.injEq]; simp_all) (fun e => (right_smalls e).2.2.2.1)
    have RB := Lib.hid (fun w' (hg : GL w') => (right_al ⟨a.k, a.a, a.b, a.l, upS a.s, a.r⟩ w' ⟨HAS.out.k, HAS.out.a, HAS.out.b, HAS.out.l, (up_small HAS.out.s), HAS.out.r⟩ hg))
    have UP := Lib.hid (fun w' => upper_ref a.s w' (by have := HAS.out.s; omega))
    rw [hq] at RB
    rw [ht] at RB UP
    have hts := HAS.out.s
    clear hq ht
    obtain ⟨a0, a1, a2, a3, a4, a5⟩ := cells6 hA4
    go_upto_region 15 with (first
      | (go_at_call 11; (with_reducible refine (RS.out _).mono ?_); rintro e w5 ⟨rfl, rfl⟩)
      | (go_at_call 24; (with_reducible refine (UP.out _).mono ?_); rintro e w5 ⟨rfl, hb5⟩; have hB5 := (hb5.block _ hl4).trans hB4; have c5 := cellAtY hB5 4 _ rfl; have f5 := frozenY hB5 4))
    have hAY : (w5.setCell ⟨N4, 4, none⟩ (.string t)).heap[N3]? = some (.cells #[.int .i64 a.k, .string a.a, .string a.b, .string a.l, .string a.s, .string a.r] 23 (0, 0)) := (heap_setCellY (by omega)).trans ((hb5.block _ (by omega)).trans hA4)
    have hBY : (w5.setCell ⟨N4, 4, none⟩ (.string t)).heap[N4]? = some (.cells #[.int .i64 a.k, .string a.a, .string a.b, .string a.l, .string t, .string a.r] 23 (0, 0)) := setY hB5 _
    have hbY : Below w.heap.size w (w5.setCell ⟨N4, 4, none⟩ (.string t)) := (hb4.trans (hb5.mono hb4.size)).setCell (p := ⟨N4, 4, none⟩) hl30 _
    generalize hYY : w5.setCell ⟨N4, 4, none⟩ (.string t) = Y at *
    have HY := Lib.hid (fun w' (hb : Below Y.heap.size Y w') => (show Below Y.heap.size Y w' ∧ (w'.cell? ⟨N3, 0, none⟩ = some (.int .i64 a.k) ∧ w'.cell? ⟨N3, 1, none⟩ = some (.string a.a) ∧ w'.cell? ⟨N3, 2, none⟩ = some (.string a.b) ∧ w'.cell? ⟨N3, 3, none⟩ = some (.string a.l) ∧ w'.cell? ⟨N3, 4, none⟩ = some (.string a.s) ∧ w'.cell? ⟨N3, 5, none⟩ = some (.string a.r) ∧ w'.cell? ⟨N4, 0, none⟩ = some (.int .i64 a.k) ∧ w'.cell? ⟨N4, 1, none⟩ = some (.string a.a) ∧ w'.cell? ⟨N4, 2, none⟩ = some (.string a.b) ∧ w'.cell? ⟨N4, 3, none⟩ = some (.string a.l) ∧ w'.cell? ⟨N4, 4, none⟩ = some (.string t) ∧ w'.cell? ⟨N4, 5, none⟩ = some (.string a.r)) from by
      obtain ⟨a0, a1, a2, a3, a4, a5⟩ := cells6 ((hb.block _ (lt_of_block hAY)).trans hAY)
      obtain ⟨b0, b1, b2, b3, b4, b5⟩ := cells6 ((hb.block _ (lt_of_block hBY)).trans hBY)
      exact ⟨hb, a0, a1, a2, a3, a4, a5, b0, b1, b2, b3, b4, b5⟩))
    have HBY := Lib.hid (fun w' (hb : Below Y.heap.size Y w') => hbY.trans (hb.mono hbY.size))
    have GA := Lib.hid (fun w' (hb : Below Y.heap.size Y w') => (RA.out w' (HGL.out _ (HBY.out _ hb))).mono (R' := fun e w'' => e = .returned (.bool true) ∧ Below Y.heap.size Y w'') fun e w'' ⟨p, q⟩ => ⟨p, hb.trans (q.mono hb.size)⟩)
    obtain ⟨bv, hbv⟩ : ∃ bv, (a.s.toList == t.toList) = bv := ⟨_, rfl⟩
    rw [hbv] at RB
    have GB := Lib.hid (fun w' (hb : Below Y.heap.size Y w') => (RB.out w' (HGL.out _ (HBY.out _ hb))).mono (R' := fun e w'' => e = .returned (.bool bv) ∧ Below Y.heap.size Y w'') fun e w'' ⟨p, q⟩ => ⟨p, hb.trans (q.mono hb.size)⟩)
    clear hYY hAY hBY hbY hb5 hB5 c5 f5 a0 a1 a2 a3 a4 a5 hA4 hB4 hb4 hl3 hl4 hl30 RA RB UP RS HRA HAS m1 m2 m3 m4 m5 hts
    have hd1 : Below Y.heap.size Y Y.drew := Below.drew (Below.refl _ _)
    cases bv
    all_goals
      go_region_held3 (fun w' => Below Y.heap.size Y w' ∧ (w'.cell? ⟨N3, 0, none⟩ = some (.int .i64 a.k) ∧ w'.cell? ⟨N3, 1, none⟩ = some (.string a.a) ∧ w'.cell? ⟨N3, 2, none⟩ = some (.string a.b) ∧ w'.cell? ⟨N3, 3, none⟩ = some (.string a.l) ∧ w'.cell? ⟨N3, 4, none⟩ = some (.string a.s) ∧ w'.cell? ⟨N3, 5, none⟩ = some (.string a.r) ∧ w'.cell? ⟨N4, 0, none⟩ = some (.int .i64 a.k) ∧ w'.cell? ⟨N4, 1, none⟩ = some (.string a.a) ∧ w'.cell? ⟨N4, 2, none⟩ = some (.string a.b) ∧ w'.cell? ⟨N4, 3, none⟩ = some (.string a.l) ∧ w'.cell? ⟨N4, 4, none⟩ = some (.string t) ∧ w'.cell? ⟨N4, 5, none⟩ = some (.string a.r))) (exact HY.out _ (by assumption))
        (first
        | (go_at_call 18; (with_reducible refine (GA.out _ (by assumption)).mono ?_); rintro e w5 ⟨rfl, hb5⟩)
        | (go_at_call 18; (with_reducible refine (GB.out _ (by assumption)).mono ?_); rintro e w5 ⟨rfl, hb5⟩))
      go_wp2
      go_ret
      exact ⟨rfl, HBY.out _ (by assumption)⟩
  · obtain ⟨t, ht⟩ : ∃ t, upS a.r = t := ⟨_, rfl⟩
    have hq : rightA ⟨a.k, a.a, a.b, a.l, a.s, upS a.r⟩ = (a.r.toList == (upS a.r).toList) := small_up HRA.out m5 (fun e => by cases a; simp only [Al.mk.injEq]; simp_all) (fun e => (right_smalls e).2.2.2.2)
    have RB := Lib.hid (fun w' (hg : GL w') => (right_al ⟨a.k, a.a, a.b, a.l, a.s, upS a.r⟩ w' ⟨HAS.out.k, HAS.out.a, HAS.out.b, HAS.out.l, HAS.out.s, (up_small HAS.out.r)⟩ hg))
    have UP := Lib.hid (fun w' => upper_ref a.r w' (by have := HAS.out.r; omega))
    rw [hq] at RB
    rw [ht] at RB UP
    have hts := HAS.out.r
    clear hq ht
    obtain ⟨a0, a1, a2, a3, a4, a5⟩ := cells6 hA4
    go_upto_region 15 with (first
      | (go_at_call 11; (with_reducible refine (RS.out _).mono ?_); rintro e w5 ⟨rfl, rfl⟩)
      | (go_at_call 24; (with_reducible refine (UP.out _).mono ?_); rintro e w5 ⟨rfl, hb5⟩; have hB5 := (hb5.block _ hl4).trans hB4; have c5 := cellAtY hB5 5 _ rfl; have f5 := frozenY hB5 5))
    have hAY : (w5.setCell ⟨N4, 5, none⟩ (.string t)).heap[N3]? = some (.cells #[.int .i64 a.k, .string a.a, .string a.b, .string a.l, .string a.s, .string a.r] 23 (0, 0)) := (heap_setCellY (by omega)).trans ((hb5.block _ (by omega)).trans hA4)
    have hBY : (w5.setCell ⟨N4, 5, none⟩ (.string t)).heap[N4]? = some (.cells #[.int .i64 a.k, .string a.a, .string a.b, .string a.l, .string a.s, .string t] 23 (0, 0)) := setY hB5 _
    have hbY : Below w.heap.size w (w5.setCell ⟨N4, 5, none⟩ (.string t)) := (hb4.trans (hb5.mono hb4.size)).setCell (p := ⟨N4, 5, none⟩) hl30 _
    generalize hYY : w5.setCell ⟨N4, 5, none⟩ (.string t) = Y at *
    have HY := Lib.hid (fun w' (hb : Below Y.heap.size Y w') => (show Below Y.heap.size Y w' ∧ (w'.cell? ⟨N3, 0, none⟩ = some (.int .i64 a.k) ∧ w'.cell? ⟨N3, 1, none⟩ = some (.string a.a) ∧ w'.cell? ⟨N3, 2, none⟩ = some (.string a.b) ∧ w'.cell? ⟨N3, 3, none⟩ = some (.string a.l) ∧ w'.cell? ⟨N3, 4, none⟩ = some (.string a.s) ∧ w'.cell? ⟨N3, 5, none⟩ = some (.string a.r) ∧ w'.cell? ⟨N4, 0, none⟩ = some (.int .i64 a.k) ∧ w'.cell? ⟨N4, 1, none⟩ = some (.string a.a) ∧ w'.cell? ⟨N4, 2, none⟩ = some (.string a.b) ∧ w'.cell? ⟨N4, 3, none⟩ = some (.string a.l) ∧ w'.cell? ⟨N4, 4, none⟩ = some (.string a.s) ∧ w'.cell? ⟨N4, 5, none⟩ = some (.string t)) from by
      obtain ⟨a0, a1, a2, a3, a4, a5⟩ := cells6 ((hb.block _ (lt_of_block hAY)).trans hAY)
      obtain ⟨b0, b1, b2, b3, b4, b5⟩ := cells6 ((hb.block _ (lt_of_block hBY)).trans hBY)
      exact ⟨hb, a0, a1, a2, a3, a4, a5, b0, b1, b2, b3, b4, b5⟩))
    have HBY := Lib.hid (fun w' (hb : Below Y.heap.size Y w') => hbY.trans (hb.mono hbY.size))
    have GA := Lib.hid (fun w' (hb : Below Y.heap.size Y w') => (RA.out w' (HGL.out _ (HBY.out _ hb))).mono (R' := fun e w'' => e = .returned (.bool true) ∧ Below Y.heap.size Y w'') fun e w'' ⟨p, q⟩ => ⟨p, hb.trans (q.mono hb.size)⟩)
    obtain ⟨bv, hbv⟩ : ∃ bv, (a.r.toList == t.toList) = bv := ⟨_, rfl⟩
    rw [hbv] at RB
    have GB := Lib.hid (fun w' (hb : Below Y.heap.size Y w') => (RB.out w' (HGL.out _ (HBY.out _ hb))).mono (R' := fun e w'' => e = .returned (.bool bv) ∧ Below Y.heap.size Y w'') fun e w'' ⟨p, q⟩ => ⟨p, hb.trans (q.mono hb.size)⟩)
    clear hYY hAY hBY hbY hb5 hB5 c5 f5 a0 a1 a2 a3 a4 a5 hA4 hB4 hb4 hl3 hl4 hl30 RA RB UP RS HRA HAS m1 m2 m3 m4 m5 hts
    have hd1 : Below Y.heap.size Y Y.drew := Below.drew (Below.refl _ _)
    cases bv
    all_goals
      go_region_held3 (fun w' => Below Y.heap.size Y w' ∧ (w'.cell? ⟨N3, 0, none⟩ = some (.int .i64 a.k) ∧ w'.cell? ⟨N3, 1, none⟩ = some (.string a.a) ∧ w'.cell? ⟨N3, 2, none⟩ = some (.string a.b) ∧ w'.cell? ⟨N3, 3, none⟩ = some (.string a.l) ∧ w'.cell? ⟨N3, 4, none⟩ = some (.string a.s) ∧ w'.cell? ⟨N3, 5, none⟩ = some (.string a.r) ∧ w'.cell? ⟨N4, 0, none⟩ = some (.int .i64 a.k) ∧ w'.cell? ⟨N4, 1, none⟩ = some (.string a.a) ∧ w'.cell? ⟨N4, 2, none⟩ = some (.string a.b) ∧ w'.cell? ⟨N4, 3, none⟩ = some (.string a.l) ∧ w'.cell? ⟨N4, 4, none⟩ = some (.string a.s) ∧ w'.cell? ⟨N4, 5, none⟩ = some (.string t))) (exact HY.out _ (by assumption))
        (first
        | (go_at_call 18; (with_reducible refine (GA.out _ (by assumption)).mono ?_); rintro e w5 ⟨rfl, hb5⟩)
        | (go_at_call 18; (with_reducible refine (GB.out _ (by assumption)).mono ?_); rintro e w5 ⟨rfl, hb5⟩))
      go_wp2
      go_ret
      exact ⟨rfl, HBY.out _ (by assumption)⟩
end Go.Proofs.YtmoblofkcfondaaDoor
