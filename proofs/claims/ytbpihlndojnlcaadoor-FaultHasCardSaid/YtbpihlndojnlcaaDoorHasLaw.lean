/-
  The walk of FaultHas: it returns true.
-/
import Derived.Test.YtbpihlndojnlcaaDoorMade
namespace Go.Proofs.YtbpihlndojnlcaaDoor
open Go Go.RowKit

theorem ItemsAt.below {w w' : World} {v : Value} {its : List Item} (h : ItemsAt w v its) {B : Nat} (hb : Below B w w') (hB : w.heap.size ≤ B) : ItemsAt w' v its := by
  rcases h with h | ⟨a, cap, h1, h2, h3, h4⟩
  · exact .inl h
  · refine .inr ⟨a, cap, h1, h2, h3, fun i x hx => ?_⟩
    obtain ⟨q1, q2⟩ := h4 i x hx
    have hl := lt_of_cell q1
    have hl2 := lt_of_cell q2
    exact ⟨(hb.cell (p := a.add (i * 2)) (by omega)).trans q1, (hb.cell (p := a.add (i * 2 + 1)) (by omega)).trans q2⟩
theorem cutItems_len (its : List Item) : (cutItems its).length ≤ 9 := by simp [cutItems]; omega

set_option maxRecDepth 100000 in
set_option maxHeartbeats 4000000 in
theorem has_law (v : Value) (its : List Item) (k other : Int) (w : World) (hits : ItemsAt w v its) (hg : TypeLaid w) :
    Calls Tryd.prog 4 #[v, .int .i64 k, .int .i64 other] w fun e w' => e = .returned (.bool true) ∧ Below w.heap.size w w' := by
  have HI := Lib.hid hits
  obtain ⟨kk, hkk⟩ : ∃ kk : Int, (if k = 0 then 12 else k) = kk := ⟨_, rfl⟩
  have hk0 : (kk == 0) = false := by
    rw [← hkk]; split
    · rfl
    · simpa using ‹¬ k = 0›
  have HK := Lib.hid hkk
  have HK0 := Lib.hid hk0
  clear hkk hk0 hits
  go_enter Tryd.func4, Tryd.ntmps4
  go_wp2_with fail
  refine (awake_law w hg).mono ?_
  rintro e w1 ⟨rfl, hb1⟩
  go_wp2_with fail
  refine (lrow_any k w1 (HI.out.below hb1 (Nat.le_refl _))).mono ?_
  rintro e w2 ⟨u, rfl, ho, hb2⟩
  rw [HK.out]
  have hlc := cutItems_len its
  generalize cutItems its = cs at *
  have HO := Lib.hid ho
  have hB2 := hb1.trans (hb2.mono hb1.size)
  have HB := Lib.hid hB2
  clear hb1 hb2 hB2 hg
  rcases owns_shape ho with rfl | ⟨g, gc, rfl⟩
  all_goals
    clear ho
    go_wp2_with fail
    refine (made_any kk _ HK0.out hlc _ (HO.out.alloc _)).mono ?_
    rintro e w4 ⟨n, t, x, xs, rfl, hch, hn, hfit, hb4⟩
    have hr1 : w4.cell? ⟨w2.heap.size, 1, none⟩ = some (.int .i64 kk) := (hb4.cell (p := ⟨w2.heap.size, 1, none⟩) (by simp)).trans (by simp)
    have hl4 : xs.length < 1048576 := by have := hfit.len; omega
    have K1 := Lib.hid (fun (k' : Int) w5 (hb : Below w4.heap.size w4 w5) (hr : w5.cell? ⟨w2.heap.size, 1, none⟩ = some (.int .i64 kk)) => (has_chain k' w5 hl4 (Nat.le_trans hn hb.size) (hch.below hb hn)).mono (R' := fun e w6 => e = .returned (.bool (decide (kk = k'))) ∧ w6.cell? ⟨w2.heap.size, 1, none⟩ = some (.int .i64 kk) ∧ Below w4.heap.size w4 w6) fun e w6 ⟨h1, h2⟩ => ⟨by rw [h1, hfit.has], (h2.cell (p := ⟨w2.heap.size, 1, none⟩) (lt_of_cell hr)).trans hr, hb.trans (h2.mono hb.size)⟩)
    have K2 := Lib.hid (fun (k' : Int) w5 (hb : Below w4.heap.size w4 w5) (hr : w5.cell? ⟨w2.heap.size, 1, none⟩ = some (.int .i64 kk)) => (has_chain (xs := []) (n₀ := 0) (v := .nilIface) k' w5 (by simp) (Nat.zero_le _) rfl).mono (R' := fun e w6 => e = .returned (.bool false) ∧ w6.cell? ⟨w2.heap.size, 1, none⟩ = some (.int .i64 kk) ∧ Below w4.heap.size w4 w6) fun e w6 ⟨h1, h2⟩ => ⟨by rw [h1]; rfl, (h2.cell (p := ⟨w2.heap.size, 1, none⟩) (lt_of_cell hr)).trans hr, hb.trans (h2.mono hb.size)⟩)
    have hb0 := Below.refl w4.heap.size w4
    have hb0d := (Below.refl w4.heap.size w4).drew
    have hr1d : w4.drew.cell? ⟨w2.heap.size, 1, none⟩ = some (.int .i64 kk) := hr1
    have HF := Lib.hid (fun wx (h : Below w4.heap.size w4 wx) => show Below w.heap.size w wx from (HB.out.alloc HB.out.size _).trans ((hb4.trans (h.mono hb4.size)).mono (by have := HB.out.size; simp; omega)))
    clear hch hn hfit hb4 hl4
    by_cases hok : kk = other
    · subst hok
      have A1 := Lib.hid (fun w5 hb hr => by have := K1.out kk w5 hb hr; rwa [show decide (kk = kk) = true by simp] at this)
      clear K1
      go_wp2_with fail
      go_region_held3 (fun w' => w'.cell? ⟨w2.heap.size, 1, none⟩ = some (.int .i64 kk) ∧ Below w4.heap.size w4 w') (first | exact ⟨by assumption, by assumption⟩)
        (first | (go_at_call 18; (with_reducible refine (A1.out _ (by assumption) (by assumption)).mono ?_); rintro e w5 ⟨rfl, hr5, hb5⟩) | (go_at_call 18; (with_reducible refine (K2.out _ _ (by assumption) (by assumption)).mono ?_); rintro e w5 ⟨rfl, hr5, hb5⟩))
      go_wp2
      go_ret
      exact ⟨rfl, HF.out _ (by assumption)⟩
    · have hd : decide (kk = other) = false := by simp [hok]
      have A1 := Lib.hid (fun w5 hb hr => by have := K1.out kk w5 hb hr; rwa [show decide (kk = kk) = true by simp] at this)
      have A2 := Lib.hid (fun w5 hb hr => by have := K1.out other w5 hb hr; rwa [hd] at this)
      have hne : (other == kk) = false := by simpa using fun h => hok h.symm
      clear K1 hd hok
      go_wp2_with fail
      go_region_held3 (fun w' => w'.cell? ⟨w2.heap.size, 1, none⟩ = some (.int .i64 kk) ∧ Below w4.heap.size w4 w') (first | exact ⟨by assumption, by assumption⟩)
        (first | (go_at_call 18; (with_reducible refine (A1.out _ (by assumption) (by assumption)).mono ?_); rintro e w5 ⟨rfl, hr5, hb5⟩) | (go_at_call 18; (with_reducible refine (A2.out _ (by assumption) (by assumption)).mono ?_); rintro e w5 ⟨rfl, hr5, hb5⟩) | (go_at_call 18; (with_reducible refine (K2.out _ _ (by assumption) (by assumption)).mono ?_); rintro e w5 ⟨rfl, hr5, hb5⟩))
      go_wp2
      go_ret
      exact ⟨rfl, HF.out _ (by assumption)⟩
end Go.Proofs.YtbpihlndojnlcaaDoor
