/-
  image.Decode: the next rule; so many things.
-/
import Derived.Test.YtbafmnafhaoggaaGreatDoorODNext

namespace Go.Proofs.YtbafmnafhaoggaaGreatDoor
open Go Go.RowKit

theorem cellT_set {W : World} {T N k : Nat} {u v : Value} (h : W.cell? ⟨T, 0, none⟩ = some u) (hne : T ≠ N) : (W.setCell ⟨N, k, none⟩ v).cell? ⟨T, 0, none⟩ = some u :=
  (World.cell?_of_block (a := ⟨T, 0, none⟩) (Below.heap_setCell W ⟨N, k, none⟩ v T hne)).trans h
theorem rl3_storeD {w : World} {B : Nat} {t : TypeId} {a0 a1 a2 a3 a4 a5 a6 a7 a8 : Value} (h : w.heap[B]? = some (.cells #[a0, a1, a2, a3, a4, a5, a6, a7, a8] t (0, 0))) (b0 b1 b2 : Value) :
    (((w.setCell ⟨B, 0, none⟩ b0).setCell ⟨B, 1, none⟩ b1).setCell ⟨B, 2, none⟩ b2).heap[B]? = some (.cells #[b0, b1, b2, a3, a4, a5, a6, a7, a8] t (0, 0)) ∧ ∀ B0, B0 ≤ B → Below B0 w (((w.setCell ⟨B, 0, none⟩ b0).setCell ⟨B, 1, none⟩ b1).setCell ⟨B, 2, none⟩ b2) := by
  have e0 : (w.setCell ⟨B, 0, none⟩ b0).heap[B]? = some (.cells #[b0, a1, a2, a3, a4, a5, a6, a7, a8] t (0, 0)) := setY h b0
  have e1 : ((w.setCell ⟨B, 0, none⟩ b0).setCell ⟨B, 1, none⟩ b1).heap[B]? = some (.cells #[b0, b1, a2, a3, a4, a5, a6, a7, a8] t (0, 0)) := setY e0 b1
  exact ⟨setY e1 b2, fun B0 hB => (((Below.refl B0 w).setCell (p := ⟨B, 0, none⟩) hB b0).setCell (p := ⟨B, 1, none⟩) hB b1).setCell (p := ⟨B, 2, none⟩) hB b2⟩
theorem grown_of2R {W w w5 w' : World} {R : Nat} (hg : W.grownBy w (some R)) (hb : Below w.heap.size w w5) (h : Gr2 w5 w' R W.heap.size) : W.grownBy w' (some R) :=
  ⟨h.os.trans (hb.os.trans hg.os), h.tape.trans (hb.tape.trans hg.tape), h.output.trans (hb.output.trans hg.output), Nat.le_trans hg.size (Nat.le_trans hb.size h.size), fun k hk hne => (h.block k (Nat.lt_of_lt_of_le hk (Nat.le_trans hg.size hb.size)) (fun e => hne (by rw [e])) (by omega)).trans ((hb.block k (Nat.lt_of_lt_of_le hk hg.size)).trans (hg.block k hk hne))⟩

set_option maxRecDepth 100000 in
set_option maxHeartbeats 16000000 in
theorem nextR_any {W : World} {R T p : Nat} {b : ByteArray} (h : RdZ W R T b p) :
    Calls Tryz.prog 68 #[.pointer (some ⟨T, 0, none⟩)] W fun e w' => e = .returned (.agg #[.int .i64 (nb b p 1 : Nat), .int .i64 (nb b (p + 1) 1 : Nat), .bool (decide (nb b (p + 2) 1 = 1)), .string (txD b (p + 3) 0), .string (txD b (p + 3) 1), .string (txD b (p + 3) 2), .string (txD b (p + 3) 3), .string (txD b (p + 3) 4), .string (txD b (p + 3) 5)]) ∧ RdZ w' R T b (p + 51) ∧ W.grownBy w' (some R) := by
  obtain ⟨W1, hW1⟩ : ∃ W1, W.alloc (.cells #[.int .i64 0, .int .i64 0, .bool false, .string ⟨#[]⟩, .string ⟨#[]⟩, .string ⟨#[]⟩, .string ⟨#[]⟩, .string ⟨#[]⟩, .string ⟨#[]⟩] 79) = W1 := ⟨_, rfl⟩
  have hb1 : Below W.heap.size W W1 := by rw [← hW1]; exact (Below.refl _ W).alloc (Nat.le_refl _) _
  have hA : W1.heap[W.heap.size]? = some (.cells #[.int .i64 0, .int .i64 0, .bool false, .string ⟨#[]⟩, .string ⟨#[]⟩, .string ⟨#[]⟩, .string ⟨#[]⟩, .string ⟨#[]⟩, .string ⟨#[]⟩] 79 (0, 0)) := by rw [← hW1]; exact World.alloc_heap_new W _
  have hR := lt_of_block h.rd
  have hT := lt_of_block h.bx
  have hr1 := h.below hb1
  have HN1 := Lib.hid (fun w' (hw : Below W1.heap.size W1 w') => (numberD_any (hr1.below hw) 1 1 rfl (by decide)).mono (R' := fun e w'' => e = .returned (.int .i64 (nb b p 1 : Nat)) ∧ RdZ w'' R T b (p + 1) ∧ W1.grownBy w'' (some R)) fun e w'' ⟨p1, p2, p3⟩ => ⟨p1, p2, grown_transR (grown_belR hw) p3⟩)
  have HN2 := Lib.hid (fun w' (hw : RdZ w' R T b (p + 1)) (hg : W1.grownBy w' (some R)) => (numberD_any hw 1 1 rfl (by decide)).mono (R' := fun e w'' => e = .returned (.int .i64 (nb b (p + 1) 1 : Nat)) ∧ RdZ w'' R T b (p + 2) ∧ W1.grownBy w'' (some R)) fun e w'' ⟨p1, p2, p3⟩ => ⟨p1, p2, grown_transR hg p3⟩)
  have HN3 := Lib.hid (fun w' (hw : RdZ w' R T b (p + 2)) (hg : W1.grownBy w' (some R)) => (numberD_any hw 1 1 rfl (by decide)).mono (R' := fun e w'' => e = .returned (.int .i64 (nb b (p + 2) 1 : Nat)) ∧ RdZ w'' R T b (p + 3) ∧ W1.grownBy w'' (some R)) fun e w'' ⟨p1, p2, p3⟩ => ⟨p1, p2, grown_transR hg p3⟩)
  have HC := Lib.hid (fun w' (hw : Below W1.heap.size W1 w') => (hr1.below hw).box)
  have HA := Lib.hid (fun w' (hg : W1.grownBy w' (some R)) => show w'.heap[W.heap.size]? = some (.cells #[.int .i64 0, .int .i64 0, .bool false, .string ⟨#[]⟩, .string ⟨#[]⟩, .string ⟨#[]⟩, .string ⟨#[]⟩, .string ⟨#[]⟩, .string ⟨#[]⟩] 79 (0, 0)) from (hg.block _ (lt_of_block hA) (fun e => by have e' := Option.some.inj e; omega)).trans hA)
  have HW1 := Lib.hid hW1
  have HB1 := Lib.hid hb1
  have HRT := Lib.hid (And.intro hR hT)
  have hTN : T ≠ W.heap.size := by omega
  have hd : Below W1.heap.size W1 W1.drew := Below.drew (Below.refl _ _)
  generalize nb b p 1 = n0 at *
  generalize nb b (p + 1) 1 = n1 at *
  have hn3 : ∃ n3 q, nb b (p + 2) 1 = n3 ∧ decide (n3 = 1) = q := ⟨_, _, rfl, rfl⟩
  obtain ⟨n3, q, h3, hq⟩ := hn3
  rw [h3] at HN3 ⊢
  rw [hq]
  clear h3
  have hq' : q = ((n3 : Int) == 1) := by rw [← hq, Bool.eq_iff_iff]; simp; omega
  clear hq hW1 hb1 hA hr1 h hR hT
  unfold takeV at HC HN1 HN2 HN3
  go_enter Tryz.func68, Tryz.ntmps68
  go_upto_region 1 with fail
  rw [HW1.out]
  go_cut [] from 2 to 12 (fun wx => wx.heap[W.heap.size]? = some (.cells #[.int .i64 (n0 : Int), .int .i64 (n1 : Int), .bool q, .string ⟨#[]⟩, .string ⟨#[]⟩, .string ⟨#[]⟩, .string ⟨#[]⟩, .string ⟨#[]⟩, .string ⟨#[]⟩] 79 (0, 0)) ∧ RdZ wx R T b (p + 3) ∧ W.grownBy wx (some R))
  case first =>
    subst hq'
    go_region_held3 (fun w' => w'.cell? ⟨T, 0, none⟩ = some (.func (.func 59) #[.pointer (some ⟨R, 0, none⟩)] #[]))
      (first | exact HC.out _ (by assumption) | exact RdZ.box (by assumption) | exact cellT_set (by assumption) hTN)
      (first
        | (go_at_call 60; (with_reducible refine (HN3.out _ (by assumption) (by assumption)).mono ?_); rintro e w7 ⟨rfl, hr7, hg7⟩; have hN7 := HA.out _ hg7; obtain ⟨c0, c1, c2, -⟩ := cells9Z hN7; obtain ⟨f0, f1, f2, -⟩ := frozAll hN7)
        | (go_at_call 60; (with_reducible refine (HN2.out _ (by assumption) (by assumption)).mono ?_); rintro e w6 ⟨rfl, hr6, hg6⟩)
        | (go_at_call 60; (with_reducible refine (HN1.out _ (by assumption)).mono ?_); rintro e w5 ⟨rfl, hr5, hg5⟩))
    all_goals (try go_wp2_with fail)
    all_goals go_meet
    all_goals
      obtain ⟨s1, s2⟩ := rl3_storeD hN7 (.int .i64 (n0 : Int)) (.int .i64 (n1 : Int)) (.bool _)
      have s3 := s2 _ (Nat.le_refl _)
      exact ⟨s1, hr7.low s3 HRT.out.1 HRT.out.2, grown_lowR (grown_transR (grown_belR HB1.out) hg7) s3⟩
  case rest =>
    obtain ⟨hN8, hr8, hg8⟩ := hcut
    obtain ⟨W8, rfl⟩ : ∃ x, x = wc := ⟨_, rfl⟩
    have hN8l := lt_of_block hN8
    have HT := Lib.hid (fun w' (h : Below W8.heap.size W8 w') => (ruleTexts_any W.heap.size w').mono (R' := fun e w'' => ∃ v, e = .returned v ∧ PtrsZ w'' v W.heap.size [3, 4, 5, 6, 7, 8] ∧ Below W8.heap.size W8 w'') fun e w'' ⟨v, p, q, r⟩ => ⟨v, p, q, h.trans (r.mono h.size)⟩)
    have HF := Lib.hid (fun v w' (hp : PtrsZ w' v W.heap.size [3, 4, 5, 6, 7, 8]) (hw : Below W8.heap.size W8 w') => (fill_any (o0 := 3) (m := 6) (hr8.below hw) hp rfl (fun i o hio => by rcases i with _ | _ | _ | _ | _ | _ | i <;> simp at hio <;> omega) ((hw.block _ hN8l).trans hN8) (Nat.ne_of_lt HRT.out.1) (Nat.ne_of_lt HRT.out.2) (by show 3 + 6 ≤ 9; decide) (fun i a hia => by rcases i with _ | _ | _ | _ | _ | _ | _ | _ | _ | i <;> simp at hia) (by decide)).mono (R' := fun e w'' => e = .returned (.tuple #[]) ∧ w''.heap[W.heap.size]? = some (.cells #[.int .i64 (n0 : Int), .int .i64 (n1 : Int), .bool q, .string (txD b (p + 3) 0), .string (txD b (p + 3) 1), .string (txD b (p + 3) 2), .string (txD b (p + 3) 3), .string (txD b (p + 3) 4), .string (txD b (p + 3) 5)] 79 (0, 0)) ∧ RdZ w'' R T b (p + 51) ∧ W.grownBy w'' (some R)) fun e w'' ⟨p1, p2, p3, p4⟩ => ⟨p1, p2, p3, grown_of2R hg8 hw p4⟩)
    have HC8 := Lib.hid (fun w' (hw : Below W8.heap.size W8 w') => (hr8.below hw).box)
    obtain ⟨y0, hy0⟩ : ∃ y, txD b (p + 3) 0 = y := ⟨_, rfl⟩
    rw [hy0] at HF
    have HY0 := Lib.hid hy0
    clear hy0
    obtain ⟨y1, hy1⟩ : ∃ y, txD b (p + 3) 1 = y := ⟨_, rfl⟩
    rw [hy1] at HF
    have HY1 := Lib.hid hy1
    clear hy1
    obtain ⟨y2, hy2⟩ : ∃ y, txD b (p + 3) 2 = y := ⟨_, rfl⟩
    rw [hy2] at HF
    have HY2 := Lib.hid hy2
    clear hy2
    obtain ⟨y3, hy3⟩ : ∃ y, txD b (p + 3) 3 = y := ⟨_, rfl⟩
    rw [hy3] at HF
    have HY3 := Lib.hid hy3
    clear hy3
    obtain ⟨y4, hy4⟩ : ∃ y, txD b (p + 3) 4 = y := ⟨_, rfl⟩
    rw [hy4] at HF
    have HY4 := Lib.hid hy4
    clear hy4
    obtain ⟨y5, hy5⟩ : ∃ y, txD b (p + 3) 5 = y := ⟨_, rfl⟩
    rw [hy5] at HF
    have HY5 := Lib.hid hy5
    clear hy5
    clear hN8 hr8 hg8 HN1 HN2 HN3 HA HC HW1 HB1 hd hq'
    unfold takeV at HC8 HF
    have hd : Below W8.heap.size W8 W8.drew := Below.drew (Below.refl _ _)
    go_upto_region 2 with fail
    go_region_held3 (fun w' => w'.cell? ⟨T, 0, none⟩ = some (.func (.func 59) #[.pointer (some ⟨R, 0, none⟩)] #[]))
      (first | exact HC8.out _ (by assumption) | exact RdZ.box (by assumption))
      (first
        | (go_at_call 49; (with_reducible refine (HT.out _ (by assumption)).mono ?_); rintro e w5 ⟨v, rfl, hp, hb5⟩)
        | (go_at_call 66; (with_reducible refine (HF.out _ _ hp (by assumption)).mono ?_); rintro e w6 ⟨rfl, hN6, hr6, hg6⟩))
    all_goals
      obtain ⟨c0, c1, c2, c3, c4, c5, c6, c7, c8⟩ := cells9Z hN6
      obtain ⟨f0, f1, f2, f3, f4, f5, f6, f7, f8⟩ := frozAll hN6
      have HS := Lib.hid (rl_storeD hN6 (.int .i64 (n0 : Int)) (.int .i64 (n1 : Int)) (.bool q) (.string y0) (.string y1) (.string y2) (.string y3) (.string y4) (.string y5))
      have HG6 := Lib.hid hg6
      have HR6 := Lib.hid hr6
      clear hN6 hr6 hg6
      go_wp2
      refine bodyPost_ret (results_cell_row rfl _ _ W.heap.size 79 _ (0, 0) _ rfl HS.out.1 Tryz.underlying79 rfl sizeRlD) rfl ?_
      have hb := HS.out.2 _ (Nat.le_refl _)
      exact ⟨by rw [HY0.out, HY1.out, HY2.out, HY3.out, HY4.out, HY5.out], HR6.out.low hb HRT.out.1 HRT.out.2, grown_lowR HG6.out hb⟩
end Go.Proofs.YtbafmnafhaoggaaGreatDoor
