/-
  Package check: fine, ends, everyLevel.
-/
import Derived.Test.YtbafmnafhaoggaaGreatDoorOMaps
import Derived.ChangeKeysEq
import Derived.BigQuiet
import Derived.Deep.QuietTactic
namespace Go.Proofs.YtbafmnafhaoggaaGreatDoor
open Go Go.RowKit Go.Maps

set_option maxRecDepth 100000 in
set_option maxHeartbeats 2000000 in
theorem fine_any (T : List Kn) (M : Nat) (k : Int) (s : ByteArray) (w : World) (hk : (Lit.int .i64 k).wf = true) (hs : s.size ≤ maxLen) (h : OldN w M T) :
    Calls Tryz.prog 72 #[.map (some M), .int .i64 k, .string s] w fun e w' => e = .returned (.bool (fineN T k s)) ∧ Below w.heap.size w w' := by
  have HF := Lib.hid (final_any T M k s ⟨#[]⟩ w hk hs (Nat.zero_le _) h)
  have HM := Lib.hid (show fineN T k s = (decide (s.size = 0) || finalN T k s ⟨#[]⟩) from rfl)
  have hb0 : Below w.heap.size w w := Below.refl _ _
  generalize finalN T k s ⟨#[]⟩ = z at *
  clear h hk hs
  by_cases h0 : s.size = 0
  · have he := empty_true h0
    rw [decide_eq_true h0] at HM
    clear h0
    go_enter Tryz.func72, Tryz.ntmps72
    go_wp2_with fail
    go_ret
    exact ⟨ret_bool HM.out.symm, hb0⟩
  · have he := empty_false (show 0 < s.size by omega)
    rw [decide_eq_false h0] at HM
    clear h0
    go_enter Tryz.func72, Tryz.ntmps72
    go_wp2_with (go_at_call 73; (with_reducible refine HF.out.mono ?_); rintro e w5 ⟨rfl, hb5⟩)
    go_ret
    exact ⟨ret_bool HM.out.symm, hb5⟩
set_option maxRecDepth 100000 in
set_option maxHeartbeats 4000000 in
theorem ends_any (T : List Kn) (M : Nat) (x : Al) (w : World) (hx : AlS x) (h : OldN w M T) :
    Calls Tryz.prog 31 #[.map (some M), .agg #[.int .i64 x.k, .string x.a, .string x.b, .string x.l, .string x.s, .string x.r]] w fun e w' => e = .returned (.bool (endsN T x)) ∧ Below w.heap.size w w' := by
  obtain ⟨k, a, b, l, s, r⟩ := x
  obtain ⟨hk, ha, hb, hl, hs, hr⟩ := hx
  dsimp only at hk ha hb hl hs hr ⊢
  have la : a.size ≤ maxLen := by unfold maxLen; omega
  have ll : l.size ≤ maxLen := by unfold maxLen; omega
  have ls : s.size ≤ maxLen := by unfold maxLen; omega
  have lr : r.size ≤ maxLen := by unfold maxLen; omega
  obtain ⟨W1, hW1⟩ : ∃ W1, w.alloc (.cells #[.int .i64 k, .string a, .string b, .string l, .string s, .string r] 42) = W1 := ⟨_, rfl⟩
  have hb1 : Below w.heap.size w W1 := by rw [← hW1]; exact (Below.refl _ w).alloc (Nat.le_refl _) _
  have hA : W1.heap[w.heap.size]? = some (.cells #[.int .i64 k, .string a, .string b, .string l, .string s, .string r] 42 (0, 0)) := by rw [← hW1]; exact World.alloc_heap_new w _
  have HC := Lib.hid (fun w' (h : Below W1.heap.size W1 w') => cells6 ((h.block _ (lt_of_block hA)).trans hA))
  have HB := Lib.hid (fun w' (h : Below W1.heap.size W1 w') => hb1.trans (h.mono hb1.size))
  have HO := h.below hb1
  have hr0 : Below W1.heap.size W1 W1 := Below.refl _ _
  have HW1 := Lib.hid hW1
  obtain ⟨d0, d1, d2, d3, d4, d5⟩ := HC.out _ hr0
  by_cases h6 : k = 6
  · subst h6
    have F6 := Lib.hid (fun w5 (hb : Below W1.heap.size W1 w5) => (fine_any T M 6 l w5 (by decide) ll (HO.below hb)).mono (R' := fun e w'' => e = .returned (.bool (fineN T 6 l)) ∧ Below W1.heap.size W1 w'') fun e w'' ⟨p, q⟩ => ⟨p, hb.trans (q.mono hb.size)⟩)
    have HM := Lib.hid (show endsN T ⟨6, a, b, l, s, r⟩ = fineN T 6 l from rfl)
    generalize fineN T 6 l = z at *
    clear hW1 hb1 hA HO h hk ha hb hl hs hr la ll ls lr
    go_enter Tryz.func31, Tryz.ntmps31
    go_upto_region 1 with fail
    rw [HW1.out]
    go_wp2_with (go_at_call 72; (with_reducible refine (F6.out _ (by assumption)).mono ?_); rintro e w5 ⟨rfl, hb5⟩)
    go_ret
    exact ⟨ret_bool HM.out.symm, HB.out _ hb5⟩
  · have e6 : (k == 6) = false := by rw [beq_eq_false_iff_ne]; exact h6
    by_cases h7 : k = 7
    · subst h7
      have F7 := Lib.hid (fun w5 (hb : Below W1.heap.size W1 w5) => (final_any T M 7 a l w5 (by decide) la ll (HO.below hb)).mono (R' := fun e w'' => e = .returned (.bool (finalN T 7 a l)) ∧ Below W1.heap.size W1 w'') fun e w'' ⟨p, q⟩ => ⟨p, hb.trans (q.mono hb.size)⟩)
      have HM := Lib.hid (show endsN T ⟨7, a, b, l, s, r⟩ = finalN T 7 a l from rfl)
      generalize finalN T 7 a l = z at *
      clear hW1 hb1 hA HO h hk ha hb hl hs hr la ll ls lr h6
      go_enter Tryz.func31, Tryz.ntmps31
      go_upto_region 1 with fail
      rw [HW1.out]
      go_wp2_with (go_at_call 73; (with_reducible refine (F7.out _ (by assumption)).mono ?_); rintro e w5 ⟨rfl, hb5⟩)
      go_ret
      exact ⟨ret_bool HM.out.symm, HB.out _ hb5⟩
    · have e7 : (k == 7) = false := by rw [beq_eq_false_iff_ne]; exact h7
      have F3 := Lib.hid (fun w5 (hb : Below W1.heap.size W1 w5) => (fine_any T M 3 l w5 (by decide) ll (HO.below hb)).mono (R' := fun e w'' => e = .returned (.bool (fineN T 3 l)) ∧ Below W1.heap.size W1 w'') fun e w'' ⟨p, q⟩ => ⟨p, hb.trans (q.mono hb.size)⟩)
      have F4 := Lib.hid (fun w5 (hb : Below W1.heap.size W1 w5) => (fine_any T M 4 s w5 (by decide) ls (HO.below hb)).mono (R' := fun e w'' => e = .returned (.bool (fineN T 4 s)) ∧ Below W1.heap.size W1 w'') fun e w'' ⟨p, q⟩ => ⟨p, hb.trans (q.mono hb.size)⟩)
      have F5 := Lib.hid (fun w5 (hb : Below W1.heap.size W1 w5) => (fine_any T M 5 r w5 (by decide) lr (HO.below hb)).mono (R' := fun e w'' => e = .returned (.bool (fineN T 5 r)) ∧ Below W1.heap.size W1 w'') fun e w'' ⟨p, q⟩ => ⟨p, hb.trans (q.mono hb.size)⟩)
      have HM := Lib.hid (show endsN T ⟨k, a, b, l, s, r⟩ = (fineN T 3 l && (fineN T 4 s && fineN T 5 r)) by unfold endsN; rw [if_neg h6, if_neg h7])
      generalize fineN T 3 l = z3 at *
      generalize fineN T 4 s = z4 at *
      generalize fineN T 5 r = z5 at *
      clear hW1 hb1 hA HO h hk ha hb hl hs hr la ll ls lr h6 h7
      cases z3 with
      | false =>
        go_enter Tryz.func31, Tryz.ntmps31
        go_upto_region 1 with fail
        rw [HW1.out]
        go_wp2_with (go_at_call 72; (with_reducible refine (F3.out _ (by assumption)).mono ?_); rintro e w5 ⟨rfl, hb5⟩; obtain ⟨c0, c1, c2, c3, c4, c5⟩ := HC.out _ hb5)
        go_ret
        exact ⟨ret_bool HM.out.symm, HB.out _ hb5⟩
      | true =>
        cases z4 with
        | false =>
          go_enter Tryz.func31, Tryz.ntmps31
          go_upto_region 1 with fail
          rw [HW1.out]
          go_wp2_with (first
            | (go_at_call 72; (with_reducible refine (F3.out _ (by assumption)).mono ?_); rintro e w5 ⟨rfl, hb5⟩; obtain ⟨c0, c1, c2, c3, c4, c5⟩ := HC.out _ hb5)
            | (go_at_call 72; (with_reducible refine (F4.out _ (by assumption)).mono ?_); rintro e w6 ⟨rfl, hb6⟩; obtain ⟨f0, f1, f2, f3, f4, f5⟩ := HC.out _ hb6))
          go_ret
          exact ⟨ret_bool HM.out.symm, HB.out _ hb6⟩
        | true =>
          go_enter Tryz.func31, Tryz.ntmps31
          go_upto_region 1 with fail
          rw [HW1.out]
          go_wp2_with (first
            | (go_at_call 72; (with_reducible refine (F3.out _ (by assumption)).mono ?_); rintro e w5 ⟨rfl, hb5⟩; obtain ⟨c0, c1, c2, c3, c4, c5⟩ := HC.out _ hb5)
            | (go_at_call 72; (with_reducible refine (F4.out _ (by assumption)).mono ?_); rintro e w6 ⟨rfl, hb6⟩; obtain ⟨f0, f1, f2, f3, f4, f5⟩ := HC.out _ hb6)
            | (go_at_call 72; (with_reducible refine (F5.out _ (by assumption)).mono ?_); rintro e w7 ⟨rfl, hb7⟩))
          go_ret
          exact ⟨ret_bool HM.out.symm, HB.out _ hb7⟩

/-! Rules for whatever is left. -/
theorem eqg3 : Tryz.prog.eqGuardType Tryz.prog.depth 76 = false := by kernel_rfl
set_option maxRecDepth 100000 in
set_option maxHeartbeats 2000000 in
theorem eq_three (a b c x y z : ByteArray) (w : World) : (Op.equalIn 10000 76 (.agg #[.string a, .string b, .string c]) (.agg #[.string x, .string y, .string z])).run Tryz.prog w = .ok (decide ((a, b, c) = (x, y, z))) w := by
  obtain ⟨i0, hi, hz0, hz1, hz2⟩ := info_parts stringInfo
  have hc : Tryz.prog.cellsOf 9 = 1 := by kernel_rfl
  rw [show (10000 : Nat) = 9999 + 1 from rfl, run_equalIn_array w 9999 _ _ Tryz.underlying76 hi, hc, show List.range 3 = [0, 1, 2] from rfl]
  have e1 := same_bool a x
  have e2 := same_bool b y
  have e3 := same_bool c z
  clear hi hz0 hz1 hz2 hc
  by_cases h1 : a = x
  · rw [decide_eq_true h1] at e1
    by_cases h2 : b = y
    · rw [decide_eq_true h2] at e2
      by_cases h3 : c = z
      · rw [decide_eq_true h3] at e3
        have HD := Lib.hid (show decide ((a, b, c) = (x, y, z)) = true by rw [h1, h2, h3]; simp)
        rw [HD.out]
        clear HD h1 h2 h3
        simp only [Op.eqItems]
        go_simp
      · rw [decide_eq_false h3] at e3
        have HD := Lib.hid (show decide ((a, b, c) = (x, y, z)) = false by rw [decide_eq_false_iff_not]; intro h; injection h with _ h; injection h with _ h; exact h3 h)
        rw [HD.out]
        clear HD h1 h2 h3
        simp only [Op.eqItems]
        go_simp
    · rw [decide_eq_false h2] at e2
      have HD := Lib.hid (show decide ((a, b, c) = (x, y, z)) = false by rw [decide_eq_false_iff_not]; intro h; injection h with _ h; injection h with h _; exact h2 h)
      rw [HD.out]
      clear HD h1 h2 e3
      simp only [Op.eqItems]
      go_simp
  · rw [decide_eq_false h1] at e1
    have HD := Lib.hid (show decide ((a, b, c) = (x, y, z)) = false by rw [decide_eq_false_iff_not]; intro h; injection h with h _; exact h1 h)
    rw [HD.out]
    clear HD h1 e2 e3
    simp only [Op.eqItems]
    go_simp
def opP (o : K3) (x : Rl) : Bool := decide ((x.d0, x.d1, x.d2) = o) && decide ((x.s0, x.s1, x.s2) = o)
set_option maxRecDepth 100000 in
set_option maxHeartbeats 2000000 in
theorem open_any (x : Rl) (o1 o2 o3 : ByteArray) (b : Nat) (w : World) (hb : w.heap[b]? = some (.cells #[.string o1, .string o2, .string o3] 76 (0, 0))) :
    Calls Tryz.prog 75 #[.agg #[.int .i64 x.lv, .int .i64 x.co, .bool x.ow, .string x.d0, .string x.d1, .string x.d2, .string x.s0, .string x.s1, .string x.s2], .pointer (some ⟨b, 0, none⟩)] w fun e w' => e = .returned (.bool (opP (o1, o2, o3) x)) ∧ Below w.heap.size w w' := by
  obtain ⟨W1, hW1⟩ : ∃ W1, w.alloc (.cells #[.int .i64 x.lv, .int .i64 x.co, .bool x.ow, .string x.d0, .string x.d1, .string x.d2, .string x.s0, .string x.s1, .string x.s2] 79) = W1 := ⟨_, rfl⟩
  have hb1 : Below w.heap.size w W1 := by rw [← hW1]; exact (Below.refl _ w).alloc (Nat.le_refl _) _
  have hA : W1.heap[w.heap.size]? = some (.cells #[.int .i64 x.lv, .int .i64 x.co, .bool x.ow, .string x.d0, .string x.d1, .string x.d2, .string x.s0, .string x.s1, .string x.s2] 79 (0, 0)) := by rw [← hW1]; exact World.alloc_heap_new w _
  obtain ⟨c0, c1, c2, c3, c4, c5, c6, c7, c8⟩ := cells9Z hA
  obtain ⟨b0, b1, b2⟩ := cells3Z ((hb1.block _ (lt_of_block hb)).trans hb)
  have q1 := fun w => eq_three x.d0 x.d1 x.d2 o1 o2 o3 w
  have q2 := fun w => eq_three x.s0 x.s1 x.s2 o1 o2 o3 w
  have hg := eqg3
  have HM := Lib.hid (show opP (o1, o2, o3) x = (decide ((x.d0, x.d1, x.d2) = (o1, o2, o3)) && decide ((x.s0, x.s1, x.s2) = (o1, o2, o3))) from rfl)
  have HW1 := Lib.hid hW1
  clear hW1 hA hb
  generalize decide ((x.d0, x.d1, x.d2) = (o1, o2, o3)) = z1 at *
  generalize decide ((x.s0, x.s1, x.s2) = (o1, o2, o3)) = z2 at *
  cases z1 with
  | false =>
    go_enter Tryz.func75, Tryz.ntmps75
    go_upto_region 1 with fail
    rw [HW1.out]
    go_wp2_with fail
    go_ret
    exact ⟨ret_bool HM.out.symm, hb1⟩
  | true =>
    go_enter Tryz.func75, Tryz.ntmps75
    go_upto_region 1 with fail
    rw [HW1.out]
    go_wp2_with fail
    go_ret
    exact ⟨ret_bool HM.out.symm, hb1⟩
set_option maxRecDepth 100000 in
set_option maxHeartbeats 4000000 in
theorem idxRule_any (v : Value) (R : List Rl) (o1 o2 o3 : ByteArray) (b : Nat) (w : World) (hv : RowC w v 9 (R.map rlC)) (hl : R.length ≤ 4001) (hb : w.heap[b]? = some (.cells #[.string o1, .string o2, .string o3] 76 (0, 0))) :
    Calls Tryz.prog 96 #[v, .func (.func 75) #[] #[.pointer (some ⟨b, 0, none⟩)]] w fun e w' => ∃ i : Int, e = .returned (.int .i64 i) ∧ decide (0 ≤ i) = R.any (opP (o1, o2, o3)) ∧ Below w.heap.size w w' := by
  obtain ⟨ao, cap, rfl, hc⟩ := hv.openO
  have HC := Lib.hid hc
  have HN := Lib.hid (fun w5 (hB : Below w.heap.size w w5) (x : Rl) => (open_any x o1 o2 o3 b w5 ((hB.block _ (lt_of_block hb)).trans hb)).mono (R' := fun e w'' => e = .returned (.bool (opP (o1, o2, o3) x)) ∧ Below w.heap.size w w'') fun e w'' ⟨p, q⟩ => ⟨p, hB.trans (q.mono hB.size)⟩)
  clear hv hc hb
  go_enter Tryz.func96, Tryz.ntmps96
  go_wp2_with fail
  go_loopw [8] (fun i wr => ∃ k : Nat, k ≤ R.length ∧ i = .int .i64 (k : Int) ∧ (R.take k).any (opP (o1, o2, o3)) = false ∧ Below w.heap.size w wr) (fun i _ => R.length - (intOf i).toNat)
  case atStart => exact ⟨0, Nat.zero_le _, rfl, rfl, Below.refl _ _⟩
  case round =>
    obtain ⟨k, hk, rfl, ha, hB⟩ := hrel
    by_cases hlt : k < R.length
    · have hki : (k : Int) < (R.length : Int) := by omega
      have hk0 : (0 : Int) ≤ (k : Int) := by omega
      obtain ⟨x, hx⟩ : ∃ x, R[k]? = some x := ⟨_, List.getElem?_eq_getElem hlt⟩
      obtain ⟨g, o, rfl, hcc⟩ := HC.out k x hx
      have cw : ∀ j c, (rlC x)[j]? = some c → wr.cell? ⟨g, o + k * 9 + j, none⟩ = some c := fun j c hj => (hB.cell (p := ⟨g, o + k * 9 + j, none⟩) (lt_cellZ (hcc j c hj))).trans (hcc j c hj)
      have e0 := show wr.cell? ⟨g, o + k * 9, none⟩ = some (.int .i64 x.lv) from cw 0 _ rfl
      have e1 := show wr.cell? ⟨g, o + k * 9 + 1, none⟩ = some (.int .i64 x.co) from cw 1 _ rfl
      have e2 := show wr.cell? ⟨g, o + k * 9 + 2, none⟩ = some (.bool x.ow) from cw 2 _ rfl
      have e3 := show wr.cell? ⟨g, o + k * 9 + 3, none⟩ = some (.string x.d0) from cw 3 _ rfl
      have e4 := show wr.cell? ⟨g, o + k * 9 + 4, none⟩ = some (.string x.d1) from cw 4 _ rfl
      have e5 := show wr.cell? ⟨g, o + k * 9 + 5, none⟩ = some (.string x.d2) from cw 5 _ rfl
      have e6 := show wr.cell? ⟨g, o + k * 9 + 6, none⟩ = some (.string x.s0) from cw 6 _ rfl
      have e7 := show wr.cell? ⟨g, o + k * 9 + 7, none⟩ = some (.string x.s1) from cw 7 _ rfl
      have e8 := show wr.cell? ⟨g, o + k * 9 + 8, none⟩ = some (.string x.s2) from cw 8 _ rfl
      have N1 := Lib.hid (HN.out wr hB x)
      have HBr := Lib.hid hB
      have HX := Lib.hid hx
      have HA := Lib.hid (show (R.take (k + 1)).any (opP (o1, o2, o3)) = opP (o1, o2, o3) x by rw [List.take_add_one, hx, List.any_append, ha]; simp)
      clear ha hcc cw hx hB
      cases hpx : opP (o1, o2, o3) x with
      | false =>
        rw [hpx] at N1 HA
        clear hpx
        go_wp2_with (go_at_call 75; (with_reducible refine N1.out.mono ?_); rintro e w5 ⟨rfl, hb5⟩)
        go_roundw
        case rel => exact ⟨k + 1, by omega, by go_num, HA.out, hb5⟩
        case measure => simp [intOf]; omega
      | true =>
        rw [hpx] at N1
        have HF := Lib.hid (show R.any (opP (o1, o2, o3)) = true by rw [List.any_eq_true]; exact ⟨x, List.mem_of_getElem? HX.out, hpx⟩)
        clear hpx
        go_wp2_with (go_at_call 75; (with_reducible refine N1.out.mono ?_); rintro e w5 ⟨rfl, hb5⟩)
        go_ret
        exact ⟨_, rfl, by rw [HF.out, decide_eq_true hk0], hb5⟩
    · obtain rfl : k = R.length := by omega
      have hki : ¬ (R.length : Int) < (R.length : Int) := by omega
      rw [List.take_of_length_le (Nat.le_refl _)] at ha
      have HA := Lib.hid ha
      clear ha
      go_wp2_with fail
      go_ret
      exact ⟨_, rfl, by rw [HA.out]; rfl, hB⟩
set_option maxRecDepth 100000 in
theorem hasRule_any (v : Value) (R : List Rl) (o1 o2 o3 : ByteArray) (b : Nat) (w : World) (hv : RowC w v 9 (R.map rlC)) (hl : R.length ≤ 4001) (hb : w.heap[b]? = some (.cells #[.string o1, .string o2, .string o3] 76 (0, 0))) :
    Calls Tryz.prog 74 #[v, .func (.func 75) #[] #[.pointer (some ⟨b, 0, none⟩)]] w fun e w' => e = .returned (.bool (R.any (opP (o1, o2, o3)))) ∧ Below w.heap.size w w' := by
  have HI := Lib.hid (idxRule_any v R o1 o2 o3 b w hv hl hb)
  obtain ⟨ao, c, rfl, -⟩ := hv.openO
  clear hv hb
  go_enter Tryz.func74, Tryz.ntmps74
  go_wp2_with fail
  refine HI.out.mono ?_
  rintro e w1 ⟨i, rfl, hi, hb1⟩
  obtain ⟨z, hz⟩ : ∃ z, R.any (opP (o1, o2, o3)) = z := ⟨_, rfl⟩
  rw [hz] at hi
  have HBB := Lib.hid hz
  clear hz HI
  cases z with
  | true =>
    have h0 : (0 : Int) ≤ i := of_decide_eq_true hi
    go_wp2_with fail
    go_ret
    exact ⟨by rw [HBB.out]; rfl, hb1⟩
  | false =>
    have h0 : ¬ (0 : Int) ≤ i := of_decide_eq_false hi
    go_wp2_with fail
    go_ret
    exact ⟨by rw [HBB.out]; rfl, hb1⟩
theorem idx9_0 (w : World) : (Instr.index 135 (.agg #[.string { data := #[42] }, .string { data := #[] }, .string { data := #[] }, .string { data := #[42] }, .string { data := #[42] }, .string { data := #[] }, .string { data := #[42] }, .string { data := #[42] }, .string { data := #[42] }]) (.int .i64 0)).run Tryz.prog w = .ok (.agg #[.string { data := #[42] }, .string { data := #[] }, .string { data := #[] }]) w := by kernel_rfl
theorem idx9_1 (w : World) : (Instr.index 135 (.agg #[.string { data := #[42] }, .string { data := #[] }, .string { data := #[] }, .string { data := #[42] }, .string { data := #[42] }, .string { data := #[] }, .string { data := #[42] }, .string { data := #[42] }, .string { data := #[42] }]) (.int .i64 1)).run Tryz.prog w = .ok (.agg #[.string { data := #[42] }, .string { data := #[42] }, .string { data := #[] }]) w := by kernel_rfl
theorem idx9_2 (w : World) : (Instr.index 135 (.agg #[.string { data := #[42] }, .string { data := #[] }, .string { data := #[] }, .string { data := #[42] }, .string { data := #[42] }, .string { data := #[] }, .string { data := #[42] }, .string { data := #[42] }, .string { data := #[42] }]) (.int .i64 2)).run Tryz.prog w = .ok (.agg #[.string { data := #[42] }, .string { data := #[42] }, .string { data := #[42] }]) w := by kernel_rfl
set_option maxRecDepth 100000 in
set_option maxHeartbeats 4000000 in
theorem everyL_any (v : Value) (R : List Rl) (w : World) (hv : RowC w v 9 (R.map rlC)) (hl : R.length ≤ 4001) :
    Calls Tryz.prog 36 #[v] w fun e w' => e = .returned (.bool (everyB R)) ∧ Below w.heap.size w w' := by
  have HV := Lib.hid hv
  obtain ⟨ao, c, rfl, -⟩ := hv.openO
  have HM := Lib.hid (show everyB R = (R.any (opP (STAR, ⟨#[]⟩, ⟨#[]⟩)) && (R.any (opP (STAR, STAR, ⟨#[]⟩)) && R.any (opP (STAR, STAR, STAR)))) from rfl)
  have HE : ∀ (wr : World), Below w.heap.size w wr → ∀ o1 o2 o3 : ByteArray, Calls Tryz.prog 74 #[.slice ao R.length c, .func (.func 75) #[] #[.pointer (some ⟨wr.heap.size, 0, none⟩)]] (wr.alloc (.cells #[.string o1, .string o2, .string o3] 76)) fun e w' => e = .returned (.bool (R.any (opP (o1, o2, o3)))) ∧ Below w.heap.size w w' := fun wr hB o1 o2 o3 => by
    have hb5 : Below w.heap.size w (wr.alloc (.cells #[.string o1, .string o2, .string o3] 76)) := hB.alloc hB.size _
    exact (hasRule_any _ R o1 o2 o3 wr.heap.size _ (HV.out.below hb5) hl (World.alloc_heap_new wr _)).mono fun e w' ⟨p, q⟩ => ⟨p, hb5.trans (q.mono hb5.size)⟩
  have HE := Lib.hid HE
  have hmf : ∀ (fn : Fn) (first cap : Array Value) (w : World), (Instr.makeFunc fn first cap).run Tryz.prog w = .ok (.func fn first cap) w := fun _ _ _ _ => rfl
  have x0 := idx9_0
  have x1 := idx9_1
  have x2 := idx9_2
  clear hv HV
  go_enter Tryz.func36, Tryz.ntmps36
  go_wp2_with fail
  go_loopw [9] (fun i wr => ∃ k : Nat, k ≤ 3 ∧ i = .int .i64 (k : Int) ∧ (0 < k → R.any (opP (STAR, ⟨#[]⟩, ⟨#[]⟩)) = true) ∧ (1 < k → R.any (opP (STAR, STAR, ⟨#[]⟩)) = true) ∧ (2 < k → R.any (opP (STAR, STAR, STAR)) = true) ∧ Below w.heap.size w wr) (fun i _ => 3 - (intOf i).toNat)
  case atStart => exact ⟨0, Nat.zero_le _, rfl, (fun h => absurd h (Nat.lt_irrefl _)), (fun h => by omega), (fun h => by omega), Below.refl _ _⟩
  case round =>
    obtain ⟨k, hk, rfl, p0, p1, p2, hB⟩ := hrel
    have P0 := Lib.hid p0
    have P1 := Lib.hid p1
    have P2 := Lib.hid p2
    clear p0 p1 p2
    rcases (show k = 0 ∨ k = 1 ∨ k = 2 ∨ k = 3 by omega) with rfl | rfl | rfl | rfl
    · have HC := Lib.hid (HE.out wr hB { data := #[42] } { data := #[] } { data := #[] })
      have HZ0 := Lib.hid (show R.any (opP ({ data := #[42] }, { data := #[] }, { data := #[] })) = R.any (opP (STAR, ⟨#[]⟩, ⟨#[]⟩)) from rfl)
      rw [HZ0.out] at HC
      have hlt : ((0 : Nat) : Int) < 3 := by decide
      obtain ⟨z, hz⟩ : ∃ z, R.any (opP (STAR, ⟨#[]⟩, ⟨#[]⟩)) = z := ⟨_, rfl⟩
      rw [hz] at HC
      cases z with
      | false =>
        have HZ := Lib.hid hz
        clear hz hB
        go_wp2_with (go_at_call 74; (with_reducible refine HC.out.mono ?_); rintro e w5 ⟨rfl, hb5⟩)
        go_ret
        exact ⟨ret_bool (by rw [HM.out, HZ.out]; rfl), hb5⟩
      | true =>
        have HZ := Lib.hid hz
        clear hz hB
        go_wp2_with (go_at_call 74; (with_reducible refine HC.out.mono ?_); rintro e w5 ⟨rfl, hb5⟩)
        go_roundw
        case rel => exact ⟨1, by omega, by go_num, (fun _ => HZ.out), (fun h => by omega), (fun h => by omega), hb5⟩
        case measure => simp [intOf]
    · have HC := Lib.hid (HE.out wr hB { data := #[42] } { data := #[42] } { data := #[] })
      have HZ0 := Lib.hid (show R.any (opP ({ data := #[42] }, { data := #[42] }, { data := #[] })) = R.any (opP (STAR, STAR, ⟨#[]⟩)) from rfl)
      rw [HZ0.out] at HC
      have hlt : ((1 : Nat) : Int) < 3 := by decide
      obtain ⟨z, hz⟩ : ∃ z, R.any (opP (STAR, STAR, ⟨#[]⟩)) = z := ⟨_, rfl⟩
      rw [hz] at HC
      cases z with
      | false =>
        have HZ := Lib.hid hz
        clear hz hB
        go_wp2_with (go_at_call 74; (with_reducible refine HC.out.mono ?_); rintro e w5 ⟨rfl, hb5⟩)
        go_ret
        exact ⟨ret_bool (by rw [HM.out, P0.out (by decide), HZ.out]; rfl), hb5⟩
      | true =>
        have HZ := Lib.hid hz
        clear hz hB
        go_wp2_with (go_at_call 74; (with_reducible refine HC.out.mono ?_); rintro e w5 ⟨rfl, hb5⟩)
        go_roundw
        case rel => exact ⟨2, by omega, by go_num, (fun _ => P0.out (by decide)), (fun _ => HZ.out), (fun h => by omega), hb5⟩
        case measure => simp [intOf]
    · have HC := Lib.hid (HE.out wr hB { data := #[42] } { data := #[42] } { data := #[42] })
      have HZ0 := Lib.hid (show R.any (opP ({ data := #[42] }, { data := #[42] }, { data := #[42] })) = R.any (opP (STAR, STAR, STAR)) from rfl)
      rw [HZ0.out] at HC
      have hlt : ((2 : Nat) : Int) < 3 := by decide
      obtain ⟨z, hz⟩ : ∃ z, R.any (opP (STAR, STAR, STAR)) = z := ⟨_, rfl⟩
      rw [hz] at HC
      cases z with
      | false =>
        have HZ := Lib.hid hz
        clear hz hB
        go_wp2_with (go_at_call 74; (with_reducible refine HC.out.mono ?_); rintro e w5 ⟨rfl, hb5⟩)
        go_ret
        exact ⟨ret_bool (by rw [HM.out, P0.out (by decide), P1.out (by decide), HZ.out]; rfl), hb5⟩
      | true =>
        have HZ := Lib.hid hz
        clear hz hB
        go_wp2_with (go_at_call 74; (with_reducible refine HC.out.mono ?_); rintro e w5 ⟨rfl, hb5⟩)
        go_roundw
        case rel => exact ⟨3, by omega, by go_num, (fun _ => P0.out (by decide)), (fun _ => P1.out (by decide)), (fun _ => HZ.out), hb5⟩
        case measure => simp [intOf]
    · have HB := Lib.hid hB
      clear hB
      go_wp2_with fail
      go_ret
      exact ⟨ret_bool (by rw [HM.out, P0.out (by decide), P1.out (by decide), P2.out (by decide)]; rfl), HB.out⟩
end Go.Proofs.YtbafmnafhaoggaaGreatDoor
