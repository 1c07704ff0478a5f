/-
  DataFinds: aliases, and likely rows, are found by what they are of. (Printed by wip/gen_afindlaw.py.)
-/
import Derived.Test.YtohogofehfbjoaaAFinds
import Derived.Deep.RegionHeld3
import Derived.IntWalk
namespace Go.Proofs.Ytohogofehfbjoaa
open Go Go.RowKit

theorem held_shellA {P : Program} {md : Region.Mode} {ops : Array Oper} {S : World → Prop} {R : World → Prop} {Q : Exit → Act → World → Prop} {n : Nat} {l : Array Bool} {a : Act} {w : World} {aF : Act} (h1 : ∀ c (a : Act) d v w, Q (.panic c) (a.put d v) w → Q (.panic c) a w) (h2 : ∀ w, R w → Q .normal aF w)
    (h3 : ∀ K : Exit → Act → World → Prop, (∀ c (a : Act) d v w, K (.panic c) (a.put d v) w → K (.panic c) a w) → (∀ w, R w → K .normal aF w) → wpAnyH P md ops K S n l a w) : wpAnyH P md ops Q S n l a w := h3 Q h1 h2
def rest15V (x : Int) (n : Nat) : Nat := ((x.tmod n + n) % n).toNat
theorem rest15V_lt (x : Int) (n : Nat) (hn : 1 ≤ n) : rest15V x n < n := by
  unfold rest15V
  have h1 := Int.emod_lt_of_pos (x.tmod n + n) (show (0 : Int) < (n : Int) by omega)
  have h2 := Int.emod_nonneg (x.tmod n + n) (show (n : Int) ≠ 0 by omega)
  omega
theorem rest15_num (x : Int) (n : Nat) (hn : 1 ≤ n) (hn2 : n ≤ 100000) : (wrap64 (x.tmod n + n)).tmod n = (rest15V x n : Int) := by
  have h := Int.natAbs_tmod x n
  have hm := Nat.mod_lt x.natAbs (show 0 < n by omega)
  unfold rest15V
  rw [Int.natAbs_natCast] at h
  generalize x.tmod n = z at *
  have hz : z.natAbs < n := by omega
  have hw : wrap64 (z + n) = z + n := IntWalk.wrap64_in _ ⟨by omega, by omega⟩
  rw [hw, Int.tmod_eq_emod_of_nonneg (by omega)]
  have h2 := Int.emod_nonneg (z + n) (show (n : Int) ≠ 0 by omega)
  omega
theorem ret_int15 {a b : Int} (h : a = b) : Ending.returned (.int .i64 a) = .returned (.int .i64 b) := by rw [h]
theorem ret_str15 {a b : ByteArray} (h : a = b) : Ending.returned (.string a) = .returned (.string b) := by rw [h]
set_option maxRecDepth 100000 in
theorem rest15_any (x : Int) (n : Nat) (w : World) (hn : 1 ≤ n) (hn2 : n ≤ 100000) :
    Calls Try.prog 7 #[.int .i64 x, .int .i64 (n : Int)] w fun e w' => e = .returned (.int .i64 (rest15V x n : Int)) ∧ w' = w := by
  have HE := Lib.hid (rest15_num x n hn hn2)
  have h0 : ((n : Int) == 0) = false := by rw [beq_eq_false_iff_ne]; omega
  have h1 : (n : Int) ≠ 0 := by omega
  clear hn hn2
  generalize (n : Int) = m at *
  go_enter Try.func7, Try.ntmps7
  go_wp2
  go_ret
  exact ⟨ret_int15 HE.out, rfl⟩
def cut15 (s : ByteArray) : ByteArray := if 10 < s.size then s.extract 0 10 else s
set_option maxRecDepth 100000 in
theorem short15_any (s : ByteArray) (w : World) (hs : s.size ≤ maxLen) :
    Calls Try.prog 11 #[.string s] w fun e w' => e = .returned (.string (cut15 s)) ∧ w' = w := by
  unfold maxLen at hs
  by_cases h : 10 < s.size
  · have HE := Lib.hid (show cut15 s = s.extract 0 10 by unfold cut15; rw [if_pos h])
    have h' : (10 : Int) < (s.size : Int) := by omega
    have h'' : (10 : Int) ≤ (s.size : Int) := by omega
    clear h
    go_enter Try.func11, Try.ntmps11
    go_wp2
    go_ret
    exact ⟨ret_str15 HE.out.symm, rfl⟩
  · have HE := Lib.hid (show cut15 s = s by unfold cut15; rw [if_neg h])
    have h' : ¬ (10 : Int) < (s.size : Int) := by omega
    clear h
    go_enter Try.func11, Try.ntmps11
    go_wp2
    go_ret
    exact ⟨ret_str15 HE.out.symm, rfl⟩
theorem pA_self (x : Ax) : pA x.k x.a x.b x = true := by unfold pA; simp
theorem pL_self (x : Lx) : pL x.l x.s x.r x = true := by unfold pL; simp
set_option maxRecDepth 100000 in
set_option maxHeartbeats 16000000 in
theorem dataFinds_law (k : Int) (q0 q1 q2 : ByteArray) (n : Int) (w : World) (hq0 : q0.size ≤ maxLen) (hq1 : q1.size ≤ maxLen) (hq2 : q2.size ≤ maxLen) :
    Calls Try.prog 3 #[.int .i64 k, .agg #[.string q0, .string q1, .string q2], .int .i64 n] w fun e w' => e = .returned (.bool true) ∧ Below w.heap.size w w' := by
  obtain ⟨W1, hW1⟩ : ∃ W1, w.alloc (.cells #[.string q0, .string q1, .string q2] 22) = W1 := ⟨_, rfl⟩
  have hb1 : Below w.heap.size w W1 := by rw [← hW1]; exact (Below.refl _ w).alloc (Nat.le_refl _) _
  have hQ1 : W1.heap[w.heap.size]? = some (.cells #[.string q0, .string q1, .string q2] 22 (0, 0)) := by rw [← hW1]; exact World.alloc_heap_new w _
  have HAW := Lib.hid (awake15_any W1)
  have HIM := Lib.hid (fun w' => imageR_15 w')
  have HW1 := Lib.hid hW1
  obtain ⟨ra, hra⟩ : ∃ r, rest15V n 54 = r := ⟨_, rfl⟩
  obtain ⟨rl, hrl⟩ : ∃ r, rest15V n 32 = r := ⟨_, rfl⟩
  have hra54 : ra < 54 := by rw [← hra]; exact rest15V_lt n 54 (by decide)
  have hrl32 : rl < 32 := by rw [← hrl]; exact rest15V_lt n 32 (by decide)
  obtain ⟨x, hx⟩ : ∃ x, als15[ra]? = some x := ⟨_, List.getElem?_eq_getElem (by rw [len_als15]; exact hra54)⟩
  obtain ⟨y, hy⟩ : ∃ y, lks15[rl]? = some y := ⟨_, List.getElem?_eq_getElem (by rw [len_lks15]; exact hrl32)⟩
  have HR54 := Lib.hid (fun w' => show Calls Try.prog 7 #[.int .i64 n, .int .i64 54] w' (fun e w'' => e = .returned (.int .i64 (ra : Int)) ∧ w'' = w') from hra ▸ rest15_any n 54 w' (by decide) (by decide))
  have HR32 := Lib.hid (fun w' => show Calls Try.prog 7 #[.int .i64 n, .int .i64 32] w' (fun e w'' => e = .returned (.int .i64 (rl : Int)) ∧ w'' = w') from hrl ▸ rest15_any n 32 w' (by decide) (by decide))
  have HFX := Lib.hid (fun w' => (Find_15 x.k x.a x.b w').mono (R' := fun e w'' => e = .returned (.tuple #[.agg #[.int .i64 x.k, .string x.a, .string x.b, .string x.l, .string x.s, .string x.r], .bool true]) ∧ Below w'.heap.size w' w'') fun e w'' ⟨p, q⟩ => ⟨by rw [p, findA15 (List.mem_of_getElem? hx) (pA_self x)]; rfl, q⟩)
  have HFY := Lib.hid (fun w' => (Likely_15 y.l y.s y.r w').mono (R' := fun e w'' => e = .returned (.tuple #[.agg #[.string y.l, .string y.s, .string y.r, .string y.tl, .string y.ts, .string y.tr], .bool true]) ∧ Below w'.heap.size w' w'') fun e w'' ⟨p, q⟩ => ⟨by rw [p, findL15 (List.mem_of_getElem? hy) (pL_self y)]; rfl, q⟩)
  have HS0 := Lib.hid (fun w' => short15_any q0 w' hq0)
  have HS1 := Lib.hid (fun w' => short15_any q1 w' hq1)
  have HS2 := Lib.hid (fun w' => short15_any q2 w' hq2)
  have HX := Lib.hid hx
  have HY := Lib.hid hy
  have hia0 : (0 : Int) ≤ (ra : Int) := by omega
  have hia1 : (ra : Int) < 54 := by omega
  have hil0 : (0 : Int) ≤ (rl : Int) := by omega
  have hil1 : (rl : Int) < 32 := by omega
  have eqA := eqgA
  have eqL := eqgL
  have hqlt := lt_of_block hQ1
  have HB1 := Lib.hid hb1
  have HQ1 := Lib.hid hQ1
  clear hW1 hra hrl hx hy hq0 hq1 hq2 hb1 hQ1
  go_enter Try.func3, Try.ntmps3
  go_upto_region 1 with fail
  try rw [HW1.out]
  go_upto_region 3 with (first
    | (go_at_call 5; (with_reducible refine HAW.out.mono ?_); rintro e w2 ⟨rfl, hb2⟩)
    | (go_at_call 6; (with_reducible refine (HIM.out _).mono ?_); rintro e w3 ⟨g1, g2, g3, g4, rfl, hi3, hb3⟩))
  obtain ⟨W3, hW3⟩ : ∃ W3, w3.alloc (.cells #[.slice (some ⟨g1, 0, none⟩) 54 54, .slice (some ⟨g2, 0, none⟩) 32 32, .slice (some ⟨g3, 0, none⟩) 15 15, .slice (some ⟨g4, 0, none⟩) 7 7, .int .i64 40, .int .i64 5] 29) = W3 := ⟨_, rfl⟩
  have hb13 : Below W1.heap.size W1 W3 := by rw [← hW3]; exact (hb2.trans (hb3.mono hb2.size)).alloc (Nat.le_trans hb2.size hb3.size) _
  have hI3 : W3.heap[w3.heap.size]? = some (.cells #[.slice (some ⟨g1, 0, none⟩) 54 54, .slice (some ⟨g2, 0, none⟩) 32 32, .slice (some ⟨g3, 0, none⟩) 15 15, .slice (some ⟨g4, 0, none⟩) 7 7, .int .i64 40, .int .i64 5] 29 (0, 0)) := by rw [← hW3]; exact World.alloc_heap_new w3 _
  have hM3 : Im15 W3 w2.heap.size g1 g2 g3 g4 := by rw [← hW3]; exact hi3.below ((Below.refl _ w3).alloc (Nat.le_refl _) _)
  rw [hW3]
  generalize w3.heap.size = I at *
  generalize w2.heap.size = b0 at *
  have hQ3 := (hb13.block _ hqlt).trans HQ1.out
  have HB3 := Lib.hid (HB1.out.trans (hb13.mono HB1.out.size))
  have HI3 := Lib.hid hI3
  have HM3 := Lib.hid hM3
  have HQ3 := Lib.hid hQ3
  clear hW3 hi3 hb2 hb3 hb13 hI3 hM3 hQ3 HAW HIM HW1 hqlt HB1 HQ1
  have HC := Lib.hid (fun w' (h : Below W3.heap.size W3 w') => show Below W3.heap.size W3 w' ∧ w'.cell? ⟨I, 0, none⟩ = some (.slice (some ⟨g1, 0, none⟩) 54 54) ∧ w'.cell? ⟨g1, ra * 6, none⟩ = some (.int .i64 x.k) ∧ w'.cell? ⟨g1, ra * 6 + 1, none⟩ = some (.string x.a) ∧ w'.cell? ⟨g1, ra * 6 + 2, none⟩ = some (.string x.b) ∧ w'.cell? ⟨g1, ra * 6 + 3, none⟩ = some (.string x.l) ∧ w'.cell? ⟨g1, ra * 6 + 4, none⟩ = some (.string x.s) ∧ w'.cell? ⟨g1, ra * 6 + 5, none⟩ = some (.string x.r) from ⟨h, cellA (cs := [_, _, _, _, _, _]) ((h.block _ (lt_of_block HI3.out)).trans HI3.out) rfl, cellA ((HM3.out.below h).a) (flatA (sz := 6) (fun _ => rfl) HX.out (j := 0) rfl), cellA ((HM3.out.below h).a) (flatA (sz := 6) (fun _ => rfl) HX.out (j := 1) rfl), cellA ((HM3.out.below h).a) (flatA (sz := 6) (fun _ => rfl) HX.out (j := 2) rfl), cellA ((HM3.out.below h).a) (flatA (sz := 6) (fun _ => rfl) HX.out (j := 3) rfl), cellA ((HM3.out.below h).a) (flatA (sz := 6) (fun _ => rfl) HX.out (j := 4) rfl), cellA ((HM3.out.below h).a) (flatA (sz := 6) (fun _ => rfl) HX.out (j := 5) rfl)⟩)
  have HRT := Lib.hid HR54.out
  refine wp_region_held_drew (S := fun w' => Below W3.heap.size W3 w' ∧ w'.cell? ⟨I, 0, none⟩ = some (.slice (some ⟨g1, 0, none⟩) 54 54) ∧ w'.cell? ⟨g1, ra * 6, none⟩ = some (.int .i64 x.k) ∧ w'.cell? ⟨g1, ra * 6 + 1, none⟩ = some (.string x.a) ∧ w'.cell? ⟨g1, ra * 6 + 2, none⟩ = some (.string x.b) ∧ w'.cell? ⟨g1, ra * 6 + 3, none⟩ = some (.string x.l) ∧ w'.cell? ⟨g1, ra * 6 + 4, none⟩ = some (.string x.s) ∧ w'.cell? ⟨g1, ra * 6 + 5, none⟩ = some (.string x.r)) (by kernel_rfl) (HC.out _ (Below.drew (Below.refl _ _))) (fun hHeld => ?_)
  apply held_shellA (R := fun w' => Below W3.heap.size W3 w' ∧ w'.heap[W3.heap.size]? = some (.cells #[.int .i64 x.k, .string x.a, .string x.b, .string x.l, .string x.s, .string x.r] 32 (0, 0)))
  exact fun _ _ d _ _ h => by cases d <;> exact h
  rotate_left 1
  · intro KK hKp hfin
    refine wpAnyH_take (i := 0) (v := .pointer (some ⟨I, 0, none⟩)) rfl (by kernel_rfl) (by kernel_rfl) (by kernel_rfl) (fun c a w h => hKp c a _ _ w h) (Or.inl ⟨by kernel_rfl, fun w hSw => by dsimp only at hSw; obtain ⟨-, s0, d0, d1, d2, d3, d4, d5⟩ := hSw; go_simp⟩) (by assumption) ?_
    simp only [Act.put, List.getElem_toArray, List.getElem_cons_zero, List.setIfInBounds_toArray, List.set_cons_zero, List.set_cons_succ]
    refine wpAnyH_take (i := 1) (v := .slice (some ⟨g1, 0, none⟩) 54 54) rfl (by kernel_rfl) (by kernel_rfl) (by kernel_rfl) (fun c a w h => hKp c a _ _ w h) (Or.inl ⟨by kernel_rfl, fun w hSw => by dsimp only at hSw; obtain ⟨-, s0, d0, d1, d2, d3, d4, d5⟩ := hSw; go_simp⟩) (by assumption) ?_
    simp only [Act.put, List.getElem_toArray, List.getElem_cons_zero, List.getElem_cons_succ, List.setIfInBounds_toArray, List.set_cons_zero, List.set_cons_succ]
    refine wpAnyH_take (i := 2) (v := .int .i64 n) rfl (by kernel_rfl) (by kernel_rfl) (by kernel_rfl) (fun c a w h => hKp c a _ _ w h) (Or.inl ⟨by kernel_rfl, fun w hSw => by dsimp only at hSw; obtain ⟨-, s0, d0, d1, d2, d3, d4, d5⟩ := hSw; go_simp⟩) (by assumption) ?_
    simp only [Act.put, List.getElem_toArray, List.getElem_cons_zero, List.getElem_cons_succ, List.setIfInBounds_toArray, List.set_cons_zero, List.set_cons_succ]
    refine wpAnyH_take (i := 3) (v := .pointer (some ⟨I, 0, none⟩)) rfl (by kernel_rfl) (by kernel_rfl) (by kernel_rfl) (fun c a w h => hKp c a _ _ w h) (Or.inl ⟨by kernel_rfl, fun w hSw => by dsimp only at hSw; obtain ⟨-, s0, d0, d1, d2, d3, d4, d5⟩ := hSw; go_simp⟩) (by assumption) ?_
    simp only [Act.put, List.getElem_toArray, List.getElem_cons_zero, List.getElem_cons_succ, List.setIfInBounds_toArray, List.set_cons_zero, List.set_cons_succ]
    refine wpAnyH_take (i := 4) (v := .slice (some ⟨g1, 0, none⟩) 54 54) rfl (by kernel_rfl) (by kernel_rfl) (by kernel_rfl) (fun c a w h => hKp c a _ _ w h) (Or.inl ⟨by kernel_rfl, fun w hSw => by dsimp only at hSw; obtain ⟨-, s0, d0, d1, d2, d3, d4, d5⟩ := hSw; go_simp⟩) (by assumption) ?_
    simp only [Act.put, List.getElem_toArray, List.getElem_cons_zero, List.getElem_cons_succ, List.setIfInBounds_toArray, List.set_cons_zero, List.set_cons_succ]
    refine wpAnyH_take (i := 5) (v := .int .i64 54) rfl (by kernel_rfl) (by kernel_rfl) (by kernel_rfl) (fun c a w h => hKp c a _ _ w h) (Or.inl ⟨by kernel_rfl, fun w hSw => by dsimp only at hSw; obtain ⟨-, s0, d0, d1, d2, d3, d4, d5⟩ := hSw; go_simp⟩) (by assumption) ?_
    simp only [Act.put, List.getElem_toArray, List.getElem_cons_zero, List.getElem_cons_succ, List.setIfInBounds_toArray, List.set_cons_zero, List.set_cons_succ]
    refine wpAnyH_ready (rs := [6, 9]) (by kernel_rfl) (by simp) ?_
    refine AllReadyH.cons rfl (fun Kx hKx => ?_) (AllReadyH.cons rfl (fun Kx hKx => ?_) AllReadyH.nil)
    · try rw [if_pos (by kernel_rfl)]
      go_simp
      refine (HRT.out _).mono ?_
      rintro e w5 ⟨rfl, rfl⟩
      refine hKx.out _ _ (HC.out _ (Below.drew (Below.refl _ _))) (fun hHeld => ?_)
      clear hKx Kx
      try simp only [Act.put, List.getElem_toArray, List.getElem_cons_zero, List.getElem_cons_succ, List.setIfInBounds_toArray, List.set_cons_zero, List.set_cons_succ]
      refine wpAnyH_take (i := 7) (v := .pointer (some ⟨g1, ra * 6, none⟩)) rfl (by kernel_rfl) (by kernel_rfl) (by kernel_rfl) (fun c a w h => hKp c a _ _ w h) (Or.inl ⟨by kernel_rfl, fun w hSw => by dsimp only at hSw; obtain ⟨-, s0, d0, d1, d2, d3, d4, d5⟩ := hSw; go_simp⟩) (by assumption) ?_
      simp only [Act.put, List.getElem_toArray, List.getElem_cons_zero, List.getElem_cons_succ, List.setIfInBounds_toArray, List.set_cons_zero, List.set_cons_succ]
      refine wpAnyH_take (i := 8) (v := .agg #[.int .i64 x.k, .string x.a, .string x.b, .string x.l, .string x.s, .string x.r]) rfl (by kernel_rfl) (by kernel_rfl) (by kernel_rfl) (fun c a w h => hKp c a _ _ w h) (Or.inl ⟨by kernel_rfl, fun w hSw => by dsimp only at hSw; obtain ⟨-, s0, d0, d1, d2, d3, d4, d5⟩ := hSw; go_simp⟩) (by assumption) ?_
      simp only [Act.put, List.getElem_toArray, List.getElem_cons_zero, List.getElem_cons_succ, List.setIfInBounds_toArray, List.set_cons_zero, List.set_cons_succ]
      refine wpAnyH_ready (rs := [9]) (by kernel_rfl) (by simp) ?_
      refine AllReadyH.cons rfl (fun Kx hKx => ?_) AllReadyH.nil
      try rw [if_pos (by kernel_rfl)]
      go_simp
      refine hKx.out _ _ (HC.out _ ((Below.drew (Below.refl _ _)).alloc (Nat.le_refl _) _)) (fun hHeld => ?_)
      clear hKx Kx
      try simp only [Act.put, List.getElem_toArray, List.getElem_cons_zero, List.getElem_cons_succ, List.setIfInBounds_toArray, List.set_cons_zero, List.set_cons_succ]
      refine wpAnyH_ready (rs := [10]) (by kernel_rfl) (by simp) ?_
      refine AllReadyH.cons rfl (fun Kx hKx => ?_) AllReadyH.nil
      try rw [if_pos (by kernel_rfl)]
      go_simp
      refine hKx.out _ _ (HC.out _ ((Below.drew (Below.refl _ _)).alloc (Nat.le_refl _) _)) (fun hHeld => ?_)
      clear hKx Kx
      try simp only [Act.put, List.getElem_toArray, List.getElem_cons_zero, List.getElem_cons_succ, List.setIfInBounds_toArray, List.set_cons_zero, List.set_cons_succ]
      refine wpAnyH_done (by kernel_rfl) ?_ _
      exact hfin _ ⟨hHeld.1, World.alloc_heap_new _ _⟩
    · try rw [if_pos (by kernel_rfl)]
      go_simp
      refine hKx.out _ _ (HC.out _ ((Below.drew (Below.refl _ _)).alloc (Nat.le_refl _) _)) (fun hHeld => ?_)
      clear hKx Kx
      try simp only [Act.put, List.getElem_toArray, List.getElem_cons_zero, List.getElem_cons_succ, List.setIfInBounds_toArray, List.set_cons_zero, List.set_cons_succ]
      refine wpAnyH_ready (rs := [6]) (by kernel_rfl) (by simp) ?_
      refine AllReadyH.cons rfl (fun Kx hKx => ?_) AllReadyH.nil
      try rw [if_pos (by kernel_rfl)]
      go_simp
      refine (HRT.out _).mono ?_
      rintro e w5 ⟨rfl, rfl⟩
      refine hKx.out _ _ (HC.out _ ((Below.drew (Below.refl _ _)).alloc (Nat.le_refl _) _)) (fun hHeld => ?_)
      clear hKx Kx
      try simp only [Act.put, List.getElem_toArray, List.getElem_cons_zero, List.getElem_cons_succ, List.setIfInBounds_toArray, List.set_cons_zero, List.set_cons_succ]
      refine wpAnyH_take (i := 7) (v := .pointer (some ⟨g1, ra * 6, none⟩)) rfl (by kernel_rfl) (by kernel_rfl) (by kernel_rfl) (fun c a w h => hKp c a _ _ w h) (Or.inl ⟨by kernel_rfl, fun w hSw => by dsimp only at hSw; obtain ⟨-, s0, d0, d1, d2, d3, d4, d5⟩ := hSw; go_simp⟩) (by assumption) ?_
      simp only [Act.put, List.getElem_toArray, List.getElem_cons_zero, List.getElem_cons_succ, List.setIfInBounds_toArray, List.set_cons_zero, List.set_cons_succ]
      refine wpAnyH_take (i := 8) (v := .agg #[.int .i64 x.k, .string x.a, .string x.b, .string x.l, .string x.s, .string x.r]) rfl (by kernel_rfl) (by kernel_rfl) (by kernel_rfl) (fun c a w h => hKp c a _ _ w h) (Or.inl ⟨by kernel_rfl, fun w hSw => by dsimp only at hSw; obtain ⟨-, s0, d0, d1, d2, d3, d4, d5⟩ := hSw; go_simp⟩) (by assumption) ?_
      simp only [Act.put, List.getElem_toArray, List.getElem_cons_zero, List.getElem_cons_succ, List.setIfInBounds_toArray, List.set_cons_zero, List.set_cons_succ]
      refine wpAnyH_ready (rs := [10]) (by kernel_rfl) (by simp) ?_
      refine AllReadyH.cons rfl (fun Kx hKx => ?_) AllReadyH.nil
      try rw [if_pos (by kernel_rfl)]
      go_simp
      refine hKx.out _ _ (HC.out _ ((Below.drew (Below.refl _ _)).alloc (Nat.le_refl _) _)) (fun hHeld => ?_)
      clear hKx Kx
      try simp only [Act.put, List.getElem_toArray, List.getElem_cons_zero, List.getElem_cons_succ, List.setIfInBounds_toArray, List.set_cons_zero, List.set_cons_succ]
      refine wpAnyH_done (by kernel_rfl) ?_ _
      exact hfin _ ⟨hHeld.1, World.alloc_heap_new _ _⟩
  rintro W4 ⟨hb4, hz4⟩
  have HI4 := Lib.hid ((hb4.block _ (lt_of_block HI3.out)).trans HI3.out)
  have HM4 := Lib.hid (HM3.out.below hb4)
  have HQ4 := Lib.hid ((hb4.block _ (lt_of_block HQ3.out)).trans HQ3.out)
  have HB4 := Lib.hid (HB3.out.trans (hb4.mono HB3.out.size))
  have HZ4 := Lib.hid hz4
  clear hb4 hz4 HC HRT HI3 HM3 HQ3 HB3 HR54
  generalize W3.heap.size = A at *
  have HC := Lib.hid (fun w' (h : Below W4.heap.size W4 w') => show Below W4.heap.size W4 w' ∧ w'.cell? ⟨I, 1, none⟩ = some (.slice (some ⟨g2, 0, none⟩) 32 32) ∧ w'.cell? ⟨g2, rl * 6, none⟩ = some (.string y.l) ∧ w'.cell? ⟨g2, rl * 6 + 1, none⟩ = some (.string y.s) ∧ w'.cell? ⟨g2, rl * 6 + 2, none⟩ = some (.string y.r) ∧ w'.cell? ⟨g2, rl * 6 + 3, none⟩ = some (.string y.tl) ∧ w'.cell? ⟨g2, rl * 6 + 4, none⟩ = some (.string y.ts) ∧ w'.cell? ⟨g2, rl * 6 + 5, none⟩ = some (.string y.tr) from ⟨h, cellA (cs := [_, _, _, _, _, _]) ((h.block _ (lt_of_block HI4.out)).trans HI4.out) rfl, cellA ((HM4.out.below h).l) (flatA (sz := 6) (fun _ => rfl) HY.out (j := 0) rfl), cellA ((HM4.out.below h).l) (flatA (sz := 6) (fun _ => rfl) HY.out (j := 1) rfl), cellA ((HM4.out.below h).l) (flatA (sz := 6) (fun _ => rfl) HY.out (j := 2) rfl), cellA ((HM4.out.below h).l) (flatA (sz := 6) (fun _ => rfl) HY.out (j := 3) rfl), cellA ((HM4.out.below h).l) (flatA (sz := 6) (fun _ => rfl) HY.out (j := 4) rfl), cellA ((HM4.out.below h).l) (flatA (sz := 6) (fun _ => rfl) HY.out (j := 5) rfl)⟩)
  have HRT := Lib.hid HR32.out
  go_upto_region 4 with fail
  refine wp_region_held_drew (S := fun w' => Below W4.heap.size W4 w' ∧ w'.cell? ⟨I, 1, none⟩ = some (.slice (some ⟨g2, 0, none⟩) 32 32) ∧ w'.cell? ⟨g2, rl * 6, none⟩ = some (.string y.l) ∧ w'.cell? ⟨g2, rl * 6 + 1, none⟩ = some (.string y.s) ∧ w'.cell? ⟨g2, rl * 6 + 2, none⟩ = some (.string y.r) ∧ w'.cell? ⟨g2, rl * 6 + 3, none⟩ = some (.string y.tl) ∧ w'.cell? ⟨g2, rl * 6 + 4, none⟩ = some (.string y.ts) ∧ w'.cell? ⟨g2, rl * 6 + 5, none⟩ = some (.string y.tr)) (by kernel_rfl) (HC.out _ (Below.drew (Below.refl _ _))) (fun hHeld => ?_)
  apply held_shellA (R := fun w' => Below W4.heap.size W4 w' ∧ w'.heap[W4.heap.size]? = some (.cells #[.string y.l, .string y.s, .string y.r, .string y.tl, .string y.ts, .string y.tr] 35 (0, 0)))
  exact fun _ _ d _ _ h => by cases d <;> exact h
  rotate_left 1
  · intro KK hKp hfin
    refine wpAnyH_take (i := 0) (v := .pointer (some ⟨I, 1, none⟩)) rfl (by kernel_rfl) (by kernel_rfl) (by kernel_rfl) (fun c a w h => hKp c a _ _ w h) (Or.inl ⟨by kernel_rfl, fun w hSw => by dsimp only at hSw; obtain ⟨-, s0, d0, d1, d2, d3, d4, d5⟩ := hSw; go_simp⟩) (by assumption) ?_
    simp only [Act.put, List.getElem_toArray, List.getElem_cons_zero, List.setIfInBounds_toArray, List.set_cons_zero, List.set_cons_succ]
    refine wpAnyH_take (i := 1) (v := .slice (some ⟨g2, 0, none⟩) 32 32) rfl (by kernel_rfl) (by kernel_rfl) (by kernel_rfl) (fun c a w h => hKp c a _ _ w h) (Or.inl ⟨by kernel_rfl, fun w hSw => by dsimp only at hSw; obtain ⟨-, s0, d0, d1, d2, d3, d4, d5⟩ := hSw; go_simp⟩) (by assumption) ?_
    simp only [Act.put, List.getElem_toArray, List.getElem_cons_zero, List.getElem_cons_succ, List.setIfInBounds_toArray, List.set_cons_zero, List.set_cons_succ]
    refine wpAnyH_take (i := 2) (v := .int .i64 n) rfl (by kernel_rfl) (by kernel_rfl) (by kernel_rfl) (fun c a w h => hKp c a _ _ w h) (Or.inl ⟨by kernel_rfl, fun w hSw => by dsimp only at hSw; obtain ⟨-, s0, d0, d1, d2, d3, d4, d5⟩ := hSw; go_simp⟩) (by assumption) ?_
    simp only [Act.put, List.getElem_toArray, List.getElem_cons_zero, List.getElem_cons_succ, List.setIfInBounds_toArray, List.set_cons_zero, List.set_cons_succ]
    refine wpAnyH_take (i := 3) (v := .pointer (some ⟨I, 1, none⟩)) rfl (by kernel_rfl) (by kernel_rfl) (by kernel_rfl) (fun c a w h => hKp c a _ _ w h) (Or.inl ⟨by kernel_rfl, fun w hSw => by dsimp only at hSw; obtain ⟨-, s0, d0, d1, d2, d3, d4, d5⟩ := hSw; go_simp⟩) (by assumption) ?_
    simp only [Act.put, List.getElem_toArray, List.getElem_cons_zero, List.getElem_cons_succ, List.setIfInBounds_toArray, List.set_cons_zero, List.set_cons_succ]
    refine wpAnyH_take (i := 4) (v := .slice (some ⟨g2, 0, none⟩) 32 32) rfl (by kernel_rfl) (by kernel_rfl) (by kernel_rfl) (fun c a w h => hKp c a _ _ w h) (Or.inl ⟨by kernel_rfl, fun w hSw => by dsimp only at hSw; obtain ⟨-, s0, d0, d1, d2, d3, d4, d5⟩ := hSw; go_simp⟩) (by assumption) ?_
    simp only [Act.put, List.getElem_toArray, List.getElem_cons_zero, List.getElem_cons_succ, List.setIfInBounds_toArray, List.set_cons_zero, List.set_cons_succ]
    refine wpAnyH_take (i := 5) (v := .int .i64 32) rfl (by kernel_rfl) (by kernel_rfl) (by kernel_rfl) (fun c a w h => hKp c a _ _ w h) (Or.inl ⟨by kernel_rfl, fun w hSw => by dsimp only at hSw; obtain ⟨-, s0, d0, d1, d2, d3, d4, d5⟩ := hSw; go_simp⟩) (by assumption) ?_
    simp only [Act.put, List.getElem_toArray, List.getElem_cons_zero, List.getElem_cons_succ, List.setIfInBounds_toArray, List.set_cons_zero, List.set_cons_succ]
    refine wpAnyH_ready (rs := [6, 9]) (by kernel_rfl) (by simp) ?_
    refine AllReadyH.cons rfl (fun Kx hKx => ?_) (AllReadyH.cons rfl (fun Kx hKx => ?_) AllReadyH.nil)
    · try rw [if_pos (by kernel_rfl)]
      go_simp
      refine (HRT.out _).mono ?_
      rintro e w5 ⟨rfl, rfl⟩
      refine hKx.out _ _ (HC.out _ (Below.drew (Below.refl _ _))) (fun hHeld => ?_)
      clear hKx Kx
      try simp only [Act.put, List.getElem_toArray, List.getElem_cons_zero, List.getElem_cons_succ, List.setIfInBounds_toArray, List.set_cons_zero, List.set_cons_succ]
      refine wpAnyH_take (i := 7) (v := .pointer (some ⟨g2, rl * 6, none⟩)) rfl (by kernel_rfl) (by kernel_rfl) (by kernel_rfl) (fun c a w h => hKp c a _ _ w h) (Or.inl ⟨by kernel_rfl, fun w hSw => by dsimp only at hSw; obtain ⟨-, s0, d0, d1, d2, d3, d4, d5⟩ := hSw; go_simp⟩) (by assumption) ?_
      simp only [Act.put, List.getElem_toArray, List.getElem_cons_zero, List.getElem_cons_succ, List.setIfInBounds_toArray, List.set_cons_zero, List.set_cons_succ]
      refine wpAnyH_take (i := 8) (v := .agg #[.string y.l, .string y.s, .string y.r, .string y.tl, .string y.ts, .string y.tr]) rfl (by kernel_rfl) (by kernel_rfl) (by kernel_rfl) (fun c a w h => hKp c a _ _ w h) (Or.inl ⟨by kernel_rfl, fun w hSw => by dsimp only at hSw; obtain ⟨-, s0, d0, d1, d2, d3, d4, d5⟩ := hSw; go_simp⟩) (by assumption) ?_
      simp only [Act.put, List.getElem_toArray, List.getElem_cons_zero, List.getElem_cons_succ, List.setIfInBounds_toArray, List.set_cons_zero, List.set_cons_succ]
      refine wpAnyH_ready (rs := [9]) (by kernel_rfl) (by simp) ?_
      refine AllReadyH.cons rfl (fun Kx hKx => ?_) AllReadyH.nil
      try rw [if_pos (by kernel_rfl)]
      go_simp
      refine hKx.out _ _ (HC.out _ ((Below.drew (Below.refl _ _)).alloc (Nat.le_refl _) _)) (fun hHeld => ?_)
      clear hKx Kx
      try simp only [Act.put, List.getElem_toArray, List.getElem_cons_zero, List.getElem_cons_succ, List.setIfInBounds_toArray, List.set_cons_zero, List.set_cons_succ]
      refine wpAnyH_ready (rs := [10]) (by kernel_rfl) (by simp) ?_
      refine AllReadyH.cons rfl (fun Kx hKx => ?_) AllReadyH.nil
      try rw [if_pos (by kernel_rfl)]
      go_simp
      refine hKx.out _ _ (HC.out _ ((Below.drew (Below.refl _ _)).alloc (Nat.le_refl _) _)) (fun hHeld => ?_)
      clear hKx Kx
      try simp only [Act.put, List.getElem_toArray, List.getElem_cons_zero, List.getElem_cons_succ, List.setIfInBounds_toArray, List.set_cons_zero, List.set_cons_succ]
      refine wpAnyH_done (by kernel_rfl) ?_ _
      exact hfin _ ⟨hHeld.1, World.alloc_heap_new _ _⟩
    · try rw [if_pos (by kernel_rfl)]
      go_simp
      refine hKx.out _ _ (HC.out _ ((Below.drew (Below.refl _ _)).alloc (Nat.le_refl _) _)) (fun hHeld => ?_)
      clear hKx Kx
      try simp only [Act.put, List.getElem_toArray, List.getElem_cons_zero, List.getElem_cons_succ, List.setIfInBounds_toArray, List.set_cons_zero, List.set_cons_succ]
      refine wpAnyH_ready (rs := [6]) (by kernel_rfl) (by simp) ?_
      refine AllReadyH.cons rfl (fun Kx hKx => ?_) AllReadyH.nil
      try rw [if_pos (by kernel_rfl)]
      go_simp
      refine (HRT.out _).mono ?_
      rintro e w5 ⟨rfl, rfl⟩
      refine hKx.out _ _ (HC.out _ ((Below.drew (Below.refl _ _)).alloc (Nat.le_refl _) _)) (fun hHeld => ?_)
      clear hKx Kx
      try simp only [Act.put, List.getElem_toArray, List.getElem_cons_zero, List.getElem_cons_succ, List.setIfInBounds_toArray, List.set_cons_zero, List.set_cons_succ]
      refine wpAnyH_take (i := 7) (v := .pointer (some ⟨g2, rl * 6, none⟩)) rfl (by kernel_rfl) (by kernel_rfl) (by kernel_rfl) (fun c a w h => hKp c a _ _ w h) (Or.inl ⟨by kernel_rfl, fun w hSw => by dsimp only at hSw; obtain ⟨-, s0, d0, d1, d2, d3, d4, d5⟩ := hSw; go_simp⟩) (by assumption) ?_
      simp only [Act.put, List.getElem_toArray, List.getElem_cons_zero, List.getElem_cons_succ, List.setIfInBounds_toArray, List.set_cons_zero, List.set_cons_succ]
      refine wpAnyH_take (i := 8) (v := .agg #[.string y.l, .string y.s, .string y.r, .string y.tl, .string y.ts, .string y.tr]) rfl (by kernel_rfl) (by kernel_rfl) (by kernel_rfl) (fun c a w h => hKp c a _ _ w h) (Or.inl ⟨by kernel_rfl, fun w hSw => by dsimp only at hSw; obtain ⟨-, s0, d0, d1, d2, d3, d4, d5⟩ := hSw; go_simp⟩) (by assumption) ?_
      simp only [Act.put, List.getElem_toArray, List.getElem_cons_zero, List.getElem_cons_succ, List.setIfInBounds_toArray, List.set_cons_zero, List.set_cons_succ]
      refine wpAnyH_ready (rs := [10]) (by kernel_rfl) (by simp) ?_
      refine AllReadyH.cons rfl (fun Kx hKx => ?_) AllReadyH.nil
      try rw [if_pos (by kernel_rfl)]
      go_simp
      refine hKx.out _ _ (HC.out _ ((Below.drew (Below.refl _ _)).alloc (Nat.le_refl _) _)) (fun hHeld => ?_)
      clear hKx Kx
      try simp only [Act.put, List.getElem_toArray, List.getElem_cons_zero, List.getElem_cons_succ, List.setIfInBounds_toArray, List.set_cons_zero, List.set_cons_succ]
      refine wpAnyH_done (by kernel_rfl) ?_ _
      exact hfin _ ⟨hHeld.1, World.alloc_heap_new _ _⟩
  rintro W5 ⟨hb5, hz5⟩
  have HI5 := Lib.hid ((hb5.block _ (lt_of_block HI4.out)).trans HI4.out)
  have HM5 := Lib.hid (HM4.out.below hb5)
  have HQ5 := Lib.hid ((hb5.block _ (lt_of_block HQ4.out)).trans HQ4.out)
  have HB5 := Lib.hid (HB4.out.trans (hb5.mono HB4.out.size))
  have HA5 := Lib.hid ((hb5.block _ (lt_of_block HZ4.out)).trans HZ4.out)
  have HL5 := Lib.hid hz5
  clear hb5 hz5 HC HRT HI4 HM4 HQ4 HB4 HR32 HZ4
  generalize W4.heap.size = L at *
  have HCA := Lib.hid (fun w' (h : Below W5.heap.size W5 w') => show w'.cell? ⟨A, 0, none⟩ = some (.int .i64 x.k) ∧ w'.cell? ⟨A, 1, none⟩ = some (.string x.a) ∧ w'.cell? ⟨A, 2, none⟩ = some (.string x.b) ∧ w'.cell? ⟨A, 3, none⟩ = some (.string x.l) ∧ w'.cell? ⟨A, 4, none⟩ = some (.string x.s) ∧ w'.cell? ⟨A, 5, none⟩ = some (.string x.r) from ⟨cellA (cs := [_, _, _, _, _, _]) ((h.block _ (lt_of_block HA5.out)).trans HA5.out) rfl, cellA (cs := [_, _, _, _, _, _]) ((h.block _ (lt_of_block HA5.out)).trans HA5.out) rfl, cellA (cs := [_, _, _, _, _, _]) ((h.block _ (lt_of_block HA5.out)).trans HA5.out) rfl, cellA (cs := [_, _, _, _, _, _]) ((h.block _ (lt_of_block HA5.out)).trans HA5.out) rfl, cellA (cs := [_, _, _, _, _, _]) ((h.block _ (lt_of_block HA5.out)).trans HA5.out) rfl, cellA (cs := [_, _, _, _, _, _]) ((h.block _ (lt_of_block HA5.out)).trans HA5.out) rfl⟩)
  have HCL := Lib.hid (fun w' (h : Below W5.heap.size W5 w') => show w'.cell? ⟨L, 0, none⟩ = some (.string y.l) ∧ w'.cell? ⟨L, 1, none⟩ = some (.string y.s) ∧ w'.cell? ⟨L, 2, none⟩ = some (.string y.r) ∧ w'.cell? ⟨L, 3, none⟩ = some (.string y.tl) ∧ w'.cell? ⟨L, 4, none⟩ = some (.string y.ts) ∧ w'.cell? ⟨L, 5, none⟩ = some (.string y.tr) from ⟨cellA (cs := [_, _, _, _, _, _]) ((h.block _ (lt_of_block HL5.out)).trans HL5.out) rfl, cellA (cs := [_, _, _, _, _, _]) ((h.block _ (lt_of_block HL5.out)).trans HL5.out) rfl, cellA (cs := [_, _, _, _, _, _]) ((h.block _ (lt_of_block HL5.out)).trans HL5.out) rfl, cellA (cs := [_, _, _, _, _, _]) ((h.block _ (lt_of_block HL5.out)).trans HL5.out) rfl, cellA (cs := [_, _, _, _, _, _]) ((h.block _ (lt_of_block HL5.out)).trans HL5.out) rfl, cellA (cs := [_, _, _, _, _, _]) ((h.block _ (lt_of_block HL5.out)).trans HL5.out) rfl⟩)
  have HCI := Lib.hid (fun w' (h : Below W5.heap.size W5 w') => show w'.cell? ⟨I, 0, none⟩ = some (.slice (some ⟨g1, 0, none⟩) 54 54) ∧ w'.cell? ⟨I, 1, none⟩ = some (.slice (some ⟨g2, 0, none⟩) 32 32) ∧ w'.cell? ⟨I, 2, none⟩ = some (.slice (some ⟨g3, 0, none⟩) 15 15) ∧ w'.cell? ⟨I, 3, none⟩ = some (.slice (some ⟨g4, 0, none⟩) 7 7) ∧ w'.cell? ⟨I, 4, none⟩ = some (.int .i64 40) ∧ w'.cell? ⟨I, 5, none⟩ = some (.int .i64 5) from ⟨cellA (cs := [_, _, _, _, _, _]) ((h.block _ (lt_of_block HI5.out)).trans HI5.out) rfl, cellA (cs := [_, _, _, _, _, _]) ((h.block _ (lt_of_block HI5.out)).trans HI5.out) rfl, cellA (cs := [_, _, _, _, _, _]) ((h.block _ (lt_of_block HI5.out)).trans HI5.out) rfl, cellA (cs := [_, _, _, _, _, _]) ((h.block _ (lt_of_block HI5.out)).trans HI5.out) rfl, cellA (cs := [_, _, _, _, _, _]) ((h.block _ (lt_of_block HI5.out)).trans HI5.out) rfl, cellA (cs := [_, _, _, _, _, _]) ((h.block _ (lt_of_block HI5.out)).trans HI5.out) rfl⟩)
  have HCQ := Lib.hid (fun w' (h : Below W5.heap.size W5 w') => show w'.cell? ⟨w.heap.size, 0, none⟩ = some (.string q0) ∧ w'.cell? ⟨w.heap.size, 1, none⟩ = some (.string q1) ∧ w'.cell? ⟨w.heap.size, 2, none⟩ = some (.string q2) from ⟨cellA (cs := [_, _, _]) ((h.block _ (lt_of_block HQ5.out)).trans HQ5.out) rfl, cellA (cs := [_, _, _]) ((h.block _ (lt_of_block HQ5.out)).trans HQ5.out) rfl, cellA (cs := [_, _, _]) ((h.block _ (lt_of_block HQ5.out)).trans HQ5.out) rfl⟩)
  have a5 := HCA.out _ (Below.refl _ _)
  obtain ⟨a50, a51, a52, a53, a54, a55⟩ := a5
  go_upto_region 7 with (first
    | (go_at_call 8; (with_reducible refine (HFX.out _).mono ?_); rintro e w6 ⟨rfl, hb6⟩; have hb6a := hb6.alloc hb6.size (.cells #[.int .i64 x.k, .string x.a, .string x.b, .string x.l, .string x.s, .string x.r] 32); have l5 := HCL.out _ hb6a; obtain ⟨l50, l51, l52, l53, l54, l55⟩ := l5)
    | (go_at_call 9; (with_reducible refine (HFY.out _).mono ?_); rintro e w7 ⟨rfl, hb7⟩))
  have hb57 := hb6a.trans (hb7.mono hb6a.size)
  obtain ⟨W8, hW8⟩ : ∃ W8, w7.alloc (.cells #[.string y.l, .string y.s, .string y.r, .string y.tl, .string y.ts, .string y.tr] 35) = W8 := ⟨_, rfl⟩
  have hb58 : Below W5.heap.size W5 W8 := by rw [← hW8]; exact hb57.alloc hb57.size _
  have hX8 : W8.heap[w6.heap.size]? = some (.cells #[.int .i64 x.k, .string x.a, .string x.b, .string x.l, .string x.s, .string x.r] 32 (0, 0)) := by
    rw [← hW8]
    exact (Below.heap_alloc _ _ _ (Nat.lt_of_lt_of_le (by simp) hb7.size)).trans ((hb7.block _ (by simp)).trans (World.alloc_heap_new w6 _))
  have hY8 : W8.heap[w7.heap.size]? = some (.cells #[.string y.l, .string y.s, .string y.r, .string y.tl, .string y.ts, .string y.tr] 35 (0, 0)) := by rw [← hW8]; exact World.alloc_heap_new w7 _
  rw [hW8]
  generalize w6.heap.size = X at *
  generalize w7.heap.size = Y at *
  obtain ⟨x80, x81, x82, x83, x84, x85⟩ : W8.cell? ⟨X, 0, none⟩ = _ ∧ W8.cell? ⟨X, 1, none⟩ = _ ∧ W8.cell? ⟨X, 2, none⟩ = _ ∧ W8.cell? ⟨X, 3, none⟩ = _ ∧ W8.cell? ⟨X, 4, none⟩ = _ ∧ W8.cell? ⟨X, 5, none⟩ = _ := ⟨cellA (cs := [_, _, _, _, _, _]) hX8 rfl, cellA (cs := [_, _, _, _, _, _]) hX8 rfl, cellA (cs := [_, _, _, _, _, _]) hX8 rfl, cellA (cs := [_, _, _, _, _, _]) hX8 rfl, cellA (cs := [_, _, _, _, _, _]) hX8 rfl, cellA (cs := [_, _, _, _, _, _]) hX8 rfl⟩
  obtain ⟨y80, y81, y82, y83, y84, y85⟩ : W8.cell? ⟨Y, 0, none⟩ = _ ∧ W8.cell? ⟨Y, 1, none⟩ = _ ∧ W8.cell? ⟨Y, 2, none⟩ = _ ∧ W8.cell? ⟨Y, 3, none⟩ = _ ∧ W8.cell? ⟨Y, 4, none⟩ = _ ∧ W8.cell? ⟨Y, 5, none⟩ = _ := ⟨cellA (cs := [_, _, _, _, _, _]) hY8 rfl, cellA (cs := [_, _, _, _, _, _]) hY8 rfl, cellA (cs := [_, _, _, _, _, _]) hY8 rfl, cellA (cs := [_, _, _, _, _, _]) hY8 rfl, cellA (cs := [_, _, _, _, _, _]) hY8 rfl, cellA (cs := [_, _, _, _, _, _]) hY8 rfl⟩
  obtain ⟨a80, a81, a82, a83, a84, a85⟩ := HCA.out _ hb58
  obtain ⟨l80, l81, l82, l83, l84, l85⟩ := HCL.out _ hb58
  have HB8 := Lib.hid hb58
  clear hW8 hb57 hb58 hb6 hb6a hb7 hX8 hY8 a50 a51 a52 a53 a54 a55 l50 l51 l52 l53 l54 l55 HFX HFY
  go_upto_region 9 with fail
  clear x80 x81 x82 x83 x84 x85 y80 y81 y82 y83 y84 y85 a80 a81 a82 a83 a84 a85 l80 l81 l82 l83 l84 l85
  have HC := Lib.hid (fun w' (h : Below W8.heap.size W8 w') => show Below W8.heap.size W8 w' ∧ w'.cell? ⟨I, 0, none⟩ = some (.slice (some ⟨g1, 0, none⟩) 54 54) ∧ w'.cell? ⟨I, 1, none⟩ = some (.slice (some ⟨g2, 0, none⟩) 32 32) ∧ w'.cell? ⟨I, 2, none⟩ = some (.slice (some ⟨g3, 0, none⟩) 15 15) ∧ w'.cell? ⟨I, 3, none⟩ = some (.slice (some ⟨g4, 0, none⟩) 7 7) ∧ w'.cell? ⟨I, 4, none⟩ = some (.int .i64 40) ∧ w'.cell? ⟨I, 5, none⟩ = some (.int .i64 5) ∧ w'.cell? ⟨w.heap.size, 0, none⟩ = some (.string q0) ∧ w'.cell? ⟨w.heap.size, 1, none⟩ = some (.string q1) ∧ w'.cell? ⟨w.heap.size, 2, none⟩ = some (.string q2) ∧ w'.cell? ⟨A, 0, none⟩ = some (.int .i64 x.k) ∧ w'.cell? ⟨A, 1, none⟩ = some (.string x.a) ∧ w'.cell? ⟨A, 2, none⟩ = some (.string x.b) ∧ w'.cell? ⟨A, 4, none⟩ = some (.string x.s) ∧ w'.cell? ⟨L, 0, none⟩ = some (.string y.l) ∧ w'.cell? ⟨L, 1, none⟩ = some (.string y.s) ∧ w'.cell? ⟨L, 2, none⟩ = some (.string y.r) from by
    have h5 := HB8.out.trans (h.mono HB8.out.size)
    obtain ⟨i0, i1, i2, i3, i4, i5⟩ := HCI.out _ h5
    obtain ⟨r0, r1, r2⟩ := HCQ.out _ h5
    obtain ⟨a0, a1, a2, a3, a4, a5⟩ := HCA.out _ h5
    obtain ⟨l0, l1, l2, l3, l4, l5⟩ := HCL.out _ h5
    exact ⟨h, i0, i1, i2, i3, i4, i5, r0, r1, r2, a0, a1, a2, a4, l0, l1, l2⟩)
  have HFI := Lib.hid (fun (kk : Int) (a b c : ByteArray) w' (h : Below W8.heap.size W8 w') => (finds_15 kk a b c b0 g1 g2 g3 g4 w' (HM5.out.below (HB8.out.trans (h.mono HB8.out.size)))).mono (R' := fun e w'' => e = .returned (.bool true) ∧ Below W8.heap.size W8 w'') fun e w'' ⟨p, q⟩ => ⟨p, h.trans (q.mono h.size)⟩)
  have HBF := Lib.hid (fun w' (h : Below W8.heap.size W8 w') => show Below w.heap.size w w' from (HB5.out.trans (HB8.out.mono HB5.out.size)).trans (h.mono (Nat.le_trans HB5.out.size HB8.out.size)))
  have hd8 : Below W8.heap.size W8 W8.drew := Below.drew (Below.refl _ _)
  have h9 := HC.out _ hd8
  obtain ⟨-, i0, i1, i2, i3, i4, i5, r0, r1, r2, a0, a1, a2, a4, l0, l1, l2⟩ := h9
  clear HCI HCQ HCA HCL HM5 HB5 HB8 HI5 HQ5 HA5 HL5
  go_region_held3 (fun w' => Below W8.heap.size W8 w' ∧ w'.cell? ⟨I, 0, none⟩ = some (.slice (some ⟨g1, 0, none⟩) 54 54) ∧ w'.cell? ⟨I, 1, none⟩ = some (.slice (some ⟨g2, 0, none⟩) 32 32) ∧ w'.cell? ⟨I, 2, none⟩ = some (.slice (some ⟨g3, 0, none⟩) 15 15) ∧ w'.cell? ⟨I, 3, none⟩ = some (.slice (some ⟨g4, 0, none⟩) 7 7) ∧ w'.cell? ⟨I, 4, none⟩ = some (.int .i64 40) ∧ w'.cell? ⟨I, 5, none⟩ = some (.int .i64 5) ∧ w'.cell? ⟨w.heap.size, 0, none⟩ = some (.string q0) ∧ w'.cell? ⟨w.heap.size, 1, none⟩ = some (.string q1) ∧ w'.cell? ⟨w.heap.size, 2, none⟩ = some (.string q2) ∧ w'.cell? ⟨A, 0, none⟩ = some (.int .i64 x.k) ∧ w'.cell? ⟨A, 1, none⟩ = some (.string x.a) ∧ w'.cell? ⟨A, 2, none⟩ = some (.string x.b) ∧ w'.cell? ⟨A, 4, none⟩ = some (.string x.s) ∧ w'.cell? ⟨L, 0, none⟩ = some (.string y.l) ∧ w'.cell? ⟨L, 1, none⟩ = some (.string y.s) ∧ w'.cell? ⟨L, 2, none⟩ = some (.string y.r))
    (first | (exact HC.out _ (by assumption)))
    (first
      | (go_at_call 11; first
          | ((with_reducible refine (HS0.out _).mono ?_); rintro e w5 ⟨rfl, rfl⟩)
          | ((with_reducible refine (HS1.out _).mono ?_); rintro e w5 ⟨rfl, rfl⟩)
          | ((with_reducible refine (HS2.out _).mono ?_); rintro e w5 ⟨rfl, rfl⟩))
      | (go_at_call 10; (with_reducible refine (HFI.out _ _ _ _ _ (by assumption)).mono ?_); rintro e w5 ⟨rfl, hb5⟩))
  trace_state
  go_wp2
  go_ret
  exact ⟨rfl, HBF.out _ (by assumption)⟩
end Go.Proofs.Ytohogofehfbjoaa
