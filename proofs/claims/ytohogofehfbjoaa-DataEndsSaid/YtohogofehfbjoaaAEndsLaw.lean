/-
  DataEnds: of the image each alias leads from what is not final to what is, and each likely row to a language that has its own. (Printed by wip/gen_aends.py.)
-/
import Derived.Test.YtohogofehfbjoaaAFindLaw
import Derived.Test.YtohogofehfbjoaaAOld
namespace Go.Proofs.Ytohogofehfbjoaa
open Go Go.RowKit

def T15 : List Kn := als15.map fun x => (x.k, x.a, x.b)
def E15 : ByteArray := ⟨#[]⟩
theorem fits15 : Fits T15 := by
  have h : (T15.all fun x => (Lit.int .i64 x.1).wf && (decide (x.2.1.size ≤ 20) && decide (x.2.2.size ≤ 20))) = true := by decide +kernel
  intro x hx
  have := List.all_eq_true.1 h x hx
  simp only [Bool.and_eq_true, decide_eq_true_iff] at this
  unfold maxLen
  exact ⟨this.1, by omega, by omega⟩
theorem rows15 {W : World} {b0 g1 g2 g3 g4 : Nat} (h : Im15 W b0 g1 g2 g3 g4) : RowK W g1 0 T15 := fun i x hx => by
  unfold T15 at hx
  rw [List.getElem?_map, Option.map_eq_some_iff] at hx
  obtain ⟨y, hy, rfl⟩ := hx
  simp only [Nat.zero_add]
  exact ⟨y.l, y.s, y.r, cellA h.a (flatA (sz := 6) (fun _ => rfl) hy (j := 0) rfl), cellA h.a (flatA (sz := 6) (fun _ => rfl) hy (j := 1) rfl), cellA h.a (flatA (sz := 6) (fun _ => rfl) hy (j := 2) rfl), cellA h.a (flatA (sz := 6) (fun _ => rfl) hy (j := 3) rfl), cellA h.a (flatA (sz := 6) (fun _ => rfl) hy (j := 4) rfl), cellA h.a (flatA (sz := 6) (fun _ => rfl) hy (j := 5) rfl)⟩
theorem len_T15 : T15.length = 54 := by decide
set_option maxRecDepth 100000 in
set_option maxHeartbeats 2000000 in
theorem final_15 (k : Int) (a b : ByteArray) (w : World) (b0 g1 g2 g3 g4 : Nat) (hI : Im15 w b0 g1 g2 g3 g4) (hk : (Lit.int .i64 k).wf = true) (ha : a.size ≤ maxLen) (hb : b.size ≤ maxLen) :
    Calls Try.prog 13 #[.agg #[.slice (some ⟨g1, 0, none⟩) 54 54, .slice (some ⟨g2, 0, none⟩) 32 32, .slice (some ⟨g3, 0, none⟩) 15 15, .slice (some ⟨g4, 0, none⟩) 7 7, .int .i64 40, .int .i64 5], .int .i64 k, .string a, .string b] w fun e w' => e = .returned (.bool (finalN T15 k a b)) ∧ Below w.heap.size w w' := by
  have HO := Lib.hid (fun w' (h : Below w.heap.size w w') => show Calls Try.prog 22 #[.slice (some ⟨g1, 0, none⟩) 54 54] w' (fun e w'' => ∃ M, e = .returned (.map (some M)) ∧ OldN w'' M T15 ∧ Below w.heap.size w w'') from
    (len_T15 ▸ oldNames_any T15 g1 0 54 w' fits15 (by rw [len_T15]; decide) (rows15 (hI.below h))).mono fun e w'' ⟨M, p, q, r⟩ => ⟨M, p, q, h.trans (r.mono h.size)⟩)
  have HF := Lib.hid (fun M w' (h : Below w.heap.size w w') (ho : OldN w' M T15) => (final_any T15 M k a b w' hk ha hb ho).mono (R' := fun e w'' => e = .returned (.bool (finalN T15 k a b)) ∧ Below w.heap.size w w'') fun e w'' ⟨p, q⟩ => ⟨p, h.trans (q.mono h.size)⟩)
  generalize finalN T15 k a b = z at *
  have hbi := (Below.refl w.heap.size w).alloc (Nat.le_refl _) (.cells #[.slice (some ⟨g1, 0, none⟩) 54 54, .slice (some ⟨g2, 0, none⟩) 32 32, .slice (some ⟨g3, 0, none⟩) 15 15, .slice (some ⟨g4, 0, none⟩) 7 7, .int .i64 40, .int .i64 5] 29)
  clear hI hk ha hb
  go_enter Try.func13, Try.ntmps13
  go_wp2_with (first
    | (go_at_call 22; (with_reducible refine (HO.out _ (by assumption)).mono ?_); rintro e w5 ⟨M, rfl, ho5, hb5⟩; have HFX := Lib.hid (HF.out M w5 hb5 ho5); clear ho5)
    | (go_at_call 23; (with_reducible refine HFX.out.mono ?_); rintro e w6 ⟨rfl, hb6⟩))
  go_ret
  exact ⟨rfl, by assumption⟩
def endsB (x : Ax) : Bool :=
  if x.k = 1 then finalN T15 3 x.l E15 else if x.k = 2 ∨ x.k = 3 then !finalN T15 3 x.a E15 && finalN T15 3 x.l E15 else if x.k = 7 then !finalN T15 7 x.a x.b && finalN T15 7 x.a x.l
  else decide (4 ≤ x.k ∧ x.k ≤ 6) && (!finalN T15 x.k x.a E15 && finalN T15 x.k (x.l ++ x.s ++ x.r) E15)
def smallB (x : Ax) : Bool := decide (1 ≤ x.k ∧ x.k ≤ 7) && (decide (x.a.size ≤ 20) && (decide (x.b.size ≤ 20) && (decide (x.l.size ≤ 20) && (decide (x.s.size ≤ 20) && decide (x.r.size ≤ 20)))))
set_option maxRecDepth 100000 in
theorem ends15 : (als15.all endsB) = true := by decide +kernel
set_option maxRecDepth 100000 in
theorem small15 : (als15.all smallB) = true := by decide +kernel
def ownB (y : Lx) : Bool := match lks15.find? (pL y.tl E15 E15) with
  | some z => z.tl.toList == y.tl.toList
  | none => false
set_option maxRecDepth 100000 in
theorem own15 : (lks15.all ownB) = true := by decide +kernel
theorem own_of {y : Lx} (h : ownB y = true) : ∃ z, lks15.find? (pL y.tl E15 E15) = some z ∧ (z.tl.toList == y.tl.toList) = true := by
  unfold ownB at h
  cases hf : lks15.find? (pL y.tl E15 E15) with
  | none => rw [hf] at h; cases h
  | some z => rw [hf] at h; exact ⟨z, rfl, h⟩
set_option maxRecDepth 100000 in
set_option maxHeartbeats 16000000 in
theorem dataEnds_law (n : Int) (w : World) :
    Calls Try.prog 4 #[.int .i64 n] w fun e w' => e = .returned (.bool true) ∧ Below w.heap.size w w' := by
  have HAW := Lib.hid (awake15_any w)
  have HIM := Lib.hid (fun w' => image_15 w')
  obtain ⟨ra, hra⟩ : ∃ r, rest15V n 54 = r := ⟨_, rfl⟩
  obtain ⟨rl, hrl⟩ : ∃ r, rest15V n 32 = r := ⟨_, rfl⟩
  have hra54 : ra < 54 := by rw [← hra]; exact rest15V_lt n 54 (by decide)
  have hrl32 : rl < 32 := by rw [← hrl]; exact rest15V_lt n 32 (by decide)
  obtain ⟨x, hx⟩ : ∃ x, als15[ra]? = some x := ⟨_, List.getElem?_eq_getElem (by rw [len_als15]; exact hra54)⟩
  obtain ⟨y, hy⟩ : ∃ y, lks15[rl]? = some y := ⟨_, List.getElem?_eq_getElem (by rw [len_lks15]; exact hrl32)⟩
  have HR54 := Lib.hid (fun w' => show Calls Try.prog 7 #[.int .i64 n, .int .i64 54] w' (fun e w'' => e = .returned (.int .i64 (ra : Int)) ∧ w'' = w') from hra ▸ rest15_any n 54 w' (by decide) (by decide))
  have HR32 := Lib.hid (fun w' => show Calls Try.prog 7 #[.int .i64 n, .int .i64 32] w' (fun e w'' => e = .returned (.int .i64 (rl : Int)) ∧ w'' = w') from hrl ▸ rest15_any n 32 w' (by decide) (by decide))
  obtain ⟨z, hz, hzt⟩ := own_of (List.all_eq_true.1 own15 y (List.mem_of_getElem? hy))
  have HFY := Lib.hid (fun w' => show Calls Try.prog 9 #[.string y.tl, .string { data := #[] }, .string { data := #[] }] w' (fun e w'' => e = .returned (.tuple #[.agg #[.string z.l, .string z.s, .string z.r, .string z.tl, .string z.ts, .string z.tr], .bool true]) ∧ Below w'.heap.size w' w'') from (Likely_15 y.tl E15 E15 w').mono fun e w'' ⟨p, q⟩ => ⟨by rw [p, hz]; rfl, q⟩)
  have HEX := Lib.hid (List.all_eq_true.1 ends15 x (List.mem_of_getElem? hx))
  have HSX := Lib.hid (List.all_eq_true.1 small15 x (List.mem_of_getElem? hx))
  have HX := Lib.hid hx
  have HY := Lib.hid hy
  have HZT := Lib.hid hzt
  have hia0 : (0 : Int) ≤ (ra : Int) := by omega
  have hia1 : (ra : Int) < 54 := by omega
  have hil0 : (0 : Int) ≤ (rl : Int) := by omega
  have hil1 : (rl : Int) < 32 := by omega
  clear hra hrl hx hy hz hzt
  go_enter Try.func4, Try.ntmps4
  go_upto_region 3 with (first
    | (go_at_call 5; (with_reducible refine HAW.out.mono ?_); rintro e w2 ⟨rfl, hb2⟩)
    | (go_at_call 12; (with_reducible refine (HIM.out _).mono ?_); rintro e w3 ⟨g1, g2, g3, g4, rfl, hi3, hb3⟩))
  obtain ⟨W3, hW3⟩ : ∃ W3, w3.alloc (.cells #[.slice (some ⟨g1, 0, none⟩) 54 54, .slice (some ⟨g2, 0, none⟩) 32 32, .slice (some ⟨g3, 0, none⟩) 15 15, .slice (some ⟨g4, 0, none⟩) 7 7, .int .i64 40, .int .i64 5] 29) = W3 := ⟨_, rfl⟩
  have hb13 : Below w.heap.size w W3 := by rw [← hW3]; exact (hb2.trans (hb3.mono hb2.size)).alloc (Nat.le_trans hb2.size hb3.size) _
  have hI3 : W3.heap[w3.heap.size]? = some (.cells #[.slice (some ⟨g1, 0, none⟩) 54 54, .slice (some ⟨g2, 0, none⟩) 32 32, .slice (some ⟨g3, 0, none⟩) 15 15, .slice (some ⟨g4, 0, none⟩) 7 7, .int .i64 40, .int .i64 5] 29 (0, 0)) := by rw [← hW3]; exact World.alloc_heap_new w3 _
  have hM3 : Im15 W3 w2.heap.size g1 g2 g3 g4 := by rw [← hW3]; exact hi3.below ((Below.refl _ w3).alloc (Nat.le_refl _) _)
  rw [hW3]
  generalize w3.heap.size = I at *
  generalize w2.heap.size = b0 at *
  have HB3 := Lib.hid hb13
  have HI3 := Lib.hid hI3
  have HM3 := Lib.hid hM3
  have i0 := cellA (cs := [_, _, _, _, _, _]) hI3 (k := 0) rfl
  have i1 := cellA (cs := [_, _, _, _, _, _]) hI3 (k := 1) rfl
  clear hW3 hi3 hb2 hb3 hb13 hI3 hM3 HAW HIM
  go_upto_region 5 with fail
  clear i0 i1
  have HC := Lib.hid (fun w' (h : Below W3.heap.size W3 w') => show Below W3.heap.size W3 w' ∧ w'.cell? ⟨I, 0, none⟩ = some (.slice (some ⟨g1, 0, none⟩) 54 54) ∧ w'.cell? ⟨g1, ra * 6, none⟩ = some (.int .i64 x.k) ∧ w'.cell? ⟨g1, ra * 6 + 1, none⟩ = some (.string x.a) ∧ w'.cell? ⟨g1, ra * 6 + 2, none⟩ = some (.string x.b) ∧ w'.cell? ⟨g1, ra * 6 + 3, none⟩ = some (.string x.l) ∧ w'.cell? ⟨g1, ra * 6 + 4, none⟩ = some (.string x.s) ∧ w'.cell? ⟨g1, ra * 6 + 5, none⟩ = some (.string x.r) from ⟨h, cellA (cs := [_, _, _, _, _, _]) ((h.block _ (lt_of_block HI3.out)).trans HI3.out) rfl, cellA ((HM3.out.below h).a) (flatA (sz := 6) (fun _ => rfl) HX.out (j := 0) rfl), cellA ((HM3.out.below h).a) (flatA (sz := 6) (fun _ => rfl) HX.out (j := 1) rfl), cellA ((HM3.out.below h).a) (flatA (sz := 6) (fun _ => rfl) HX.out (j := 2) rfl), cellA ((HM3.out.below h).a) (flatA (sz := 6) (fun _ => rfl) HX.out (j := 3) rfl), cellA ((HM3.out.below h).a) (flatA (sz := 6) (fun _ => rfl) HX.out (j := 4) rfl), cellA ((HM3.out.below h).a) (flatA (sz := 6) (fun _ => rfl) HX.out (j := 5) rfl)⟩)
  have HRT := Lib.hid HR54.out
  refine wp_region_held_drew (S := fun w' => Below W3.heap.size W3 w' ∧ w'.cell? ⟨I, 0, none⟩ = some (.slice (some ⟨g1, 0, none⟩) 54 54) ∧ w'.cell? ⟨g1, ra * 6, none⟩ = some (.int .i64 x.k) ∧ w'.cell? ⟨g1, ra * 6 + 1, none⟩ = some (.string x.a) ∧ w'.cell? ⟨g1, ra * 6 + 2, none⟩ = some (.string x.b) ∧ w'.cell? ⟨g1, ra * 6 + 3, none⟩ = some (.string x.l) ∧ w'.cell? ⟨g1, ra * 6 + 4, none⟩ = some (.string x.s) ∧ w'.cell? ⟨g1, ra * 6 + 5, none⟩ = some (.string x.r)) (by kernel_rfl) (HC.out _ (Below.drew (Below.refl _ _))) (fun hHeld => ?_)
  apply held_shellA (R := fun w' => Below W3.heap.size W3 w' ∧ w'.heap[W3.heap.size]? = some (.cells #[.int .i64 x.k, .string x.a, .string x.b, .string x.l, .string x.s, .string x.r] 32 (0, 0)))
  exact fun _ _ d _ _ h => by cases d <;> exact h
  rotate_left 1
  · intro KK hKp hfin
    refine wpAnyH_take (i := 0) (v := .pointer (some ⟨I, 0, none⟩)) rfl (by kernel_rfl) (by kernel_rfl) (by kernel_rfl) (fun c a w h => hKp c a _ _ w h) (Or.inl ⟨by kernel_rfl, fun w hSw => by dsimp only at hSw; obtain ⟨-, s0, d0, d1, d2, d3, d4, d5⟩ := hSw; go_simp⟩) (by assumption) ?_
    simp only [Act.put, List.getElem_toArray, List.getElem_cons_zero, List.setIfInBounds_toArray, List.set_cons_zero, List.set_cons_succ]
    refine wpAnyH_take (i := 1) (v := .slice (some ⟨g1, 0, none⟩) 54 54) rfl (by kernel_rfl) (by kernel_rfl) (by kernel_rfl) (fun c a w h => hKp c a _ _ w h) (Or.inl ⟨by kernel_rfl, fun w hSw => by dsimp only at hSw; obtain ⟨-, s0, d0, d1, d2, d3, d4, d5⟩ := hSw; go_simp⟩) (by assumption) ?_
    simp only [Act.put, List.getElem_toArray, List.getElem_cons_zero, List.getElem_cons_succ, List.setIfInBounds_toArray, List.set_cons_zero, List.set_cons_succ]
    refine wpAnyH_take (i := 2) (v := .int .i64 n) rfl (by kernel_rfl) (by kernel_rfl) (by kernel_rfl) (fun c a w h => hKp c a _ _ w h) (Or.inl ⟨by kernel_rfl, fun w hSw => by dsimp only at hSw; obtain ⟨-, s0, d0, d1, d2, d3, d4, d5⟩ := hSw; go_simp⟩) (by assumption) ?_
    simp only [Act.put, List.getElem_toArray, List.getElem_cons_zero, List.getElem_cons_succ, List.setIfInBounds_toArray, List.set_cons_zero, List.set_cons_succ]
    refine wpAnyH_take (i := 3) (v := .pointer (some ⟨I, 0, none⟩)) rfl (by kernel_rfl) (by kernel_rfl) (by kernel_rfl) (fun c a w h => hKp c a _ _ w h) (Or.inl ⟨by kernel_rfl, fun w hSw => by dsimp only at hSw; obtain ⟨-, s0, d0, d1, d2, d3, d4, d5⟩ := hSw; go_simp⟩) (by assumption) ?_
    simp only [Act.put, List.getElem_toArray, List.getElem_cons_zero, List.getElem_cons_succ, List.setIfInBounds_toArray, List.set_cons_zero, List.set_cons_succ]
    refine wpAnyH_take (i := 4) (v := .slice (some ⟨g1, 0, none⟩) 54 54) rfl (by kernel_rfl) (by kernel_rfl) (by kernel_rfl) (fun c a w h => hKp c a _ _ w h) (Or.inl ⟨by kernel_rfl, fun w hSw => by dsimp only at hSw; obtain ⟨-, s0, d0, d1, d2, d3, d4, d5⟩ := hSw; go_simp⟩) (by assumption) ?_
    simp only [Act.put, List.getElem_toArray, List.getElem_cons_zero, List.getElem_cons_succ, List.setIfInBounds_toArray, List.set_cons_zero, List.set_cons_succ]
    refine wpAnyH_take (i := 5) (v := .int .i64 54) rfl (by kernel_rfl) (by kernel_rfl) (by kernel_rfl) (fun c a w h => hKp c a _ _ w h) (Or.inl ⟨by kernel_rfl, fun w hSw => by dsimp only at hSw; obtain ⟨-, s0, d0, d1, d2, d3, d4, d5⟩ := hSw; go_simp⟩) (by assumption) ?_
    simp only [Act.put, List.getElem_toArray, List.getElem_cons_zero, List.getElem_cons_succ, List.setIfInBounds_toArray, List.set_cons_zero, List.set_cons_succ]
    refine wpAnyH_ready (rs := [6, 9]) (by kernel_rfl) (by simp) ?_
    refine AllReadyH.cons rfl (fun Kx hKx => ?_) (AllReadyH.cons rfl (fun Kx hKx => ?_) AllReadyH.nil)
    · try rw [if_pos (by kernel_rfl)]
      go_simp
      refine (HRT.out _).mono ?_
      rintro e w5 ⟨rfl, rfl⟩
      refine hKx.out _ _ (HC.out _ (Below.drew (Below.refl _ _))) (fun hHeld => ?_)
      clear hKx Kx
      try simp only [Act.put, List.getElem_toArray, List.getElem_cons_zero, List.getElem_cons_succ, List.setIfInBounds_toArray, List.set_cons_zero, List.set_cons_succ]
      refine wpAnyH_take (i := 7) (v := .pointer (some ⟨g1, ra * 6, none⟩)) rfl (by kernel_rfl) (by kernel_rfl) (by kernel_rfl) (fun c a w h => hKp c a _ _ w h) (Or.inl ⟨by kernel_rfl, fun w hSw => by dsimp only at hSw; obtain ⟨-, s0, d0, d1, d2, d3, d4, d5⟩ := hSw; go_simp⟩) (by assumption) ?_
      simp only [Act.put, List.getElem_toArray, List.getElem_cons_zero, List.getElem_cons_succ, List.setIfInBounds_toArray, List.set_cons_zero, List.set_cons_succ]
      refine wpAnyH_take (i := 8) (v := .agg #[.int .i64 x.k, .string x.a, .string x.b, .string x.l, .string x.s, .string x.r]) rfl (by kernel_rfl) (by kernel_rfl) (by kernel_rfl) (fun c a w h => hKp c a _ _ w h) (Or.inl ⟨by kernel_rfl, fun w hSw => by dsimp only at hSw; obtain ⟨-, s0, d0, d1, d2, d3, d4, d5⟩ := hSw; go_simp⟩) (by assumption) ?_
      simp only [Act.put, List.getElem_toArray, List.getElem_cons_zero, List.getElem_cons_succ, List.setIfInBounds_toArray, List.set_cons_zero, List.set_cons_succ]
      refine wpAnyH_ready (rs := [9]) (by kernel_rfl) (by simp) ?_
      refine AllReadyH.cons rfl (fun Kx hKx => ?_) AllReadyH.nil
      try rw [if_pos (by kernel_rfl)]
      go_simp
      refine hKx.out _ _ (HC.out _ ((Below.drew (Below.refl _ _)).alloc (Nat.le_refl _) _)) (fun hHeld => ?_)
      clear hKx Kx
      try simp only [Act.put, List.getElem_toArray, List.getElem_cons_zero, List.getElem_cons_succ, List.setIfInBounds_toArray, List.set_cons_zero, List.set_cons_succ]
      refine wpAnyH_ready (rs := [10]) (by kernel_rfl) (by simp) ?_
      refine AllReadyH.cons rfl (fun Kx hKx => ?_) AllReadyH.nil
      try rw [if_pos (by kernel_rfl)]
      go_simp
      refine hKx.out _ _ (HC.out _ ((Below.drew (Below.refl _ _)).alloc (Nat.le_refl _) _)) (fun hHeld => ?_)
      clear hKx Kx
      try simp only [Act.put, List.getElem_toArray, List.getElem_cons_zero, List.getElem_cons_succ, List.setIfInBounds_toArray, List.set_cons_zero, List.set_cons_succ]
      refine wpAnyH_done (by kernel_rfl) ?_ _
      exact hfin _ ⟨hHeld.1, World.alloc_heap_new _ _⟩
    · try rw [if_pos (by kernel_rfl)]
      go_simp
      refine hKx.out _ _ (HC.out _ ((Below.drew (Below.refl _ _)).alloc (Nat.le_refl _) _)) (fun hHeld => ?_)
      clear hKx Kx
      try simp only [Act.put, List.getElem_toArray, List.getElem_cons_zero, List.getElem_cons_succ, List.setIfInBounds_toArray, List.set_cons_zero, List.set_cons_succ]
      refine wpAnyH_ready (rs := [6]) (by kernel_rfl) (by simp) ?_
      refine AllReadyH.cons rfl (fun Kx hKx => ?_) AllReadyH.nil
      try rw [if_pos (by kernel_rfl)]
      go_simp
      refine (HRT.out _).mono ?_
      rintro e w5 ⟨rfl, rfl⟩
      refine hKx.out _ _ (HC.out _ ((Below.drew (Below.refl _ _)).alloc (Nat.le_refl _) _)) (fun hHeld => ?_)
      clear hKx Kx
      try simp only [Act.put, List.getElem_toArray, List.getElem_cons_zero, List.getElem_cons_succ, List.setIfInBounds_toArray, List.set_cons_zero, List.set_cons_succ]
      refine wpAnyH_take (i := 7) (v := .pointer (some ⟨g1, ra * 6, none⟩)) rfl (by kernel_rfl) (by kernel_rfl) (by kernel_rfl) (fun c a w h => hKp c a _ _ w h) (Or.inl ⟨by kernel_rfl, fun w hSw => by dsimp only at hSw; obtain ⟨-, s0, d0, d1, d2, d3, d4, d5⟩ := hSw; go_simp⟩) (by assumption) ?_
      simp only [Act.put, List.getElem_toArray, List.getElem_cons_zero, List.getElem_cons_succ, List.setIfInBounds_toArray, List.set_cons_zero, List.set_cons_succ]
      refine wpAnyH_take (i := 8) (v := .agg #[.int .i64 x.k, .string x.a, .string x.b, .string x.l, .string x.s, .string x.r]) rfl (by kernel_rfl) (by kernel_rfl) (by kernel_rfl) (fun c a w h => hKp c a _ _ w h) (Or.inl ⟨by kernel_rfl, fun w hSw => by dsimp only at hSw; obtain ⟨-, s0, d0, d1, d2, d3, d4, d5⟩ := hSw; go_simp⟩) (by assumption) ?_
      simp only [Act.put, List.getElem_toArray, List.getElem_cons_zero, List.getElem_cons_succ, List.setIfInBounds_toArray, List.set_cons_zero, List.set_cons_succ]
      refine wpAnyH_ready (rs := [10]) (by kernel_rfl) (by simp) ?_
      refine AllReadyH.cons rfl (fun Kx hKx => ?_) AllReadyH.nil
      try rw [if_pos (by kernel_rfl)]
      go_simp
      refine hKx.out _ _ (HC.out _ ((Below.drew (Below.refl _ _)).alloc (Nat.le_refl _) _)) (fun hHeld => ?_)
      clear hKx Kx
      try simp only [Act.put, List.getElem_toArray, List.getElem_cons_zero, List.getElem_cons_succ, List.setIfInBounds_toArray, List.set_cons_zero, List.set_cons_succ]
      refine wpAnyH_done (by kernel_rfl) ?_ _
      exact hfin _ ⟨hHeld.1, World.alloc_heap_new _ _⟩
  rintro W4 ⟨hb4, hz4⟩
  have HI4 := Lib.hid ((hb4.block _ (lt_of_block HI3.out)).trans HI3.out)
  have HM4 := Lib.hid (HM3.out.below hb4)
  have HB4 := Lib.hid (HB3.out.trans (hb4.mono HB3.out.size))
  have HZ4 := Lib.hid hz4
  clear hb4 hz4 HC HRT HI3 HM3 HB3 HR54
  generalize W3.heap.size = A at *
  have HC := Lib.hid (fun w' (h : Below W4.heap.size W4 w') => show Below W4.heap.size W4 w' ∧ w'.cell? ⟨I, 1, none⟩ = some (.slice (some ⟨g2, 0, none⟩) 32 32) ∧ w'.cell? ⟨g2, rl * 6, none⟩ = some (.string y.l) ∧ w'.cell? ⟨g2, rl * 6 + 1, none⟩ = some (.string y.s) ∧ w'.cell? ⟨g2, rl * 6 + 2, none⟩ = some (.string y.r) ∧ w'.cell? ⟨g2, rl * 6 + 3, none⟩ = some (.string y.tl) ∧ w'.cell? ⟨g2, rl * 6 + 4, none⟩ = some (.string y.ts) ∧ w'.cell? ⟨g2, rl * 6 + 5, none⟩ = some (.string y.tr) from ⟨h, cellA (cs := [_, _, _, _, _, _]) ((h.block _ (lt_of_block HI4.out)).trans HI4.out) rfl, cellA ((HM4.out.below h).l) (flatA (sz := 6) (fun _ => rfl) HY.out (j := 0) rfl), cellA ((HM4.out.below h).l) (flatA (sz := 6) (fun _ => rfl) HY.out (j := 1) rfl), cellA ((HM4.out.below h).l) (flatA (sz := 6) (fun _ => rfl) HY.out (j := 2) rfl), cellA ((HM4.out.below h).l) (flatA (sz := 6) (fun _ => rfl) HY.out (j := 3) rfl), cellA ((HM4.out.below h).l) (flatA (sz := 6) (fun _ => rfl) HY.out (j := 4) rfl), cellA ((HM4.out.below h).l) (flatA (sz := 6) (fun _ => rfl) HY.out (j := 5) rfl)⟩)
  have HRT := Lib.hid HR32.out
  go_upto_region 6 with fail
  refine wp_region_held_drew (S := fun w' => Below W4.heap.size W4 w' ∧ w'.cell? ⟨I, 1, none⟩ = some (.slice (some ⟨g2, 0, none⟩) 32 32) ∧ w'.cell? ⟨g2, rl * 6, none⟩ = some (.string y.l) ∧ w'.cell? ⟨g2, rl * 6 + 1, none⟩ = some (.string y.s) ∧ w'.cell? ⟨g2, rl * 6 + 2, none⟩ = some (.string y.r) ∧ w'.cell? ⟨g2, rl * 6 + 3, none⟩ = some (.string y.tl) ∧ w'.cell? ⟨g2, rl * 6 + 4, none⟩ = some (.string y.ts) ∧ w'.cell? ⟨g2, rl * 6 + 5, none⟩ = some (.string y.tr)) (by kernel_rfl) (HC.out _ (Below.drew (Below.refl _ _))) (fun hHeld => ?_)
  apply held_shellA (R := fun w' => Below W4.heap.size W4 w' ∧ w'.heap[W4.heap.size]? = some (.cells #[.string y.l, .string y.s, .string y.r, .string y.tl, .string y.ts, .string y.tr] 35 (0, 0)))
  exact fun _ _ d _ _ h => by cases d <;> exact h
  rotate_left 1
  · intro KK hKp hfin
    refine wpAnyH_take (i := 0) (v := .pointer (some ⟨I, 1, none⟩)) rfl (by kernel_rfl) (by kernel_rfl) (by kernel_rfl) (fun c a w h => hKp c a _ _ w h) (Or.inl ⟨by kernel_rfl, fun w hSw => by dsimp only at hSw; obtain ⟨-, s0, d0, d1, d2, d3, d4, d5⟩ := hSw; go_simp⟩) (by assumption) ?_
    simp only [Act.put, List.getElem_toArray, List.getElem_cons_zero, List.setIfInBounds_toArray, List.set_cons_zero, List.set_cons_succ]
    refine wpAnyH_take (i := 1) (v := .slice (some ⟨g2, 0, none⟩) 32 32) rfl (by kernel_rfl) (by kernel_rfl) (by kernel_rfl) (fun c a w h => hKp c a _ _ w h) (Or.inl ⟨by kernel_rfl, fun w hSw => by dsimp only at hSw; obtain ⟨-, s0, d0, d1, d2, d3, d4, d5⟩ := hSw; go_simp⟩) (by assumption) ?_
    simp only [Act.put, List.getElem_toArray, List.getElem_cons_zero, List.getElem_cons_succ, List.setIfInBounds_toArray, List.set_cons_zero, List.set_cons_succ]
    refine wpAnyH_take (i := 2) (v := .int .i64 n) rfl (by kernel_rfl) (by kernel_rfl) (by kernel_rfl) (fun c a w h => hKp c a _ _ w h) (Or.inl ⟨by kernel_rfl, fun w hSw => by dsimp only at hSw; obtain ⟨-, s0, d0, d1, d2, d3, d4, d5⟩ := hSw; go_simp⟩) (by assumption) ?_
    simp only [Act.put, List.getElem_toArray, List.getElem_cons_zero, List.getElem_cons_succ, List.setIfInBounds_toArray, List.set_cons_zero, List.set_cons_succ]
    refine wpAnyH_take (i := 3) (v := .pointer (some ⟨I, 1, none⟩)) rfl (by kernel_rfl) (by kernel_rfl) (by kernel_rfl) (fun c a w h => hKp c a _ _ w h) (Or.inl ⟨by kernel_rfl, fun w hSw => by dsimp only at hSw; obtain ⟨-, s0, d0, d1, d2, d3, d4, d5⟩ := hSw; go_simp⟩) (by assumption) ?_
    simp only [Act.put, List.getElem_toArray, List.getElem_cons_zero, List.getElem_cons_succ, List.setIfInBounds_toArray, List.set_cons_zero, List.set_cons_succ]
    refine wpAnyH_take (i := 4) (v := .slice (some ⟨g2, 0, none⟩) 32 32) rfl (by kernel_rfl) (by kernel_rfl) (by kernel_rfl) (fun c a w h => hKp c a _ _ w h) (Or.inl ⟨by kernel_rfl, fun w hSw => by dsimp only at hSw; obtain ⟨-, s0, d0, d1, d2, d3, d4, d5⟩ := hSw; go_simp⟩) (by assumption) ?_
    simp only [Act.put, List.getElem_toArray, List.getElem_cons_zero, List.getElem_cons_succ, List.setIfInBounds_toArray, List.set_cons_zero, List.set_cons_succ]
    refine wpAnyH_take (i := 5) (v := .int .i64 32) rfl (by kernel_rfl) (by kernel_rfl) (by kernel_rfl) (fun c a w h => hKp c a _ _ w h) (Or.inl ⟨by kernel_rfl, fun w hSw => by dsimp only at hSw; obtain ⟨-, s0, d0, d1, d2, d3, d4, d5⟩ := hSw; go_simp⟩) (by assumption) ?_
    simp only [Act.put, List.getElem_toArray, List.getElem_cons_zero, List.getElem_cons_succ, List.setIfInBounds_toArray, List.set_cons_zero, List.set_cons_succ]
    refine wpAnyH_ready (rs := [6, 9]) (by kernel_rfl) (by simp) ?_
    refine AllReadyH.cons rfl (fun Kx hKx => ?_) (AllReadyH.cons rfl (fun Kx hKx => ?_) AllReadyH.nil)
    · try rw [if_pos (by kernel_rfl)]
      go_simp
      refine (HRT.out _).mono ?_
      rintro e w5 ⟨rfl, rfl⟩
      refine hKx.out _ _ (HC.out _ (Below.drew (Below.refl _ _))) (fun hHeld => ?_)
      clear hKx Kx
      try simp only [Act.put, List.getElem_toArray, List.getElem_cons_zero, List.getElem_cons_succ, List.setIfInBounds_toArray, List.set_cons_zero, List.set_cons_succ]
      refine wpAnyH_take (i := 7) (v := .pointer (some ⟨g2, rl * 6, none⟩)) rfl (by kernel_rfl) (by kernel_rfl) (by kernel_rfl) (fun c a w h => hKp c a _ _ w h) (Or.inl ⟨by kernel_rfl, fun w hSw => by dsimp only at hSw; obtain ⟨-, s0, d0, d1, d2, d3, d4, d5⟩ := hSw; go_simp⟩) (by assumption) ?_
      simp only [Act.put, List.getElem_toArray, List.getElem_cons_zero, List.getElem_cons_succ, List.setIfInBounds_toArray, List.set_cons_zero, List.set_cons_succ]
      refine wpAnyH_take (i := 8) (v := .agg #[.string y.l, .string y.s, .string y.r, .string y.tl, .string y.ts, .string y.tr]) rfl (by kernel_rfl) (by kernel_rfl) (by kernel_rfl) (fun c a w h => hKp c a _ _ w h) (Or.inl ⟨by kernel_rfl, fun w hSw => by dsimp only at hSw; obtain ⟨-, s0, d0, d1, d2, d3, d4, d5⟩ := hSw; go_simp⟩) (by assumption) ?_
      simp only [Act.put, List.getElem_toArray, List.getElem_cons_zero, List.getElem_cons_succ, List.setIfInBounds_toArray, List.set_cons_zero, List.set_cons_succ]
      refine wpAnyH_ready (rs := [9]) (by kernel_rfl) (by simp) ?_
      refine AllReadyH.cons rfl (fun Kx hKx => ?_) AllReadyH.nil
      try rw [if_pos (by kernel_rfl)]
      go_simp
      refine hKx.out _ _ (HC.out _ ((Below.drew (Below.refl _ _)).alloc (Nat.le_refl _) _)) (fun hHeld => ?_)
      clear hKx Kx
      try simp only [Act.put, List.getElem_toArray, List.getElem_cons_zero, List.getElem_cons_succ, List.setIfInBounds_toArray, List.set_cons_zero, List.set_cons_succ]
      refine wpAnyH_ready (rs := [10]) (by kernel_rfl) (by simp) ?_
      refine AllReadyH.cons rfl (fun Kx hKx => ?_) AllReadyH.nil
      try rw [if_pos (by kernel_rfl)]
      go_simp
      refine hKx.out _ _ (HC.out _ ((Below.drew (Below.refl _ _)).alloc (Nat.le_refl _) _)) (fun hHeld => ?_)
      clear hKx Kx
      try simp only [Act.put, List.getElem_toArray, List.getElem_cons_zero, List.getElem_cons_succ, List.setIfInBounds_toArray, List.set_cons_zero, List.set_cons_succ]
      refine wpAnyH_done (by kernel_rfl) ?_ _
      exact hfin _ ⟨hHeld.1, World.alloc_heap_new _ _⟩
    · try rw [if_pos (by kernel_rfl)]
      go_simp
      refine hKx.out _ _ (HC.out _ ((Below.drew (Below.refl _ _)).alloc (Nat.le_refl _) _)) (fun hHeld => ?_)
      clear hKx Kx
      try simp only [Act.put, List.getElem_toArray, List.getElem_cons_zero, List.getElem_cons_succ, List.setIfInBounds_toArray, List.set_cons_zero, List.set_cons_succ]
      refine wpAnyH_ready (rs := [6]) (by kernel_rfl) (by simp) ?_
      refine AllReadyH.cons rfl (fun Kx hKx => ?_) AllReadyH.nil
      try rw [if_pos (by kernel_rfl)]
      go_simp
      refine (HRT.out _).mono ?_
      rintro e w5 ⟨rfl, rfl⟩
      refine hKx.out _ _ (HC.out _ ((Below.drew (Below.refl _ _)).alloc (Nat.le_refl _) _)) (fun hHeld => ?_)
      clear hKx Kx
      try simp only [Act.put, List.getElem_toArray, List.getElem_cons_zero, List.getElem_cons_succ, List.setIfInBounds_toArray, List.set_cons_zero, List.set_cons_succ]
      refine wpAnyH_take (i := 7) (v := .pointer (some ⟨g2, rl * 6, none⟩)) rfl (by kernel_rfl) (by kernel_rfl) (by kernel_rfl) (fun c a w h => hKp c a _ _ w h) (Or.inl ⟨by kernel_rfl, fun w hSw => by dsimp only at hSw; obtain ⟨-, s0, d0, d1, d2, d3, d4, d5⟩ := hSw; go_simp⟩) (by assumption) ?_
      simp only [Act.put, List.getElem_toArray, List.getElem_cons_zero, List.getElem_cons_succ, List.setIfInBounds_toArray, List.set_cons_zero, List.set_cons_succ]
      refine wpAnyH_take (i := 8) (v := .agg #[.string y.l, .string y.s, .string y.r, .string y.tl, .string y.ts, .string y.tr]) rfl (by kernel_rfl) (by kernel_rfl) (by kernel_rfl) (fun c a w h => hKp c a _ _ w h) (Or.inl ⟨by kernel_rfl, fun w hSw => by dsimp only at hSw; obtain ⟨-, s0, d0, d1, d2, d3, d4, d5⟩ := hSw; go_simp⟩) (by assumption) ?_
      simp only [Act.put, List.getElem_toArray, List.getElem_cons_zero, List.getElem_cons_succ, List.setIfInBounds_toArray, List.set_cons_zero, List.set_cons_succ]
      refine wpAnyH_ready (rs := [10]) (by kernel_rfl) (by simp) ?_
      refine AllReadyH.cons rfl (fun Kx hKx => ?_) AllReadyH.nil
      try rw [if_pos (by kernel_rfl)]
      go_simp
      refine hKx.out _ _ (HC.out _ ((Below.drew (Below.refl _ _)).alloc (Nat.le_refl _) _)) (fun hHeld => ?_)
      clear hKx Kx
      try simp only [Act.put, List.getElem_toArray, List.getElem_cons_zero, List.getElem_cons_succ, List.setIfInBounds_toArray, List.set_cons_zero, List.set_cons_succ]
      refine wpAnyH_done (by kernel_rfl) ?_ _
      exact hfin _ ⟨hHeld.1, World.alloc_heap_new _ _⟩
  rintro W5 ⟨hb5, hz5⟩
  have HI5 := Lib.hid ((hb5.block _ (lt_of_block HI4.out)).trans HI4.out)
  have HM5 := Lib.hid (HM4.out.below hb5)
  have HB5 := Lib.hid (HB4.out.trans (hb5.mono HB4.out.size))
  have HA5 := Lib.hid ((hb5.block _ (lt_of_block HZ4.out)).trans HZ4.out)
  have HL5 := Lib.hid hz5
  clear hb5 hz5 HC HRT HI4 HM4 HB4 HR32 HZ4
  generalize W4.heap.size = L at *
  have HCA := Lib.hid (fun w' (h : Below W5.heap.size W5 w') => show w'.cell? ⟨A, 0, none⟩ = some (.int .i64 x.k) ∧ w'.cell? ⟨A, 1, none⟩ = some (.string x.a) ∧ w'.cell? ⟨A, 2, none⟩ = some (.string x.b) ∧ w'.cell? ⟨A, 3, none⟩ = some (.string x.l) ∧ w'.cell? ⟨A, 4, none⟩ = some (.string x.s) ∧ w'.cell? ⟨A, 5, none⟩ = some (.string x.r) from ⟨cellA (cs := [_, _, _, _, _, _]) ((h.block _ (lt_of_block HA5.out)).trans HA5.out) rfl, cellA (cs := [_, _, _, _, _, _]) ((h.block _ (lt_of_block HA5.out)).trans HA5.out) rfl, cellA (cs := [_, _, _, _, _, _]) ((h.block _ (lt_of_block HA5.out)).trans HA5.out) rfl, cellA (cs := [_, _, _, _, _, _]) ((h.block _ (lt_of_block HA5.out)).trans HA5.out) rfl, cellA (cs := [_, _, _, _, _, _]) ((h.block _ (lt_of_block HA5.out)).trans HA5.out) rfl, cellA (cs := [_, _, _, _, _, _]) ((h.block _ (lt_of_block HA5.out)).trans HA5.out) rfl⟩)
  have HCL := Lib.hid (fun w' (h : Below W5.heap.size W5 w') => show w'.cell? ⟨L, 0, none⟩ = some (.string y.l) ∧ w'.cell? ⟨L, 1, none⟩ = some (.string y.s) ∧ w'.cell? ⟨L, 2, none⟩ = some (.string y.r) ∧ w'.cell? ⟨L, 3, none⟩ = some (.string y.tl) ∧ w'.cell? ⟨L, 4, none⟩ = some (.string y.ts) ∧ w'.cell? ⟨L, 5, none⟩ = some (.string y.tr) from ⟨cellA (cs := [_, _, _, _, _, _]) ((h.block _ (lt_of_block HL5.out)).trans HL5.out) rfl, cellA (cs := [_, _, _, _, _, _]) ((h.block _ (lt_of_block HL5.out)).trans HL5.out) rfl, cellA (cs := [_, _, _, _, _, _]) ((h.block _ (lt_of_block HL5.out)).trans HL5.out) rfl, cellA (cs := [_, _, _, _, _, _]) ((h.block _ (lt_of_block HL5.out)).trans HL5.out) rfl, cellA (cs := [_, _, _, _, _, _]) ((h.block _ (lt_of_block HL5.out)).trans HL5.out) rfl, cellA (cs := [_, _, _, _, _, _]) ((h.block _ (lt_of_block HL5.out)).trans HL5.out) rfl⟩)
  have HCI := Lib.hid (fun w' (h : Below W5.heap.size W5 w') => show w'.cell? ⟨I, 0, none⟩ = some (.slice (some ⟨g1, 0, none⟩) 54 54) ∧ w'.cell? ⟨I, 1, none⟩ = some (.slice (some ⟨g2, 0, none⟩) 32 32) ∧ w'.cell? ⟨I, 2, none⟩ = some (.slice (some ⟨g3, 0, none⟩) 15 15) ∧ w'.cell? ⟨I, 3, none⟩ = some (.slice (some ⟨g4, 0, none⟩) 7 7) ∧ w'.cell? ⟨I, 4, none⟩ = some (.int .i64 40) ∧ w'.cell? ⟨I, 5, none⟩ = some (.int .i64 5) from ⟨cellA (cs := [_, _, _, _, _, _]) ((h.block _ (lt_of_block HI5.out)).trans HI5.out) rfl, cellA (cs := [_, _, _, _, _, _]) ((h.block _ (lt_of_block HI5.out)).trans HI5.out) rfl, cellA (cs := [_, _, _, _, _, _]) ((h.block _ (lt_of_block HI5.out)).trans HI5.out) rfl, cellA (cs := [_, _, _, _, _, _]) ((h.block _ (lt_of_block HI5.out)).trans HI5.out) rfl, cellA (cs := [_, _, _, _, _, _]) ((h.block _ (lt_of_block HI5.out)).trans HI5.out) rfl, cellA (cs := [_, _, _, _, _, _]) ((h.block _ (lt_of_block HI5.out)).trans HI5.out) rfl⟩)
  have l5 := HCL.out _ (Below.refl _ _)
  obtain ⟨l50, l51, l52, l53, l54, l55⟩ := l5
  go_upto_region 8 with (go_at_call 9; (with_reducible refine (HFY.out _).mono ?_); rintro e w7 ⟨rfl, hb7⟩)
  have hb7a := hb7.alloc hb7.size (.cells #[.string z.l, .string z.s, .string z.r, .string z.tl, .string z.ts, .string z.tr] 35)
  have l7 := HCL.out _ hb7a
  obtain ⟨l70, l71, l72, l73, l74, l75⟩ := l7
  have a7 := HCA.out _ hb7a
  obtain ⟨a0, a1, a2, a3, a4, a5⟩ := a7
  have i7 := HCI.out _ hb7a
  obtain ⟨i0, i1, i2, i3, i4, i5⟩ := i7
  have hzt := HZT.out
  clear l50 l51 l52 l53 l54 l55
  go_upto_region 10 with fail
  clear l70 l71 l72 l73 l74 l75 hzt
  generalize w7.alloc (.cells #[.string z.l, .string z.s, .string z.r, .string z.tl, .string z.ts, .string z.tr] 35) = W8 at *
  have HB8 := Lib.hid hb7a
  have HBF := Lib.hid (fun w' (h : Below W8.heap.size W8 w') => show Below w.heap.size w w' from (HB5.out.trans (HB8.out.mono HB5.out.size)).trans (h.mono (Nat.le_trans HB5.out.size HB8.out.size)))
  have HFN := Lib.hid (fun (kk : Int) (a b : ByteArray) w' (h : Below W8.heap.size W8 w') (zz : Bool) (hzz : finalN T15 kk a b = zz) (h1 : (Lit.int .i64 kk).wf = true) (h2 : a.size ≤ maxLen) (h3 : b.size ≤ maxLen) =>
    (final_15 kk a b w' b0 g1 g2 g3 g4 (HM5.out.below (HB8.out.trans (h.mono HB8.out.size))) h1 h2 h3).mono (R' := fun e w'' => e = .returned (.bool zz) ∧ Below W8.heap.size W8 w'') fun e w'' ⟨p, q⟩ => ⟨by rw [p, hzz], h.trans (q.mono h.size)⟩)
  have HCX := Lib.hid (fun w' (h : Below W8.heap.size W8 w') => And.intro (HCI.out w' (HB8.out.trans (h.mono HB8.out.size))) (HCA.out w' (HB8.out.trans (h.mono HB8.out.size))))
  have hs := HSX.out
  unfold smallB at hs
  simp only [Bool.and_eq_true, decide_eq_true_iff] at hs
  obtain ⟨hk, s1, s2, s3, s4, s5⟩ := hs
  have he := HEX.out
  have hr8 : Below W8.heap.size W8 W8 := Below.refl _ _
  clear hb7 hb7a HCA HCL HCI HM5 HB5 HI5 HA5 HL5 HFY HEX HSX HX HY HB8
  unfold endsB at he
  obtain ⟨k, xa, xb, xl, xs, xr⟩ := x
  simp only at he hk s1 s2 s3 s4 s5 a0 a1 a2 a3 a4 a5
  have m1 : xa.size ≤ maxLen := by unfold maxLen; omega
  have m2 : xb.size ≤ maxLen := by unfold maxLen; omega
  have m3 : xl.size ≤ maxLen := by unfold maxLen; omega
  have m0 : E15.size ≤ maxLen := by unfold maxLen; decide
  have c1 : ¬ 9223372036854775807 < xl.size + xs.size := by omega
  have c2 : ¬ 9223372036854775807 < (xl ++ xs).size + xr.size := by rw [ByteArray.size_append]; omega
  have m4 : (xl ++ xs ++ xr).size ≤ maxLen := by rw [ByteArray.size_append, ByteArray.size_append]; unfold maxLen; omega
  have hk7 : k = 1 ∨ k = 2 ∨ k = 3 ∨ k = 4 ∨ k = 5 ∨ k = 6 ∨ k = 7 := by omega
  clear s1 s2 s3 s4 s5 hk
  rcases hk7 with rfl | rfl | rfl | rfl | rfl | rfl | rfl
  · have e1 : finalN T15 3 xl E15 = true := by simpa using he
    have F2 := Lib.hid (fun w' (h : Below W8.heap.size W8 w') => show Calls Try.prog 13 #[.agg #[.slice (some ⟨g1, 0, none⟩) 54 54, .slice (some ⟨g2, 0, none⟩) 32 32, .slice (some ⟨g3, 0, none⟩) 15 15, .slice (some ⟨g4, 0, none⟩) 7 7, .int .i64 40, .int .i64 5], .int .i64 3, .string xl, .string { data := #[] }] w' (fun e w'' => e = .returned (.bool true) ∧ Below W8.heap.size W8 w'') from HFN.out 3 xl E15 w' h true e1 (by decide) m3 m0)
    clear he HFN e1 m0 m1 m2 m3 m4
    go_wp2_with (go_at_call 13; (with_reducible refine (F2.out _ hr8).mono ?_); rintro e w9 ⟨rfl, hb9⟩)
    go_ret
    exact ⟨rfl, HBF.out _ hb9⟩
  · have e12 : finalN T15 3 xa E15 = false ∧ finalN T15 3 xl E15 = true := by simpa using he
    obtain ⟨e1, e2⟩ := e12
    have F1 := Lib.hid (fun w' (h : Below W8.heap.size W8 w') => show Calls Try.prog 13 #[.agg #[.slice (some ⟨g1, 0, none⟩) 54 54, .slice (some ⟨g2, 0, none⟩) 32 32, .slice (some ⟨g3, 0, none⟩) 15 15, .slice (some ⟨g4, 0, none⟩) 7 7, .int .i64 40, .int .i64 5], .int .i64 3, .string xa, .string { data := #[] }] w' (fun e w'' => e = .returned (.bool false) ∧ Below W8.heap.size W8 w'') from HFN.out 3 xa E15 w' h false e1 (by decide) m1 m0)
    have F2 := Lib.hid (fun w' (h : Below W8.heap.size W8 w') => show Calls Try.prog 13 #[.agg #[.slice (some ⟨g1, 0, none⟩) 54 54, .slice (some ⟨g2, 0, none⟩) 32 32, .slice (some ⟨g3, 0, none⟩) 15 15, .slice (some ⟨g4, 0, none⟩) 7 7, .int .i64 40, .int .i64 5], .int .i64 3, .string xl, .string { data := #[] }] w' (fun e w'' => e = .returned (.bool true) ∧ Below W8.heap.size W8 w'') from HFN.out 3 xl E15 w' h true e2 (by decide) m3 m0)
    clear he HFN e1 e2 m0 m1 m2 m3 m4
    go_wp2_with (first
      | (go_at_call 13; (with_reducible refine (F1.out _ hr8).mono ?_); rintro e w9 ⟨rfl, hb9⟩; have h9 := HCX.out _ hb9; obtain ⟨⟨j0, j1, j2, j3, j4, j5⟩, b0', b1, b2, b3, b4, b5⟩ := h9)
      | (go_at_call 13; (with_reducible refine (F2.out _ hb9).mono ?_); rintro e w10 ⟨rfl, hb10⟩))
    go_ret
    exact ⟨rfl, HBF.out _ hb10⟩
  · have e12 : finalN T15 3 xa E15 = false ∧ finalN T15 3 xl E15 = true := by simpa using he
    obtain ⟨e1, e2⟩ := e12
    have F1 := Lib.hid (fun w' (h : Below W8.heap.size W8 w') => show Calls Try.prog 13 #[.agg #[.slice (some ⟨g1, 0, none⟩) 54 54, .slice (some ⟨g2, 0, none⟩) 32 32, .slice (some ⟨g3, 0, none⟩) 15 15, .slice (some ⟨g4, 0, none⟩) 7 7, .int .i64 40, .int .i64 5], .int .i64 3, .string xa, .string { data := #[] }] w' (fun e w'' => e = .returned (.bool false) ∧ Below W8.heap.size W8 w'') from HFN.out 3 xa E15 w' h false e1 (by decide) m1 m0)
    have F2 := Lib.hid (fun w' (h : Below W8.heap.size W8 w') => show Calls Try.prog 13 #[.agg #[.slice (some ⟨g1, 0, none⟩) 54 54, .slice (some ⟨g2, 0, none⟩) 32 32, .slice (some ⟨g3, 0, none⟩) 15 15, .slice (some ⟨g4, 0, none⟩) 7 7, .int .i64 40, .int .i64 5], .int .i64 3, .string xl, .string { data := #[] }] w' (fun e w'' => e = .returned (.bool true) ∧ Below W8.heap.size W8 w'') from HFN.out 3 xl E15 w' h true e2 (by decide) m3 m0)
    clear he HFN e1 e2 m0 m1 m2 m3 m4
    go_wp2_with (first
      | (go_at_call 13; (with_reducible refine (F1.out _ hr8).mono ?_); rintro e w9 ⟨rfl, hb9⟩; have h9 := HCX.out _ hb9; obtain ⟨⟨j0, j1, j2, j3, j4, j5⟩, b0', b1, b2, b3, b4, b5⟩ := h9)
      | (go_at_call 13; (with_reducible refine (F2.out _ hb9).mono ?_); rintro e w10 ⟨rfl, hb10⟩))
    go_ret
    exact ⟨rfl, HBF.out _ hb10⟩
  · have e12 : finalN T15 4 xa E15 = false ∧ finalN T15 4 (xl ++ xs ++ xr) E15 = true := by simpa using he
    obtain ⟨e1, e2⟩ := e12
    have F1 := Lib.hid (fun w' (h : Below W8.heap.size W8 w') => show Calls Try.prog 13 #[.agg #[.slice (some ⟨g1, 0, none⟩) 54 54, .slice (some ⟨g2, 0, none⟩) 32 32, .slice (some ⟨g3, 0, none⟩) 15 15, .slice (some ⟨g4, 0, none⟩) 7 7, .int .i64 40, .int .i64 5], .int .i64 4, .string xa, .string { data := #[] }] w' (fun e w'' => e = .returned (.bool false) ∧ Below W8.heap.size W8 w'') from HFN.out 4 xa E15 w' h false e1 (by decide) m1 m0)
    have F2 := Lib.hid (fun w' (h : Below W8.heap.size W8 w') => show Calls Try.prog 13 #[.agg #[.slice (some ⟨g1, 0, none⟩) 54 54, .slice (some ⟨g2, 0, none⟩) 32 32, .slice (some ⟨g3, 0, none⟩) 15 15, .slice (some ⟨g4, 0, none⟩) 7 7, .int .i64 40, .int .i64 5], .int .i64 4, .string (xl ++ xs ++ xr), .string { data := #[] }] w' (fun e w'' => e = .returned (.bool true) ∧ Below W8.heap.size W8 w'') from HFN.out 4 (xl ++ xs ++ xr) E15 w' h true e2 (by decide) m4 m0)
    clear he HFN e1 e2 m0 m1 m2 m3 m4
    go_wp2_with (first
      | (go_at_call 13; (with_reducible refine (F1.out _ hr8).mono ?_); rintro e w9 ⟨rfl, hb9⟩; have h9 := HCX.out _ hb9; obtain ⟨⟨j0, j1, j2, j3, j4, j5⟩, b0', b1, b2, b3, b4, b5⟩ := h9)
      | (go_at_call 13; (with_reducible refine (F2.out _ hb9).mono ?_); rintro e w10 ⟨rfl, hb10⟩))
    go_ret
    exact ⟨rfl, HBF.out _ hb10⟩
  · have e12 : finalN T15 5 xa E15 = false ∧ finalN T15 5 (xl ++ xs ++ xr) E15 = true := by simpa using he
    obtain ⟨e1, e2⟩ := e12
    have F1 := Lib.hid (fun w' (h : Below W8.heap.size W8 w') => show Calls Try.prog 13 #[.agg #[.slice (some ⟨g1, 0, none⟩) 54 54, .slice (some ⟨g2, 0, none⟩) 32 32, .slice (some ⟨g3, 0, none⟩) 15 15, .slice (some ⟨g4, 0, none⟩) 7 7, .int .i64 40, .int .i64 5], .int .i64 5, .string xa, .string { data := #[] }] w' (fun e w'' => e = .returned (.bool false) ∧ Below W8.heap.size W8 w'') from HFN.out 5 xa E15 w' h false e1 (by decide) m1 m0)
    have F2 := Lib.hid (fun w' (h : Below W8.heap.size W8 w') => show Calls Try.prog 13 #[.agg #[.slice (some ⟨g1, 0, none⟩) 54 54, .slice (some ⟨g2, 0, none⟩) 32 32, .slice (some ⟨g3, 0, none⟩) 15 15, .slice (some ⟨g4, 0, none⟩) 7 7, .int .i64 40, .int .i64 5], .int .i64 5, .string (xl ++ xs ++ xr), .string { data := #[] }] w' (fun e w'' => e = .returned (.bool true) ∧ Below W8.heap.size W8 w'') from HFN.out 5 (xl ++ xs ++ xr) E15 w' h true e2 (by decide) m4 m0)
    clear he HFN e1 e2 m0 m1 m2 m3 m4
    go_wp2_with (first
      | (go_at_call 13; (with_reducible refine (F1.out _ hr8).mono ?_); rintro e w9 ⟨rfl, hb9⟩; have h9 := HCX.out _ hb9; obtain ⟨⟨j0, j1, j2, j3, j4, j5⟩, b0', b1, b2, b3, b4, b5⟩ := h9)
      | (go_at_call 13; (with_reducible refine (F2.out _ hb9).mono ?_); rintro e w10 ⟨rfl, hb10⟩))
    go_ret
    exact ⟨rfl, HBF.out _ hb10⟩
  · have e12 : finalN T15 6 xa E15 = false ∧ finalN T15 6 (xl ++ xs ++ xr) E15 = true := by simpa using he
    obtain ⟨e1, e2⟩ := e12
    have F1 := Lib.hid (fun w' (h : Below W8.heap.size W8 w') => show Calls Try.prog 13 #[.agg #[.slice (some ⟨g1, 0, none⟩) 54 54, .slice (some ⟨g2, 0, none⟩) 32 32, .slice (some ⟨g3, 0, none⟩) 15 15, .slice (some ⟨g4, 0, none⟩) 7 7, .int .i64 40, .int .i64 5], .int .i64 6, .string xa, .string { data := #[] }] w' (fun e w'' => e = .returned (.bool false) ∧ Below W8.heap.size W8 w'') from HFN.out 6 xa E15 w' h false e1 (by decide) m1 m0)
    have F2 := Lib.hid (fun w' (h : Below W8.heap.size W8 w') => show Calls Try.prog 13 #[.agg #[.slice (some ⟨g1, 0, none⟩) 54 54, .slice (some ⟨g2, 0, none⟩) 32 32, .slice (some ⟨g3, 0, none⟩) 15 15, .slice (some ⟨g4, 0, none⟩) 7 7, .int .i64 40, .int .i64 5], .int .i64 6, .string (xl ++ xs ++ xr), .string { data := #[] }] w' (fun e w'' => e = .returned (.bool true) ∧ Below W8.heap.size W8 w'') from HFN.out 6 (xl ++ xs ++ xr) E15 w' h true e2 (by decide) m4 m0)
    clear he HFN e1 e2 m0 m1 m2 m3 m4
    go_wp2_with (first
      | (go_at_call 13; (with_reducible refine (F1.out _ hr8).mono ?_); rintro e w9 ⟨rfl, hb9⟩; have h9 := HCX.out _ hb9; obtain ⟨⟨j0, j1, j2, j3, j4, j5⟩, b0', b1, b2, b3, b4, b5⟩ := h9)
      | (go_at_call 13; (with_reducible refine (F2.out _ hb9).mono ?_); rintro e w10 ⟨rfl, hb10⟩))
    go_ret
    exact ⟨rfl, HBF.out _ hb10⟩
  · have e12 : finalN T15 7 xa xb = false ∧ finalN T15 7 xa xl = true := by simpa using he
    obtain ⟨e1, e2⟩ := e12
    have F1 := Lib.hid (fun w' (h : Below W8.heap.size W8 w') => show Calls Try.prog 13 #[.agg #[.slice (some ⟨g1, 0, none⟩) 54 54, .slice (some ⟨g2, 0, none⟩) 32 32, .slice (some ⟨g3, 0, none⟩) 15 15, .slice (some ⟨g4, 0, none⟩) 7 7, .int .i64 40, .int .i64 5], .int .i64 7, .string xa, .string xb] w' (fun e w'' => e = .returned (.bool false) ∧ Below W8.heap.size W8 w'') from HFN.out 7 xa xb w' h false e1 (by decide) m1 m2)
    have F2 := Lib.hid (fun w' (h : Below W8.heap.size W8 w') => show Calls Try.prog 13 #[.agg #[.slice (some ⟨g1, 0, none⟩) 54 54, .slice (some ⟨g2, 0, none⟩) 32 32, .slice (some ⟨g3, 0, none⟩) 15 15, .slice (some ⟨g4, 0, none⟩) 7 7, .int .i64 40, .int .i64 5], .int .i64 7, .string xa, .string xl] w' (fun e w'' => e = .returned (.bool true) ∧ Below W8.heap.size W8 w'') from HFN.out 7 xa xl w' h true e2 (by decide) m1 m3)
    clear he HFN e1 e2 m0 m1 m2 m3 m4
    go_wp2_with (first
      | (go_at_call 13; (with_reducible refine (F1.out _ hr8).mono ?_); rintro e w9 ⟨rfl, hb9⟩; have h9 := HCX.out _ hb9; obtain ⟨⟨j0, j1, j2, j3, j4, j5⟩, b0', b1, b2, b3, b4, b5⟩ := h9)
      | (go_at_call 13; (with_reducible refine (F2.out _ hb9).mono ?_); rintro e w10 ⟨rfl, hb10⟩))
    go_ret
    exact ⟨rfl, HBF.out _ hb10⟩
end Go.Proofs.Ytohogofehfbjoaa
