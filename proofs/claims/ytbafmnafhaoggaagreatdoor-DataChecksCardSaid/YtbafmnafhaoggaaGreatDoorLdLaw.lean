/-
  DataChecks: the image may be used; its bytes are loaded to it; with another byte they are none, or another one. (Printed by wip/gen_ldlaw.py.)
-/
import Derived.Test.YtbafmnafhaoggaaGreatDoorLdMath
import Derived.Test.YtbafmnafhaoggaaGreatDoorLdLoad
import Derived.BigQuiet
import Derived.Deep.QuietTactic
import Derived.Deep.RegionHeld3
namespace Go.Proofs.YtbafmnafhaoggaaGreatDoor
open Go Go.RowKit

theorem held_shellD {P : Program} {md : Region.Mode} {ops : Array Oper} {S R : World → Prop} {Q : Exit → Act → World → Prop} {n : Nat} {l : Array Bool} {a : Act} {w : World} {aF : Act} (h1 : ∀ c (a : Act) d v w, Q (.panic c) (a.put d v) w → Q (.panic c) a w) (h2 : ∀ w, R w → Q .normal aF w)
    (h3 : ∀ K : Exit → Act → World → Prop, (∀ c (a : Act) d v w, K (.panic c) (a.put d v) w → K (.panic c) a w) → (∀ w, R w → K .normal aF w) → wpAnyH P md ops K S n l a w) : wpAnyH P md ops Q S n l a w := h3 Q h1 h2
theorem wpAnyH_strongD {P : Program} {md : Region.Mode} {ops : Array Oper} {Q : Exit → Act → World → Prop} {S S' : World → Prop} (h : ∀ w, S' w → S w) : ∀ (fuel : Nat) (l : Array Bool) (a : Act) (w : World), wpAnyH P md ops Q S' fuel l a w → wpAnyH P md ops Q S fuel l a w
  | 0, _, _, _, hh => hh
  | fuel + 1, _, _, _, hh => ⟨hh.1, fun i hi => wpOp_mono (fun a' w' h' => ⟨h _ h'.1, wpAnyH_strongD h fuel _ a' w' h'.2⟩) (hh.2 i hi)⟩
theorem conv_oneD (c : UInt8) (B : Nat) (w2 : World) (h : w2.cell? ⟨B, 0, none⟩ = some (.int .u8 (c.toNat : Int))) : (convert 37 9 (.slice (some ⟨B, 0, none⟩) 1 1)).run Tryz.prog w2 = .ok (.string (ofL [c])) w2 :=
  run_convert_bytes_back (P := Tryz.prog) w2 37 9 5 ⟨B, 0, none⟩ 1 [c] Tryz.underlying37 Tryz.underlying5 Tryz.underlying9 (fun j hj => by
    obtain rfl : j = 0 := by simpa using hj
    rw [Addr.add_lit]
    exact h)
theorem check15 {g1 g2 g3 g4 b : Nat} (w : World) (hi : Im15 w b g1 g2 g3 g4) (hg : GL w) :
    Calls Tryz.prog 7 #[.agg #[.slice (some ⟨g1, 0, none⟩) 54 54, .slice (some ⟨g2, 0, none⟩) 32 32, .slice (some ⟨g3, 0, none⟩) 15 15, .slice (some ⟨g4, 0, none⟩) 7 7, .int .i64 40, .int .i64 5]] w fun e w' => e = .returned .nilIface ∧ Below w.heap.size w w' := by
  have h := chkO_any (some ⟨g1, 0, none⟩) (some ⟨g2, 0, none⟩) (some ⟨g3, 0, none⟩) (some ⟨g4, 0, none⟩) 54 32 15 7 im15 w hi.imr ims15 hg
  obtain ⟨e0, e1, e2, e3⟩ := cnt15
  rw [e0, e1, e2, e3, chk15] at h
  exact h.mono fun e w' ⟨v, p, q, r⟩ => ⟨by rw [p, show v = .nilIface from q], r⟩
theorem field15 (g1 g2 g3 g4 : Nat) (w' : World) : (Instr.field 29 (.agg #[.slice (some ⟨g1, 0, none⟩) 54 54, .slice (some ⟨g2, 0, none⟩) 32 32, .slice (some ⟨g3, 0, none⟩) 15 15, .slice (some ⟨g4, 0, none⟩) 7 7, .int .i64 40, .int .i64 5]) 0).run Tryz.prog w' = .ok (.slice (some ⟨g1, 0, none⟩) 54 54) w' := by kernel_rfl
set_option maxRecDepth 1000000 in
set_option maxHeartbeats 16000000 in
theorem dataChecks_law (a0 a1 : Int) (w : World) (h1 : (Lit.int .u8 a1).wf = true) (hg : GL w) :
    Calls Tryz.prog 3 #[.int .i64 a0, .int .u8 a1] w fun e w' => e = .returned (.bool true) ∧ Below w.heap.size w w' := by
  obtain ⟨c, rfl⟩ : ∃ c : UInt8, a1 = (c.toNat : Int) := by
    have h : 0 ≤ a1 ∧ a1 ≤ 255 := by simpa [Lit.wf, IntKind.min, IntKind.max, IntKind.signed, IntKind.bits] using h1
    refine ⟨UInt8.ofNat a1.toNat, ?_⟩
    rw [UInt8.toNat_ofNat']
    omega
  have AW := Lib.hid (awake15_any w)
  have HGL := Lib.hid (fun w' (h : Below w.heap.size w w') => hg.below h hg.size)
  have BY := Lib.hid (fun w' (h : Below w.heap.size w w') => bytes_15 w' (HGL.out w' h))
  have CK := Lib.hid (fun (g1 g2 g3 g4 b : Nat) w' (hi : Im15 w' b g1 g2 g3 g4) (h : Below w.heap.size w w') => check15 w' hi (HGL.out w' h))
  have HIM := Lib.hid (fun w' => image_15 w')
  have LD := Lib.hid (fun x w' (hx : x.size ≤ 1048576) (h : Below w.heap.size w w') => load_any x w' hx (HGL.out w' h))
  obtain ⟨hsz, hok, hck, hcn⟩ := load15
  generalize encB im15 = t at *
  have hne0 : t.toList.isEmpty = false := by
    rw [ByteArray.toList_eq]
    cases hp : t.data.toList with
    | nil => exact absurd (show t.size = 0 by have := congrArg List.length hp; simpa using this) (by omega)
    | cons a b => rfl
  have L1 := Lib.hid (fun w' (h : Below w.heap.size w w') => (LD.out t w' (by omega) h).mono (R' := fun e w'' => ∃ q1 d1 q2 n2 d2 q3 n3 d3 q4 n4 d4 th de, e = .returned (.tuple #[.agg #[.slice q1 54 d1, .slice q2 n2 d2, .slice q3 n3 d3, .slice q4 n4 d4, .int .i64 th, .int .i64 de], .nilIface]) ∧ Below w'.heap.size w' w'') fun e w'' ⟨hD, hb⟩ => by
    rcases hD with ⟨-, v1, v2, v3, v4, rfl, hJ⟩ | ⟨hno, -⟩
    · obtain ⟨e1, f1, e2, f2, e3, f3, e4, f4, rfl, rfl, rfl, rfl⟩ := hJ.slices
      rw [hcn]
      exact ⟨_, _, _, _, _, _, _, _, _, _, _, _, _, rfl, hb⟩
    · exact (hno ⟨hok, hck⟩).elim)
  have HOK := Lib.hid (And.intro hok hck)
  have f15 := field15
  clear h1 hg hok hck hcn
  go_enter Tryz.func3, Tryz.ntmps3
  go_upto_region 2 with (go_at_call 4; (with_reducible refine AW.out.mono ?_); rintro e w1 ⟨rfl, hb1⟩)
  go_upto_region 3 with (go_at_call 5; (with_reducible refine (BY.out _ hb1).mono ?_); rintro e w2 ⟨rfl, hb2⟩)
  have hb02 := hb1.trans (hb2.mono hb1.size)
  go_upto_region 4 with (go_at_call 6; (with_reducible refine (L1.out _ hb02).mono ?_); rintro e w3 ⟨q1, d1, q2, n2, d2, q3, n3, d3, q4, n4, d4, th, de, rfl, hb3⟩)
  obtain ⟨W4, hW4⟩ : ∃ x, w3.alloc (.cells #[.slice q1 54 d1, .slice q2 n2 d2, .slice q3 n3 d3, .slice q4 n4 d4, .int .i64 th, .int .i64 de] 29) = x := ⟨_, rfl⟩
  have hX4 : W4.heap[w3.heap.size]? = some (.cells #[.slice q1 54 d1, .slice q2 n2 d2, .slice q3 n3 d3, .slice q4 n4 d4, .int .i64 th, .int .i64 de] 29 (0, 0)) := by rw [← hW4]; exact World.alloc_heap_new _ _
  have hb4 : Below w3.heap.size w3 W4 := by rw [← hW4]; exact (Below.refl _ _).alloc (Nat.le_refl _) _
  rw [hW4]
  clear hW4
  have HB4 := Lib.hid ((hb02.trans (hb3.mono hb02.size)).trans (hb4.mono (Nat.le_trans hb02.size hb3.size)))
  have HS := Lib.hid (fun w' (h : Below W4.heap.size W4 w') => (show Below W4.heap.size W4 w' ∧ w'.cell? ⟨w3.heap.size, 0, none⟩ = some (.slice q1 54 d1) from ⟨h, (cells6 ((h.block _ (lt_of_block hX4)).trans hX4)).1⟩))
  have IMG := Lib.hid (fun w5 (h : Below W4.heap.size W4 w5) => (HIM.out w5).mono (R' := fun e w' => ∃ g1 g2 g3 g4, e = .returned (.agg #[.slice (some ⟨g1, 0, none⟩) 54 54, .slice (some ⟨g2, 0, none⟩) 32 32, .slice (some ⟨g3, 0, none⟩) 15 15, .slice (some ⟨g4, 0, none⟩) 7 7, .int .i64 40, .int .i64 5]) ∧ Im15 w' w5.heap.size g1 g2 g3 g4 ∧ Below W4.heap.size W4 w') fun e w' ⟨g1, g2, g3, g4, p, q, r⟩ => ⟨g1, g2, g3, g4, p, q, h.trans (r.mono h.size)⟩)
  have CKK := Lib.hid (fun (g1 g2 g3 g4 b : Nat) w5 (hi : Im15 w5 b g1 g2 g3 g4) (h : Below W4.heap.size W4 w5) => (CK.out g1 g2 g3 g4 b w5 hi (HB4.out.trans (h.mono HB4.out.size))).mono (R' := fun e w' => e = .returned .nilIface ∧ Below W4.heap.size W4 w') fun e w' ⟨p, q⟩ => ⟨p, h.trans (q.mono h.size)⟩)
  have c40 := (HS.out W4 (Below.refl _ _)).2
  generalize w3.heap.size = nB at *
  clear hb1 hb2 hb02 hb3 hb4 hX4 AW BY CK HIM L1
  have hmd : Below W4.heap.size W4 W4.drew := Below.drew (Below.refl _ _)
  go_region_held3 (fun w' => Below W4.heap.size W4 w' ∧ w'.cell? ⟨nB, 0, none⟩ = some (.slice q1 54 d1))
    (exact HS.out _ (by assumption))
    (first
      | (go_at_call 8; (with_reducible refine (IMG.out _ (by assumption)).mono ?_); rintro e u1 ⟨g1, g2, g3, g4, rfl, hI, hu1⟩)
      | (go_at_call 7; (with_reducible refine (CKK.out _ _ _ _ _ _ hI (by assumption)).mono ?_); rintro e u2 ⟨rfl, hu2⟩))
  obtain ⟨wo, rfl⟩ : ∃ x, x = u1 := ⟨_, rfl⟩
  have HBO := Lib.hid (HB4.out.trans (hu1.mono HB4.out.size))
  have hi := rest15V_lt a0 t.size (by omega)
  have RR := Lib.hid (fun w5 => rest15_any a0 t.size w5 (by omega) (by omega))
  generalize rest15V a0 t.size = i at *
  have hcv := conv_oneD c
  have hcs : (ofL [c]).size = 1 := rfl
  generalize ofL [c] = cc at *
  obtain ⟨p1, hp1⟩ : ∃ p1, t.extract 0 i = p1 := ⟨_, rfl⟩
  obtain ⟨p2, hp2⟩ : ∃ p2, t.extract (i + 1) t.size = p2 := ⟨_, rfl⟩
  have y1 : p1.size ≤ 9374 := by rw [← hp1, ByteArray.size_extract]; omega
  have y2 : p2.size ≤ 9374 := by rw [← hp2, ByteArray.size_extract]; omega
  obtain ⟨x1, hx1⟩ : ∃ x1, p1 ++ cc = x1 := ⟨_, rfl⟩
  have y3 : x1.size ≤ 9375 := by rw [← hx1, ByteArray.size_append]; omega
  obtain ⟨x2, hx2⟩ : ∃ x2, x1 ++ p2 = x2 := ⟨_, rfl⟩
  have zx : x2.size ≤ 1048576 := by rw [← hx2, ByteArray.size_append]; omega
  have o1 : ¬ 9223372036854775807 < p1.size + cc.size := by omega
  have o2 : ¬ 9223372036854775807 < x1.size + p2.size := by omega
  have hr1 : (i : Int) ≤ (t.size : Int) := by omega
  have hr2 : (i : Int) + 1 ≤ (t.size : Int) := by omega
  have hr0 : (0 : Int) ≤ (i : Int) := by omega
  have hr3 : (0 : Int) ≤ (i : Int) + 1 := by omega
  have g1' : ¬ (t.size : Int) < (i : Int) := by omega
  have g2' : ¬ (t.size : Int) < (i : Int) + 1 := by omega
  have hwi : IntKind.i64.wrap ((i : Int) + 1) = (i : Int) + 1 := IntWalk.i64_in _ ⟨by omega, by omega⟩
  clear y1 y2 y3 hcs hsz HS IMG CKK c40 hmd
  go_upto_region 7 with (go_at_call 9; (with_reducible refine (RR.out _).mono ?_); rintro e w9 ⟨rfl, h9⟩; obtain rfl : wo = w9 := h9.symm)
  have hd : Below wo.heap.size wo wo.drew := Below.drew (Below.refl _ _)
  have LX := Lib.hid (fun w' (h : Below w.heap.size w w') => LD.out x2 w' zx h)
  have HIS := Lib.hid (unpI_small x2)
  refine wp_region_held_drew (S := fun w' => Below wo.heap.size wo w') (by kernel_rfl) (hd) (fun hHeld => ?_)
  apply held_shellD (R := fun w' => Below wo.heap.size wo w')
  exact fun _ _ d _ _ h => by cases d <;> exact h
  rotate_left 1
  intro KK hKp hfin
  refine wpAnyH_take (i := 0) (v := .string t) rfl (by kernel_rfl) (by kernel_rfl) (by kernel_rfl) (fun c a w h => hKp c a _ _ w h) (Or.inl ⟨by kernel_rfl, fun w hSw => by go_simp⟩) (by assumption) ?_
  simp only [Act.put, List.getElem_toArray, List.getElem_cons_zero, List.setIfInBounds_toArray, List.set_cons_zero, List.set_cons_succ]
  refine wpAnyH_take (i := 1) (v := .int .i64 (i : Int)) rfl (by kernel_rfl) (by kernel_rfl) (by kernel_rfl) (fun c a w h => hKp c a _ _ w h) (Or.inl ⟨by kernel_rfl, fun w hSw => by go_simp⟩) (by assumption) ?_
  simp only [Act.put, List.getElem_toArray, List.getElem_cons_zero, List.getElem_cons_succ, List.setIfInBounds_toArray, List.set_cons_zero, List.set_cons_succ]
  refine wpAnyH_take (i := 2) (v := .string p1) rfl (by kernel_rfl) (by kernel_rfl) (by kernel_rfl) (fun c a w h => hKp c a _ _ w h) (Or.inl ⟨by kernel_rfl, fun w hSw => by go_simp⟩) (by assumption) ?_
  simp only [Act.put, List.getElem_toArray, List.getElem_cons_zero, List.getElem_cons_succ, List.setIfInBounds_toArray, List.set_cons_zero, List.set_cons_succ]
  refine wpAnyH_take (i := 3) (v := .int .u8 (c.toNat : Int)) rfl (by kernel_rfl) (by kernel_rfl) (by kernel_rfl) (fun c a w h => hKp c a _ _ w h) (Or.inl ⟨by kernel_rfl, fun w hSw => by go_simp⟩) (by assumption) ?_
  simp only [Act.put, List.getElem_toArray, List.getElem_cons_zero, List.getElem_cons_succ, List.setIfInBounds_toArray, List.set_cons_zero, List.set_cons_succ]
  refine wpAnyH_take (i := 7) (v := .string t) rfl (by kernel_rfl) (by kernel_rfl) (by kernel_rfl) (fun c a w h => hKp c a _ _ w h) (Or.inl ⟨by kernel_rfl, fun w hSw => by go_simp⟩) (by assumption) ?_
  simp only [Act.put, List.getElem_toArray, List.getElem_cons_zero, List.getElem_cons_succ, List.setIfInBounds_toArray, List.set_cons_zero, List.set_cons_succ]
  refine wpAnyH_take (i := 8) (v := .int .i64 (i : Int)) rfl (by kernel_rfl) (by kernel_rfl) (by kernel_rfl) (fun c a w h => hKp c a _ _ w h) (Or.inl ⟨by kernel_rfl, fun w hSw => by go_simp⟩) (by assumption) ?_
  simp only [Act.put, List.getElem_toArray, List.getElem_cons_zero, List.getElem_cons_succ, List.setIfInBounds_toArray, List.set_cons_zero, List.set_cons_succ]
  refine wpAnyH_take (i := 9) (v := .int .i64 ((i : Int) + 1)) rfl (by kernel_rfl) (by kernel_rfl) (by kernel_rfl) (fun c a w h => hKp c a _ _ w h) (Or.inl ⟨by kernel_rfl, fun w hSw => by go_simp⟩) (by assumption) ?_
  simp only [Act.put, List.getElem_toArray, List.getElem_cons_zero, List.getElem_cons_succ, List.setIfInBounds_toArray, List.set_cons_zero, List.set_cons_succ]
  refine wpAnyH_take (i := 10) (v := .string p2) rfl (by kernel_rfl) (by kernel_rfl) (by kernel_rfl) (fun c a w h => hKp c a _ _ w h) (Or.inl ⟨by kernel_rfl, fun w hSw => by go_simp⟩) (by assumption) ?_
  simp only [Act.put, List.getElem_toArray, List.getElem_cons_zero, List.getElem_cons_succ, List.setIfInBounds_toArray, List.set_cons_zero, List.set_cons_succ]
  refine wpAnyH_ready (rs := [4]) (by kernel_rfl) (by simp) ?_
  refine AllReadyH.cons rfl (fun Kx hKx => ?_) AllReadyH.nil
  try rw [if_pos (by kernel_rfl)]
  go_simp
  refine hKx.out _ _ (hd.alloc hd.size _) (fun hHeld => ?_)
  clear hKx Kx
  try simp only [Act.put, List.getElem_toArray, List.getElem_cons_zero, List.getElem_cons_succ, List.setIfInBounds_toArray, List.set_cons_zero, List.set_cons_succ]
  refine wpAnyH_strongD (S' := fun w' => (Below wo.heap.size wo w') ∧ w'.cell? ⟨wo.heap.size, 0, none⟩ = some (.int .u8 (c.toNat : Int))) (fun _ h => h.1) _ _ _ _ ?_
  have hHeldB := And.intro hHeld (cellAtY (World.alloc_heap_new wo.drew (.cells #[.int .u8 (c.toNat : Int)] 5)) 0 _ rfl)
  refine wpAnyH_take (i := 5) (v := .string cc) rfl (by kernel_rfl) (by kernel_rfl) (by kernel_rfl) (fun c a w h => hKp c a _ _ w h) (Or.inl ⟨by kernel_rfl, fun w hSw => by dsimp only at hSw; obtain ⟨-, c3⟩ := hSw; have hcw := hcv _ _ c3; go_simp⟩) (by assumption) ?_
  simp only [Act.put, List.getElem_toArray, List.getElem_cons_zero, List.getElem_cons_succ, List.setIfInBounds_toArray, List.set_cons_zero, List.set_cons_succ]
  refine wpAnyH_take (i := 6) (v := .string x1) rfl (by kernel_rfl) (by kernel_rfl) (by kernel_rfl) (fun c a w h => hKp c a _ _ w h) (Or.inl ⟨by kernel_rfl, fun w hSw => by dsimp only at hSw; obtain ⟨-, c3⟩ := hSw; go_simp⟩) (by assumption) ?_
  simp only [Act.put, List.getElem_toArray, List.getElem_cons_zero, List.getElem_cons_succ, List.setIfInBounds_toArray, List.set_cons_zero, List.set_cons_succ]
  refine wpAnyH_take (i := 11) (v := .string x2) rfl (by kernel_rfl) (by kernel_rfl) (by kernel_rfl) (fun c a w h => hKp c a _ _ w h) (Or.inl ⟨by kernel_rfl, fun w hSw => by dsimp only at hSw; obtain ⟨-, c3⟩ := hSw; go_simp⟩) (by assumption) ?_
  simp only [Act.put, List.getElem_toArray, List.getElem_cons_zero, List.getElem_cons_succ, List.setIfInBounds_toArray, List.set_cons_zero, List.set_cons_succ]
  refine wpAnyH_take (i := 12) (v := .string x2) rfl (by kernel_rfl) (by kernel_rfl) (by kernel_rfl) (fun c a w h => hKp c a _ _ w h) (Or.inl ⟨by kernel_rfl, fun w hSw => by dsimp only at hSw; obtain ⟨-, c3⟩ := hSw; go_simp⟩) (by assumption) ?_
  simp only [Act.put, List.getElem_toArray, List.getElem_cons_zero, List.getElem_cons_succ, List.setIfInBounds_toArray, List.set_cons_zero, List.set_cons_succ]
  refine wpAnyH_done (by kernel_rfl) ?_ _
  exact hfin _ ((Below.drew (Below.refl _ _)).alloc (Nat.le_refl _) _)
  rintro wz hbz
  have HBZ := Lib.hid (HBO.out.trans (hbz.mono HBO.out.size))
  clear hbz hd hi hcv hp1 hp2 hx1 hx2 o1 o2 hr1 hr2 hr0 hr3 g1' g2' hwi RR
  have LZ := Lib.hid (LX.out wz HBZ.out)
  have HBX := Lib.hid (show ∀ w', Below wz.heap.size wz w' → Below w.heap.size w w' from fun w' h => HBZ.out.trans (h.mono HBZ.out.size))
  clear LX LD HBZ HBO
  by_cases hL : decOk x2 ∧ chkE (unpI x2) = none
  · have HEQ := Lib.hid (show encE (unpI x2) = none ∧ encB (unpI x2) = x2 from hL.1)
    have HZ1 := Lib.hid (LZ.out.mono (R' := fun e w' => ∃ e1 f1 e2 f2 e3 f3 e4 f4, e = .returned (.tuple #[.agg #[.slice e1 (cntN (unpI x2) 0) f1, .slice e2 (cntN (unpI x2) 1) f2, .slice e3 (cntN (unpI x2) 2) f3, .slice e4 (cntN (unpI x2) 3) f4, .int .i64 (unpI x2).th, .int .i64 (unpI x2).de], .nilIface]) ∧ ImR w' (.slice e1 (cntN (unpI x2) 0) f1) (.slice e2 (cntN (unpI x2) 1) f2) (.slice e3 (cntN (unpI x2) 2) f3) (.slice e4 (cntN (unpI x2) 3) f4) (unpI x2) ∧ Below wz.heap.size wz w') fun e w' ⟨hD, hb⟩ => by
      rcases hD with ⟨-, v1, v2, v3, v4, rfl, hJ⟩ | ⟨hno, -⟩
      · obtain ⟨e1, f1, e2, f2, e3, f3, e4, f4, rfl, rfl, rfl, rfl⟩ := hJ.slices
        exact ⟨_, _, _, _, _, _, _, _, rfl, hJ, hb⟩
      · exact (hno hL).elim)
    clear hL LZ
    generalize unpI x2 = xi at *
    go_upto_region 11 with (go_at_call 6; (with_reducible refine HZ1.out.mono ?_); rintro e wd ⟨e1, f1, e2, f2, e3, f3, e4, f4, rfl, hJ, hbd⟩)
    obtain ⟨WD, hWD⟩ : ∃ x, wd.alloc (.cells #[.slice e1 (cntN xi 0) f1, .slice e2 (cntN xi 1) f2, .slice e3 (cntN xi 2) f3, .slice e4 (cntN xi 3) f4, .int .i64 xi.th, .int .i64 xi.de] 29) = x := ⟨_, rfl⟩
    have hXD : WD.heap[wd.heap.size]? = some (.cells #[.slice e1 (cntN xi 0) f1, .slice e2 (cntN xi 1) f2, .slice e3 (cntN xi 2) f3, .slice e4 (cntN xi 3) f4, .int .i64 xi.th, .int .i64 xi.de] 29 (0, 0)) := by rw [← hWD]; exact World.alloc_heap_new _ _
    have hbD : Below wd.heap.size wd WD := by rw [← hWD]; exact (Below.refl _ _).alloc (Nat.le_refl _) _
    rw [hWD]
    clear hWD
    have hBD := hbd.trans (hbD.mono hbd.size)
    obtain ⟨k0, k1, k2, k3, k4, k5⟩ := cells6 hXD
    have HEN := Lib.hid (encode_im e1 e2 e3 e4 f1 f2 f3 f4 xi WD (hJ.below hbD) HIS.out (HGL.out _ (HBX.out _ hBD)))
    rw [HEQ.out.1, HEQ.out.2] at HEN
    have HBD := Lib.hid hBD
    clear hXD hbD hbd hBD hJ
    go_wp2_with (go_at_call 10; (with_reducible refine HEN.out.mono ?_); rintro e we ⟨ve, rfl, hve, hbe⟩; obtain rfl : ve = .nilIface := hve)
    go_ret
    exact ⟨rfl, HBX.out _ (HBD.out.trans (hbe.mono HBD.out.size))⟩
  · have hxt : ¬ x2 = t := fun e => hL (by rw [e]; exact HOK.out)
    have hx1 : (x2.toList == t.toList) = false := by rw [same_bool]; exact decide_eq_false hxt
    have HZ2 := Lib.hid (LZ.out.mono (R' := fun e w' => ∃ bf, e = .returned (.tuple #[.agg #[.slice none 0 0, .slice none 0 0, .slice none 0 0, .slice none 0 0, .int .i64 0, .int .i64 0], .iface 126 (.pointer (some ⟨bf, 0, none⟩))]) ∧ Below wz.heap.size wz w') fun e w' ⟨hD, hb⟩ => by
      rcases hD with ⟨hyes, -⟩ | ⟨-, v, k, p, s, rfl, hv⟩
      · exact (hL hyes).elim
      · obtain ⟨bf, rfl, -⟩ := hv
        exact ⟨bf, rfl, hb⟩)
    clear hL hxt LZ
    go_wp2_with (go_at_call 6; (with_reducible refine HZ2.out.mono ?_); rintro e wd ⟨bf, rfl, hbd⟩)
    go_ret
    exact ⟨rfl, HBX.out _ (hbd.alloc hbd.size _)⟩
end Go.Proofs.YtbafmnafhaoggaaGreatDoor
