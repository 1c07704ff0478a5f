/-
  AliasDecodes: the walk of the law.
-/
import Derived.Test.YtlpjdknmnomdlaaDoorYDecR
import Derived.Deep.RegionHeld3
namespace Go.Proofs.YtlpjdknmnomdlaaDoor
open Go Go.RowKit

set_option maxRecDepth 1000000 in
set_option maxHeartbeats 8000000 in
theorem decodes_any (r : ByteArray) (w : World) (hr : r.size ≤ 1048576) (hg : GL w) :
    Calls Tryd.prog 8 #[.string r] w fun e w' => e = .returned (.bool true) ∧ Below w.heap.size w w' := by
  have HD := Lib.hid (decode_al r w hr hg)
  have HR := Lib.hid (fun w' => decode_ref r w' hr)
  generalize decV r = x at *
  generalize okA r = ok at *
  clear hr hg
  go_enter Tryd.func8, Tryd.ntmps8
  go_upto_region 2 with (go_at_call 21; (with_reducible refine HD.out.mono ?_); rintro e w2 ⟨rfl, hb2⟩)
  obtain ⟨W2, hW2⟩ : ∃ W2, w2.alloc (.cells #[.int .i64 x.k, .string x.a, .string x.b, .string x.l, .string x.s, .string x.r] 28) = W2 := ⟨_, rfl⟩
  have hN2 : W2.heap[w2.heap.size]? = some (.cells #[.int .i64 x.k, .string x.a, .string x.b, .string x.l, .string x.s, .string x.r] 28 (0, 0)) := by rw [← hW2]; exact World.alloc_heap_new w2 _
  have hb2' : Below w.heap.size w W2 := by rw [← hW2]; exact hb2.alloc hb2.size _
  rw [hW2]
  generalize w2.heap.size = N2 at *
  clear hW2 hb2
  go_upto_region 3 with (go_at_call 22; (with_reducible refine (HR.out _).mono ?_); rintro e w3 ⟨rfl, hb3⟩)
  obtain ⟨W3, hW3⟩ : ∃ W3, w3.alloc (.cells #[.int .i64 x.k, .string x.a, .string x.b, .string x.l, .string x.s, .string x.r, .bool ok] 50) = W3 := ⟨_, rfl⟩
  have hN3 : W3.heap[w3.heap.size]? = some (.cells #[.int .i64 x.k, .string x.a, .string x.b, .string x.l, .string x.s, .string x.r, .bool ok] 50 (0, 0)) := by rw [← hW3]; exact World.alloc_heap_new w3 _
  have hb23 : Below W2.heap.size W2 W3 := by rw [← hW3]; exact hb3.alloc hb3.size _
  rw [hW3]
  generalize w3.heap.size = N3 at *
  clear hW3 hb3
  obtain ⟨a0, a1, a2, a3, a4, a5⟩ := cells6 ((hb23.block _ (lt_of_block hN2)).trans hN2)
  obtain ⟨b0, b1, b2, b3, b4, b5, b6⟩ := cells7 hN3
  have HB := Lib.hid (hb2'.trans (hb23.mono hb2'.size))
  clear hN2 hN3 hb2' hb23
  go_wp2
  go_ret
  exact ⟨rfl, HB.out⟩

theorem conv_oneD (z : Int) (W w2 : World) (h : w2.cell? ⟨W.heap.size, 0, none⟩ = some (.int .u8 (z % 256))) : (convert 32 9 (.slice (some ⟨W.heap.size, 0, none⟩) 1 1)).run Tryd.prog w2 = .ok (.string (ofL [UInt8.ofNat (z % 256).toNat])) w2 := by
  have hz : ((UInt8.ofNat (z % 256).toNat).toNat : Int) = z % 256 := by
    rw [UInt8.toNat_ofNat', Nat.mod_eq_of_lt (by omega)]; omega
  exact run_convert_bytes_back (P := Tryd.prog) w2 32 9 5 ⟨W.heap.size, 0, none⟩ 1 [UInt8.ofNat (z % 256).toNat] Tryd.underlying32 Tryd.underlying5 Tryd.underlying9 (fun j hj => by
    obtain rfl : j = 0 := by simpa using hj
    rw [Addr.add_lit]
    show w2.cell? ⟨W.heap.size, 0, none⟩ = some (.int .u8 ((UInt8.ofNat (z % 256).toNat).toNat : Int))
    rw [h, hz])
theorem wpAnyH_strongD {P : Program} {md : Region.Mode} {ops : Array Oper} {Q : Exit → Act → World → Prop} {S S' : World → Prop} (h : ∀ w, S' w → S w) : ∀ (fuel : Nat) (l : Array Bool) (a : Act) (w : World), wpAnyH P md ops Q S' fuel l a w → wpAnyH P md ops Q S fuel l a w
  | 0, _, _, _, hh => hh
  | fuel + 1, _, _, _, hh => ⟨hh.1, fun i hi => wpOp_mono (fun a' w' h' => ⟨h _ h'.1, wpAnyH_strongD h fuel _ a' w' h'.2⟩) (hh.2 i hi)⟩

set_option maxRecDepth 1000000 in
set_option maxHeartbeats 32000000 in
theorem decodes_law (S : Sd) (s : ByteArray) (q0 q1 : Int) (w : World) (_hss : s.size ≤ maxLen) (_h0 : (Lit.int .i64 q0).wf = true) (_h1 : (Lit.int .i64 q1).wf = true) (hg : GL w) :
    Calls Tryd.prog 3 #[.agg #[.int .i64 S.kind, .int .i64 S.a, .int .i64 S.b, .int .i64 S.l, .int .i64 S.s, .int .i64 S.r, .int .i64 S.odd], .string s, .agg #[.int .i64 q0, .int .i64 q1]] w fun e w' => e = .returned (.bool true) ∧ Below w.heap.size w w' := by
  have hgs := hg.size
  obtain ⟨W1, hW1⟩ : ∃ W1, (w.alloc (.cells #[.int .i64 S.kind, .int .i64 S.a, .int .i64 S.b, .int .i64 S.l, .int .i64 S.s, .int .i64 S.r, .int .i64 S.odd] 23)).alloc (.cells #[.int .i64 q0, .int .i64 q1] 24) = W1 := ⟨_, rfl⟩
  have hb1 : Below w.heap.size w W1 := by rw [← hW1]; exact ((Below.refl _ w).alloc (Nat.le_refl _) _).alloc (by simp) _
  have hA : W1.heap[w.heap.size]? = some (.cells #[.int .i64 S.kind, .int .i64 S.a, .int .i64 S.b, .int .i64 S.l, .int .i64 S.s, .int .i64 S.r, .int .i64 S.odd] 23 (0, 0)) := by
    rw [← hW1]; exact (Below.heap_alloc _ _ _ (by simp)).trans (World.alloc_heap_new w _)
  have hB : W1.heap[w.heap.size + 1]? = some (.cells #[.int .i64 q0, .int .i64 q1] 24 (0, 0)) := by rw [← hW1]; exact heap_alloc2_new w _ _
  have H7 := Lib.hid (fun w' (hb : Below W1.heap.size W1 w') => cells7 ((hb.block _ (lt_of_block hA)).trans hA))
  have H2 := Lib.hid (fun w' (hb : Below W1.heap.size W1 w') => cells2Y ((hb.block _ (lt_of_block hB)).trans hB))
  have HGL := Lib.hid (fun w' (hb : Below W1.heap.size W1 w') => hg.below (hb1.trans (hb.mono hb1.size)) hgs)
  have HB1 := Lib.hid (fun w' (hb : Below W1.heap.size W1 w') => hb1.trans (hb.mono hb1.size))
  have HW1 := Lib.hid hW1
  have AW := Lib.hid (fun w' (hb : Below W1.heap.size W1 w') => (awake12_any w' (HGL.out _ hb)).mono (R' := fun e w'' => e = .returned (.bool true) ∧ Below W1.heap.size W1 w'') fun e w'' ⟨p, q⟩ => ⟨p, hb.trans (q.mono hb.size)⟩)
  have MS := Lib.hid (fun w' => made_any S w')
  have RS := Lib.hid (fun w' => rest12_41 q0 w')
  have hi := restV_lt q0 41 (by decide)
  have ha := made_small S
  have hk := (made_sml S).2
  generalize madeA S = a at *
  generalize restV q0 41 = i at *
  have RO := Lib.hid (fun w' => row_ref a w' (alZ_of ha ⟨by omega, by omega⟩))
  have hsr := size_rowB a
  generalize rowB a = r at *
  have DC := Lib.hid (fun y w' (hy : y.size ≤ 1048576) (hb : Below W1.heap.size W1 w') => (decodes_any y w' hy (HGL.out _ hb)).mono (R' := fun e w'' => e = .returned (.bool true) ∧ Below W1.heap.size W1 w'' ∧ Below w'.heap.size w' w'') fun e w'' ⟨p, q⟩ => ⟨p, hb.trans (q.mono hb.size), q⟩)
  have hcv := conv_oneD q1
  have hcs : (ofL [UInt8.ofNat (q1 % 256).toNat]).size = 1 := rfl
  generalize ofL [UInt8.ofNat (q1 % 256).toNat] = cc at *
  have zr : r.size ≤ 1048576 := by omega
  have g1 : ¬ 41 < (i : Int) := by omega
  have g2 : ¬ 41 < (i : Int) + 1 := by omega
  have hqw : IntKind.u8.wrap q1 = q1 % 256 := by simp [IntKind.wrap, IntKind.signed, IntKind.bits]
  obtain ⟨p1, hp1⟩ : ∃ p1, r.extract 0 i = p1 := ⟨_, rfl⟩
  obtain ⟨p2, hp2⟩ : ∃ p2, r.extract (i + 1) 41 = p2 := ⟨_, rfl⟩
  have y1 : p1.size ≤ 41 := by rw [← hp1, ByteArray.size_extract]; omega
  have y2 : p2.size ≤ 41 := by rw [← hp2, ByteArray.size_extract]; omega
  obtain ⟨x1, hx1⟩ : ∃ x1, p1 ++ cc = x1 := ⟨_, rfl⟩
  have y3 : x1.size ≤ 42 := by rw [← hx1, ByteArray.size_append]; omega
  obtain ⟨x2, hx2⟩ : ∃ x2, x1 ++ p2 = x2 := ⟨_, rfl⟩
  have zx : x2.size ≤ 1048576 := by rw [← hx2, ByteArray.size_append]; omega
  have o1 : ¬ 9223372036854775807 < p1.size + cc.size := by omega
  have o2 : ¬ 9223372036854775807 < x1.size + p2.size := by omega
  have o3 : ¬ 9223372036854775807 < r.size + 1 := by omega
  obtain ⟨ra, hra⟩ : ∃ ra, r ++ ⟨#[97]⟩ = ra := ⟨_, rfl⟩
  have za : ra.size ≤ 1048576 := by rw [← hra, ByteArray.size_append]; show _ + 1 ≤ _; omega
  obtain ⟨rc, hrc⟩ : ∃ rc, r.extract 0 40 = rc := ⟨_, rfl⟩
  have zc : rc.size ≤ 1048576 := by rw [← hrc, ByteArray.size_extract]; omega
  clear y1 y2 y3 hcs
  have hr1 : (i : Int) ≤ (r.size : Int) := by omega
  have hr2 : (i : Int) + 1 ≤ (r.size : Int) := by omega
  have hr0 : (0 : Int) ≤ (i : Int) := by omega
  have hr3 : (0 : Int) ≤ (i : Int) + 1 := by omega
  have hr4 : (40 : Int) ≤ (r.size : Int) := by omega
  have hwi : IntKind.i64.wrap ((i : Int) + 1) = (i : Int) + 1 := IntWalk.i64_in _ ⟨by omega, by omega⟩
  clear hk ha hA hB hb1 hW1 hg hgs _h0 _h1
  have hcut : ∃ t : ByteArray, t.size ≤ 50 ∧ ((50 < (s.size : Int) ∧ s.extract 0 50 = t) ∨ (¬ 50 < (s.size : Int) ∧ s = t)) := by
    by_cases h : 50 < s.size
    · exact ⟨_, by rw [ByteArray.size_extract]; omega, .inl ⟨by omega, rfl⟩⟩
    · exact ⟨s, by omega, .inr ⟨by omega, rfl⟩⟩
  obtain ⟨t, ht, hct⟩ := hcut
  have zt : t.size ≤ 1048576 := by omega
  clear ht hi
  rcases hct with ⟨h50, hte⟩ | ⟨h50, rfl⟩
  · go_enter Tryd.func3, Tryd.ntmps3
    go_upto_region 1 with fail
    rw [HW1.out]
    go_upto_region 2 with (go_at_call 4; (with_reducible refine (AW.out _ (Below.refl _ _)).mono ?_); rintro e w2 ⟨rfl, hb2⟩)
    obtain ⟨s0, s1, s2, s3, s4, s5, s6⟩ := H7.out _ hb2
    go_upto_region 5 with (first
      | (go_at_call 6; (with_reducible refine (MS.out _).mono ?_); rintro e w3 ⟨rfl, hb3⟩)
      | (go_at_call 5; (with_reducible refine (RO.out _).mono ?_); rintro e w4 ⟨rfl, hb4⟩))
    clear s0 s1 s2 s3 s4 s5 s6
    have hb3' := hb2.trans (hb3.mono hb2.size)
    have hb4' := hb3'.trans (hb4.mono hb3'.size)
    clear hb2 hb3 hb3' hb4
    obtain ⟨e0, e1⟩ := H2.out _ hb4'
    go_upto_region 6 with (go_at_call 7; (with_reducible refine (RS.out _).mono ?_); rintro e w8 ⟨rfl, rfl⟩)
    try rw [hte]
    clear HW1 AW MS RS RO H7 h50 e0 e1
    have hd := Below.drew hb4'
    obtain ⟨e0, e1⟩ := H2.out _ hd
    have HC := Lib.hid (fun w' (hb : Below W1.heap.size W1 w') => (show Below W1.heap.size W1 w' ∧ w'.cell? ⟨w.heap.size + 1, 1, none⟩ = some (.int .i64 q1) from ⟨hb, (H2.out w' hb).2⟩))
    clear e0 e1 H2 hb4' HGL
    refine wp_region_held_drew (S := fun w' => Below W1.heap.size W1 w' ∧ w'.cell? ⟨w.heap.size + 1, 1, none⟩ = some (.int .i64 q1)) (by kernel_rfl) (HC.out _ hd) (fun hHeld => ?_)
    apply held_shellU
    exact fun _ _ d _ _ h => by cases d <;> exact h
    rotate_left 1
    intro KK hKp hfin
    refine wpAnyH_take (i := 0) (v := .bool true) rfl (by kernel_rfl) (by kernel_rfl) (by kernel_rfl) (fun c a w h => hKp c a _ _ w h) (Or.inl ⟨by kernel_rfl, fun w hSw => by dsimp only at hSw; obtain ⟨-, c1⟩ := hSw; go_simp⟩) (by assumption) ?_
    simp only [Act.put, List.getElem_toArray, List.getElem_cons_zero, List.setIfInBounds_toArray, List.set_cons_zero, List.set_cons_succ]
    refine wpAnyH_take (i := 1) (v := .bool true) rfl (by kernel_rfl) (by kernel_rfl) (by kernel_rfl) (fun c a w h => hKp c a _ _ w h) (Or.inl ⟨by kernel_rfl, fun w hSw => by dsimp only at hSw; obtain ⟨-, c1⟩ := hSw; go_simp⟩) (by assumption) ?_
    simp only [Act.put, List.getElem_toArray, List.getElem_cons_zero, List.getElem_cons_succ, List.setIfInBounds_toArray, List.set_cons_zero, List.set_cons_succ]
    refine wpAnyH_take (i := 2) (v := .string r) rfl (by kernel_rfl) (by kernel_rfl) (by kernel_rfl) (fun c a w h => hKp c a _ _ w h) (Or.inl ⟨by kernel_rfl, fun w hSw => by dsimp only at hSw; obtain ⟨-, c1⟩ := hSw; go_simp⟩) (by assumption) ?_
    simp only [Act.put, List.getElem_toArray, List.getElem_cons_zero, List.getElem_cons_succ, List.setIfInBounds_toArray, List.set_cons_zero, List.set_cons_succ]
    refine wpAnyH_ready (rs := [3]) (by kernel_rfl) (by simp) ?_
    refine AllReadyH.cons rfl (fun Kx hKx => ?_) AllReadyH.nil
    rw [if_pos (by kernel_rfl)]
    go_simp
    (refine (DC.out _ _ zr hHeld.1).mono ?_)
    rintro e w5 ⟨rfl, hb5, hbq⟩
    refine hKx.out _ _ (HC.out _ hb5) (fun hHeld => ?_)
    clear hKx Kx
    try simp only [Act.put, List.getElem_toArray, List.getElem_cons_zero, List.getElem_cons_succ, List.setIfInBounds_toArray, List.set_cons_zero, List.set_cons_succ]
    clear hbq
    refine wpAnyH_take (i := 4) (v := .bool true) rfl (by kernel_rfl) (by kernel_rfl) (by kernel_rfl) (fun c a w h => hKp c a _ _ w h) (Or.inl ⟨by kernel_rfl, fun w hSw => by dsimp only at hSw; obtain ⟨-, c1⟩ := hSw; go_simp⟩) (by assumption) ?_
    simp only [Act.put, List.getElem_toArray, List.getElem_cons_zero, List.getElem_cons_succ, List.setIfInBounds_toArray, List.set_cons_zero, List.set_cons_succ]
    refine wpAnyH_take (i := 5) (v := .bool true) rfl (by kernel_rfl) (by kernel_rfl) (by kernel_rfl) (fun c a w h => hKp c a _ _ w h) (Or.inl ⟨by kernel_rfl, fun w hSw => by dsimp only at hSw; obtain ⟨-, c1⟩ := hSw; go_simp⟩) (by assumption) ?_
    simp only [Act.put, List.getElem_toArray, List.getElem_cons_zero, List.getElem_cons_succ, List.setIfInBounds_toArray, List.set_cons_zero, List.set_cons_succ]
    refine wpAnyH_take (i := 6) (v := .string r) rfl (by kernel_rfl) (by kernel_rfl) (by kernel_rfl) (fun c a w h => hKp c a _ _ w h) (Or.inl ⟨by kernel_rfl, fun w hSw => by dsimp only at hSw; obtain ⟨-, c1⟩ := hSw; go_simp⟩) (by assumption) ?_
    simp only [Act.put, List.getElem_toArray, List.getElem_cons_zero, List.getElem_cons_succ, List.setIfInBounds_toArray, List.set_cons_zero, List.set_cons_succ]
    refine wpAnyH_take (i := 7) (v := .int .i64 (i : Int)) rfl (by kernel_rfl) (by kernel_rfl) (by kernel_rfl) (fun c a w h => hKp c a _ _ w h) (Or.inl ⟨by kernel_rfl, fun w hSw => by dsimp only at hSw; obtain ⟨-, c1⟩ := hSw; go_simp⟩) (by assumption) ?_
    simp only [Act.put, List.getElem_toArray, List.getElem_cons_zero, List.getElem_cons_succ, List.setIfInBounds_toArray, List.set_cons_zero, List.set_cons_succ]
    refine wpAnyH_take (i := 8) (v := .string p1) rfl (by kernel_rfl) (by kernel_rfl) (by kernel_rfl) (fun c a w h => hKp c a _ _ w h) (Or.inl ⟨by kernel_rfl, fun w hSw => by dsimp only at hSw; obtain ⟨-, c1⟩ := hSw; go_simp⟩) (by assumption) ?_
    simp only [Act.put, List.getElem_toArray, List.getElem_cons_zero, List.getElem_cons_succ, List.setIfInBounds_toArray, List.set_cons_zero, List.set_cons_succ]
    refine wpAnyH_take (i := 9) (v := .pointer (some ⟨w.heap.size + 1, 1, none⟩)) rfl (by kernel_rfl) (by kernel_rfl) (by kernel_rfl) (fun c a w h => hKp c a _ _ w h) (Or.inl ⟨by kernel_rfl, fun w hSw => by dsimp only at hSw; obtain ⟨-, c1⟩ := hSw; go_simp⟩) (by assumption) ?_
    simp only [Act.put, List.getElem_toArray, List.getElem_cons_zero, List.getElem_cons_succ, List.setIfInBounds_toArray, List.set_cons_zero, List.set_cons_succ]
    refine wpAnyH_take (i := 10) (v := .int .i64 q1) rfl (by kernel_rfl) (by kernel_rfl) (by kernel_rfl) (fun c a w h => hKp c a _ _ w h) (Or.inl ⟨by kernel_rfl, fun w hSw => by dsimp only at hSw; obtain ⟨-, c1⟩ := hSw; go_simp⟩) (by assumption) ?_
    simp only [Act.put, List.getElem_toArray, List.getElem_cons_zero, List.getElem_cons_succ, List.setIfInBounds_toArray, List.set_cons_zero, List.set_cons_succ]
    refine wpAnyH_take (i := 11) (v := .int .u8 (q1 % 256)) rfl (by kernel_rfl) (by kernel_rfl) (by kernel_rfl) (fun c a w h => hKp c a _ _ w h) (Or.inl ⟨by kernel_rfl, fun w hSw => by dsimp only at hSw; obtain ⟨-, c1⟩ := hSw; go_simp⟩) (by assumption) ?_
    simp only [Act.put, List.getElem_toArray, List.getElem_cons_zero, List.getElem_cons_succ, List.setIfInBounds_toArray, List.set_cons_zero, List.set_cons_succ]
    refine wpAnyH_take (i := 15) (v := .string r) rfl (by kernel_rfl) (by kernel_rfl) (by kernel_rfl) (fun c a w h => hKp c a _ _ w h) (Or.inl ⟨by kernel_rfl, fun w hSw => by dsimp only at hSw; obtain ⟨-, c1⟩ := hSw; go_simp⟩) (by assumption) ?_
    simp only [Act.put, List.getElem_toArray, List.getElem_cons_zero, List.getElem_cons_succ, List.setIfInBounds_toArray, List.set_cons_zero, List.set_cons_succ]
    refine wpAnyH_take (i := 16) (v := .int .i64 (i : Int)) rfl (by kernel_rfl) (by kernel_rfl) (by kernel_rfl) (fun c a w h => hKp c a _ _ w h) (Or.inl ⟨by kernel_rfl, fun w hSw => by dsimp only at hSw; obtain ⟨-, c1⟩ := hSw; go_simp⟩) (by assumption) ?_
    simp only [Act.put, List.getElem_toArray, List.getElem_cons_zero, List.getElem_cons_succ, List.setIfInBounds_toArray, List.set_cons_zero, List.set_cons_succ]
    refine wpAnyH_take (i := 17) (v := .int .i64 ((i : Int) + 1)) rfl (by kernel_rfl) (by kernel_rfl) (by kernel_rfl) (fun c a w h => hKp c a _ _ w h) (Or.inl ⟨by kernel_rfl, fun w hSw => by dsimp only at hSw; obtain ⟨-, c1⟩ := hSw; go_simp⟩) (by assumption) ?_
    simp only [Act.put, List.getElem_toArray, List.getElem_cons_zero, List.getElem_cons_succ, List.setIfInBounds_toArray, List.set_cons_zero, List.set_cons_succ]
    refine wpAnyH_take (i := 18) (v := .string p2) rfl (by kernel_rfl) (by kernel_rfl) (by kernel_rfl) (fun c a w h => hKp c a _ _ w h) (Or.inl ⟨by kernel_rfl, fun w hSw => by dsimp only at hSw; obtain ⟨-, c1⟩ := hSw; go_simp⟩) (by assumption) ?_
    simp only [Act.put, List.getElem_toArray, List.getElem_cons_zero, List.getElem_cons_succ, List.setIfInBounds_toArray, List.set_cons_zero, List.set_cons_succ]
    refine wpAnyH_ready (rs := [12]) (by kernel_rfl) (by simp) ?_
    refine AllReadyH.cons rfl (fun Kx hKx => ?_) AllReadyH.nil
    rw [if_pos (by kernel_rfl)]
    go_simp
    refine hKx.out _ _ (HC.out _ (hHeld.1.alloc hHeld.1.size _)) (fun hHeld => ?_)
    clear hKx Kx
    try simp only [Act.put, List.getElem_toArray, List.getElem_cons_zero, List.getElem_cons_succ, List.setIfInBounds_toArray, List.set_cons_zero, List.set_cons_succ]
    refine wpAnyH_strongD (S' := fun w' => (Below W1.heap.size W1 w' ∧ w'.cell? ⟨w.heap.size + 1, 1, none⟩ = some (.int .i64 q1)) ∧ w'.cell? ⟨w5.heap.size, 0, none⟩ = some (.int .u8 (q1 % 256))) (fun _ h => h.1) _ _ _ _ ?_
    have hHeldB := And.intro hHeld (cell_newB w5 (.int .u8 (q1 % 256)) 5)
    refine wpAnyH_take (i := 13) (v := .string cc) rfl (by kernel_rfl) (by kernel_rfl) (by kernel_rfl) (fun c a w h => hKp c a _ _ w h) (Or.inl ⟨by kernel_rfl, fun w hSw => by dsimp only at hSw; obtain ⟨⟨-, c1⟩, c3⟩ := hSw; have hcw := hcv w5 _ c3; go_simp⟩) (by assumption) ?_
    simp only [Act.put, List.getElem_toArray, List.getElem_cons_zero, List.getElem_cons_succ, List.setIfInBounds_toArray, List.set_cons_zero, List.set_cons_succ]
    refine wpAnyH_take (i := 14) (v := .string (x1)) rfl (by kernel_rfl) (by kernel_rfl) (by kernel_rfl) (fun c a w h => hKp c a _ _ w h) (Or.inl ⟨by kernel_rfl, fun w hSw => by dsimp only at hSw; obtain ⟨⟨-, c1⟩, c3⟩ := hSw; go_simp⟩) (by assumption) ?_
    simp only [Act.put, List.getElem_toArray, List.getElem_cons_zero, List.getElem_cons_succ, List.setIfInBounds_toArray, List.set_cons_zero, List.set_cons_succ]
    refine wpAnyH_take (i := 19) (v := .string (x2)) rfl (by kernel_rfl) (by kernel_rfl) (by kernel_rfl) (fun c a w h => hKp c a _ _ w h) (Or.inl ⟨by kernel_rfl, fun w hSw => by dsimp only at hSw; obtain ⟨⟨-, c1⟩, c3⟩ := hSw; go_simp⟩) (by assumption) ?_
    simp only [Act.put, List.getElem_toArray, List.getElem_cons_zero, List.getElem_cons_succ, List.setIfInBounds_toArray, List.set_cons_zero, List.set_cons_succ]
    refine wpAnyH_ready (rs := [20]) (by kernel_rfl) (by simp) ?_
    refine AllReadyH.cons rfl (fun Kx hKx => ?_) AllReadyH.nil
    rw [if_pos (by kernel_rfl)]
    go_simp
    (refine (DC.out _ _ zx hHeldB.1.1).mono ?_)
    rintro e w6 ⟨rfl, hbn, hbq⟩
    refine hKx.out _ _ (⟨HC.out _ hbn, (hbq.cell (lt_of_cellY hHeldB.2)).trans hHeldB.2⟩) (fun hHeld => ?_)
    clear hKx Kx
    try simp only [Act.put, List.getElem_toArray, List.getElem_cons_zero, List.getElem_cons_succ, List.setIfInBounds_toArray, List.set_cons_zero, List.set_cons_succ]
    clear hHeldB hbn hbq
    have hHeldB := hHeld
    refine wpAnyH_take (i := 21) (v := .bool true) rfl (by kernel_rfl) (by kernel_rfl) (by kernel_rfl) (fun c a w h => hKp c a _ _ w h) (Or.inl ⟨by kernel_rfl, fun w hSw => by dsimp only at hSw; obtain ⟨⟨-, c1⟩, c3⟩ := hSw; go_simp⟩) (by assumption) ?_
    simp only [Act.put, List.getElem_toArray, List.getElem_cons_zero, List.getElem_cons_succ, List.setIfInBounds_toArray, List.set_cons_zero, List.set_cons_succ]
    refine wpAnyH_take (i := 22) (v := .bool true) rfl (by kernel_rfl) (by kernel_rfl) (by kernel_rfl) (fun c a w h => hKp c a _ _ w h) (Or.inl ⟨by kernel_rfl, fun w hSw => by dsimp only at hSw; obtain ⟨⟨-, c1⟩, c3⟩ := hSw; go_simp⟩) (by assumption) ?_
    simp only [Act.put, List.getElem_toArray, List.getElem_cons_zero, List.getElem_cons_succ, List.setIfInBounds_toArray, List.set_cons_zero, List.set_cons_succ]
    refine wpAnyH_take (i := 23) (v := .string t) rfl (by kernel_rfl) (by kernel_rfl) (by kernel_rfl) (fun c a w h => hKp c a _ _ w h) (Or.inl ⟨by kernel_rfl, fun w hSw => by dsimp only at hSw; obtain ⟨⟨-, c1⟩, c3⟩ := hSw; go_simp⟩) (by assumption) ?_
    simp only [Act.put, List.getElem_toArray, List.getElem_cons_zero, List.getElem_cons_succ, List.setIfInBounds_toArray, List.set_cons_zero, List.set_cons_succ]
    refine wpAnyH_ready (rs := [24]) (by kernel_rfl) (by simp) ?_
    refine AllReadyH.cons rfl (fun Kx hKx => ?_) AllReadyH.nil
    rw [if_pos (by kernel_rfl)]
    go_simp
    (refine (DC.out _ _ zt hHeldB.1.1).mono ?_)
    rintro e w7 ⟨rfl, hbn, hbq⟩
    refine hKx.out _ _ (⟨HC.out _ hbn, (hbq.cell (lt_of_cellY hHeldB.2)).trans hHeldB.2⟩) (fun hHeld => ?_)
    clear hKx Kx
    try simp only [Act.put, List.getElem_toArray, List.getElem_cons_zero, List.getElem_cons_succ, List.setIfInBounds_toArray, List.set_cons_zero, List.set_cons_succ]
    clear hHeldB hbn hbq
    have hHeldB := hHeld
    refine wpAnyH_take (i := 25) (v := .bool true) rfl (by kernel_rfl) (by kernel_rfl) (by kernel_rfl) (fun c a w h => hKp c a _ _ w h) (Or.inl ⟨by kernel_rfl, fun w hSw => by dsimp only at hSw; obtain ⟨⟨-, c1⟩, c3⟩ := hSw; go_simp⟩) (by assumption) ?_
    simp only [Act.put, List.getElem_toArray, List.getElem_cons_zero, List.getElem_cons_succ, List.setIfInBounds_toArray, List.set_cons_zero, List.set_cons_succ]
    refine wpAnyH_take (i := 26) (v := .bool true) rfl (by kernel_rfl) (by kernel_rfl) (by kernel_rfl) (fun c a w h => hKp c a _ _ w h) (Or.inl ⟨by kernel_rfl, fun w hSw => by dsimp only at hSw; obtain ⟨⟨-, c1⟩, c3⟩ := hSw; go_simp⟩) (by assumption) ?_
    simp only [Act.put, List.getElem_toArray, List.getElem_cons_zero, List.getElem_cons_succ, List.setIfInBounds_toArray, List.set_cons_zero, List.set_cons_succ]
    refine wpAnyH_take (i := 27) (v := .string r) rfl (by kernel_rfl) (by kernel_rfl) (by kernel_rfl) (fun c a w h => hKp c a _ _ w h) (Or.inl ⟨by kernel_rfl, fun w hSw => by dsimp only at hSw; obtain ⟨⟨-, c1⟩, c3⟩ := hSw; go_simp⟩) (by assumption) ?_
    simp only [Act.put, List.getElem_toArray, List.getElem_cons_zero, List.getElem_cons_succ, List.setIfInBounds_toArray, List.set_cons_zero, List.set_cons_succ]
    refine wpAnyH_take (i := 28) (v := .string ra) rfl (by kernel_rfl) (by kernel_rfl) (by kernel_rfl) (fun c a w h => hKp c a _ _ w h) (Or.inl ⟨by kernel_rfl, fun w hSw => by dsimp only at hSw; obtain ⟨⟨-, c1⟩, c3⟩ := hSw; go_simp⟩) (by assumption) ?_
    simp only [Act.put, List.getElem_toArray, List.getElem_cons_zero, List.getElem_cons_succ, List.setIfInBounds_toArray, List.set_cons_zero, List.set_cons_succ]
    refine wpAnyH_ready (rs := [29]) (by kernel_rfl) (by simp) ?_
    refine AllReadyH.cons rfl (fun Kx hKx => ?_) AllReadyH.nil
    rw [if_pos (by kernel_rfl)]
    go_simp
    (refine (DC.out _ _ za hHeldB.1.1).mono ?_)
    rintro e w8 ⟨rfl, hbn, hbq⟩
    refine hKx.out _ _ (⟨HC.out _ hbn, (hbq.cell (lt_of_cellY hHeldB.2)).trans hHeldB.2⟩) (fun hHeld => ?_)
    clear hKx Kx
    try simp only [Act.put, List.getElem_toArray, List.getElem_cons_zero, List.getElem_cons_succ, List.setIfInBounds_toArray, List.set_cons_zero, List.set_cons_succ]
    clear hHeldB hbn hbq
    have hHeldB := hHeld
    refine wpAnyH_take (i := 30) (v := .bool true) rfl (by kernel_rfl) (by kernel_rfl) (by kernel_rfl) (fun c a w h => hKp c a _ _ w h) (Or.inl ⟨by kernel_rfl, fun w hSw => by dsimp only at hSw; obtain ⟨⟨-, c1⟩, c3⟩ := hSw; go_simp⟩) (by assumption) ?_
    simp only [Act.put, List.getElem_toArray, List.getElem_cons_zero, List.getElem_cons_succ, List.setIfInBounds_toArray, List.set_cons_zero, List.set_cons_succ]
    refine wpAnyH_take (i := 31) (v := .bool true) rfl (by kernel_rfl) (by kernel_rfl) (by kernel_rfl) (fun c a w h => hKp c a _ _ w h) (Or.inl ⟨by kernel_rfl, fun w hSw => by dsimp only at hSw; obtain ⟨⟨-, c1⟩, c3⟩ := hSw; go_simp⟩) (by assumption) ?_
    simp only [Act.put, List.getElem_toArray, List.getElem_cons_zero, List.getElem_cons_succ, List.setIfInBounds_toArray, List.set_cons_zero, List.set_cons_succ]
    refine wpAnyH_take (i := 32) (v := .string r) rfl (by kernel_rfl) (by kernel_rfl) (by kernel_rfl) (fun c a w h => hKp c a _ _ w h) (Or.inl ⟨by kernel_rfl, fun w hSw => by dsimp only at hSw; obtain ⟨⟨-, c1⟩, c3⟩ := hSw; go_simp⟩) (by assumption) ?_
    simp only [Act.put, List.getElem_toArray, List.getElem_cons_zero, List.getElem_cons_succ, List.setIfInBounds_toArray, List.set_cons_zero, List.set_cons_succ]
    refine wpAnyH_take (i := 33) (v := .string rc) rfl (by kernel_rfl) (by kernel_rfl) (by kernel_rfl) (fun c a w h => hKp c a _ _ w h) (Or.inl ⟨by kernel_rfl, fun w hSw => by dsimp only at hSw; obtain ⟨⟨-, c1⟩, c3⟩ := hSw; go_simp⟩) (by assumption) ?_
    simp only [Act.put, List.getElem_toArray, List.getElem_cons_zero, List.getElem_cons_succ, List.setIfInBounds_toArray, List.set_cons_zero, List.set_cons_succ]
    refine wpAnyH_ready (rs := [34]) (by kernel_rfl) (by simp) ?_
    refine AllReadyH.cons rfl (fun Kx hKx => ?_) AllReadyH.nil
    rw [if_pos (by kernel_rfl)]
    go_simp
    (refine (DC.out _ _ zc hHeldB.1.1).mono ?_)
    rintro e w9 ⟨rfl, hbn, hbq⟩
    refine hKx.out _ _ (⟨HC.out _ hbn, (hbq.cell (lt_of_cellY hHeldB.2)).trans hHeldB.2⟩) (fun hHeld => ?_)
    clear hKx Kx
    try simp only [Act.put, List.getElem_toArray, List.getElem_cons_zero, List.getElem_cons_succ, List.setIfInBounds_toArray, List.set_cons_zero, List.set_cons_succ]
    clear hHeldB hbn hbq
    have hHeldB := hHeld
    refine wpAnyH_take (i := 35) (v := .bool true) rfl (by kernel_rfl) (by kernel_rfl) (by kernel_rfl) (fun c a w h => hKp c a _ _ w h) (Or.inl ⟨by kernel_rfl, fun w hSw => by dsimp only at hSw; obtain ⟨⟨-, c1⟩, c3⟩ := hSw; go_simp⟩) (by assumption) ?_
    simp only [Act.put, List.getElem_toArray, List.getElem_cons_zero, List.getElem_cons_succ, List.setIfInBounds_toArray, List.set_cons_zero, List.set_cons_succ]
    refine wpAnyH_take (i := 36) (v := .bool true) rfl (by kernel_rfl) (by kernel_rfl) (by kernel_rfl) (fun c a w h => hKp c a _ _ w h) (Or.inl ⟨by kernel_rfl, fun w hSw => by dsimp only at hSw; obtain ⟨⟨-, c1⟩, c3⟩ := hSw; go_simp⟩) (by assumption) ?_
    simp only [Act.put, List.getElem_toArray, List.getElem_cons_zero, List.getElem_cons_succ, List.setIfInBounds_toArray, List.set_cons_zero, List.set_cons_succ]
    refine wpAnyH_done (by kernel_rfl) ?_ _
    generalize w5.heap.size = u0
    exact hfin u0 _ hHeldB.1
    intro u w9 hS9
    rcases hS9 with ⟨hb9, -⟩
    go_wp2
    go_ret
    exact ⟨rfl, HB1.out _ hb9⟩
  · go_enter Tryd.func3, Tryd.ntmps3
    go_upto_region 1 with fail
    rw [HW1.out]
    go_upto_region 2 with (go_at_call 4; (with_reducible refine (AW.out _ (Below.refl _ _)).mono ?_); rintro e w2 ⟨rfl, hb2⟩)
    obtain ⟨s0, s1, s2, s3, s4, s5, s6⟩ := H7.out _ hb2
    go_upto_region 5 with (first
      | (go_at_call 6; (with_reducible refine (MS.out _).mono ?_); rintro e w3 ⟨rfl, hb3⟩)
      | (go_at_call 5; (with_reducible refine (RO.out _).mono ?_); rintro e w4 ⟨rfl, hb4⟩))
    clear s0 s1 s2 s3 s4 s5 s6
    have hb3' := hb2.trans (hb3.mono hb2.size)
    have hb4' := hb3'.trans (hb4.mono hb3'.size)
    clear hb2 hb3 hb3' hb4
    obtain ⟨e0, e1⟩ := H2.out _ hb4'
    go_upto_region 6 with (go_at_call 7; (with_reducible refine (RS.out _).mono ?_); rintro e w8 ⟨rfl, rfl⟩)
    clear HW1 AW MS RS RO H7 h50 e0 e1
    have hd := Below.drew hb4'
    obtain ⟨e0, e1⟩ := H2.out _ hd
    have HC := Lib.hid (fun w' (hb : Below W1.heap.size W1 w') => (show Below W1.heap.size W1 w' ∧ w'.cell? ⟨w.heap.size + 1, 1, none⟩ = some (.int .i64 q1) from ⟨hb, (H2.out w' hb).2⟩))
    clear e0 e1 H2 hb4' HGL
    refine wp_region_held_drew (S := fun w' => Below W1.heap.size W1 w' ∧ w'.cell? ⟨w.heap.size + 1, 1, none⟩ = some (.int .i64 q1)) (by kernel_rfl) (HC.out _ hd) (fun hHeld => ?_)
    apply held_shellU
    exact fun _ _ d _ _ h => by cases d <;> exact h
    rotate_left 1
    intro KK hKp hfin
    refine wpAnyH_take (i := 0) (v := .bool true) rfl (by kernel_rfl) (by kernel_rfl) (by kernel_rfl) (fun c a w h => hKp c a _ _ w h) (Or.inl ⟨by kernel_rfl, fun w hSw => by dsimp only at hSw; obtain ⟨-, c1⟩ := hSw; go_simp⟩) (by assumption) ?_
    simp only [Act.put, List.getElem_toArray, List.getElem_cons_zero, List.setIfInBounds_toArray, List.set_cons_zero, List.set_cons_succ]
    refine wpAnyH_take (i := 1) (v := .bool true) rfl (by kernel_rfl) (by kernel_rfl) (by kernel_rfl) (fun c a w h => hKp c a _ _ w h) (Or.inl ⟨by kernel_rfl, fun w hSw => by dsimp only at hSw; obtain ⟨-, c1⟩ := hSw; go_simp⟩) (by assumption) ?_
    simp only [Act.put, List.getElem_toArray, List.getElem_cons_zero, List.getElem_cons_succ, List.setIfInBounds_toArray, List.set_cons_zero, List.set_cons_succ]
    refine wpAnyH_take (i := 2) (v := .string r) rfl (by kernel_rfl) (by kernel_rfl) (by kernel_rfl) (fun c a w h => hKp c a _ _ w h) (Or.inl ⟨by kernel_rfl, fun w hSw => by dsimp only at hSw; obtain ⟨-, c1⟩ := hSw; go_simp⟩) (by assumption) ?_
    simp only [Act.put, List.getElem_toArray, List.getElem_cons_zero, List.getElem_cons_succ, List.setIfInBounds_toArray, List.set_cons_zero, List.set_cons_succ]
    refine wpAnyH_ready (rs := [3]) (by kernel_rfl) (by simp) ?_
    refine AllReadyH.cons rfl (fun Kx hKx => ?_) AllReadyH.nil
    rw [if_pos (by kernel_rfl)]
    go_simp
    (refine (DC.out _ _ zr hHeld.1).mono ?_)
    rintro e w5 ⟨rfl, hb5, hbq⟩
    refine hKx.out _ _ (HC.out _ hb5) (fun hHeld => ?_)
    clear hKx Kx
    try simp only [Act.put, List.getElem_toArray, List.getElem_cons_zero, List.getElem_cons_succ, List.setIfInBounds_toArray, List.set_cons_zero, List.set_cons_succ]
    clear hbq
    refine wpAnyH_take (i := 4) (v := .bool true) rfl (by kernel_rfl) (by kernel_rfl) (by kernel_rfl) (fun c a w h => hKp c a _ _ w h) (Or.inl ⟨by kernel_rfl, fun w hSw => by dsimp only at hSw; obtain ⟨-, c1⟩ := hSw; go_simp⟩) (by assumption) ?_
    simp only [Act.put, List.getElem_toArray, List.getElem_cons_zero, List.getElem_cons_succ, List.setIfInBounds_toArray, List.set_cons_zero, List.set_cons_succ]
    refine wpAnyH_take (i := 5) (v := .bool true) rfl (by kernel_rfl) (by kernel_rfl) (by kernel_rfl) (fun c a w h => hKp c a _ _ w h) (Or.inl ⟨by kernel_rfl, fun w hSw => by dsimp only at hSw; obtain ⟨-, c1⟩ := hSw; go_simp⟩) (by assumption) ?_
    simp only [Act.put, List.getElem_toArray, List.getElem_cons_zero, List.getElem_cons_succ, List.setIfInBounds_toArray, List.set_cons_zero, List.set_cons_succ]
    refine wpAnyH_take (i := 6) (v := .string r) rfl (by kernel_rfl) (by kernel_rfl) (by kernel_rfl) (fun c a w h => hKp c a _ _ w h) (Or.inl ⟨by kernel_rfl, fun w hSw => by dsimp only at hSw; obtain ⟨-, c1⟩ := hSw; go_simp⟩) (by assumption) ?_
    simp only [Act.put, List.getElem_toArray, List.getElem_cons_zero, List.getElem_cons_succ, List.setIfInBounds_toArray, List.set_cons_zero, List.set_cons_succ]
    refine wpAnyH_take (i := 7) (v := .int .i64 (i : Int)) rfl (by kernel_rfl) (by kernel_rfl) (by kernel_rfl) (fun c a w h => hKp c a _ _ w h) (Or.inl ⟨by kernel_rfl, fun w hSw => by dsimp only at hSw; obtain ⟨-, c1⟩ := hSw; go_simp⟩) (by assumption) ?_
    simp only [Act.put, List.getElem_toArray, List.getElem_cons_zero, List.getElem_cons_succ, List.setIfInBounds_toArray, List.set_cons_zero, List.set_cons_succ]
    refine wpAnyH_take (i := 8) (v := .string p1) rfl (by kernel_rfl) (by kernel_rfl) (by kernel_rfl) (fun c a w h => hKp c a _ _ w h) (Or.inl ⟨by kernel_rfl, fun w hSw => by dsimp only at hSw; obtain ⟨-, c1⟩ := hSw; go_simp⟩) (by assumption) ?_
    simp only [Act.put, List.getElem_toArray, List.getElem_cons_zero, List.getElem_cons_succ, List.setIfInBounds_toArray, List.set_cons_zero, List.set_cons_succ]
    refine wpAnyH_take (i := 9) (v := .pointer (some ⟨w.heap.size + 1, 1, none⟩)) rfl (by kernel_rfl) (by kernel_rfl) (by kernel_rfl) (fun c a w h => hKp c a _ _ w h) (Or.inl ⟨by kernel_rfl, fun w hSw => by dsimp only at hSw; obtain ⟨-, c1⟩ := hSw; go_simp⟩) (by assumption) ?_
    simp only [Act.put, List.getElem_toArray, List.getElem_cons_zero, List.getElem_cons_succ, List.setIfInBounds_toArray, List.set_cons_zero, List.set_cons_succ]
    refine wpAnyH_take (i := 10) (v := .int .i64 q1) rfl (by kernel_rfl) (by kernel_rfl) (by kernel_rfl) (fun c a w h => hKp c a _ _ w h) (Or.inl ⟨by kernel_rfl, fun w hSw => by dsimp only at hSw; obtain ⟨-, c1⟩ := hSw; go_simp⟩) (by assumption) ?_
    simp only [Act.put, List.getElem_toArray, List.getElem_cons_zero, List.getElem_cons_succ, List.setIfInBounds_toArray, List.set_cons_zero, List.set_cons_succ]
    refine wpAnyH_take (i := 11) (v := .int .u8 (q1 % 256)) rfl (by kernel_rfl) (by kernel_rfl) (by kernel_rfl) (fun c a w h => hKp c a _ _ w h) (Or.inl ⟨by kernel_rfl, fun w hSw => by dsimp only at hSw; obtain ⟨-, c1⟩ := hSw; go_simp⟩) (by assumption) ?_
    simp only [Act.put, List.getElem_toArray, List.getElem_cons_zero, List.getElem_cons_succ, List.setIfInBounds_toArray, List.set_cons_zero, List.set_cons_succ]
    refine wpAnyH_take (i := 15) (v := .string r) rfl (by kernel_rfl) (by kernel_rfl) (by kernel_rfl) (fun c a w h => hKp c a _ _ w h) (Or.inl ⟨by kernel_rfl, fun w hSw => by dsimp only at hSw; obtain ⟨-, c1⟩ := hSw; go_simp⟩) (by assumption) ?_
    simp only [Act.put, List.getElem_toArray, List.getElem_cons_zero, List.getElem_cons_succ, List.setIfInBounds_toArray, List.set_cons_zero, List.set_cons_succ]
    refine wpAnyH_take (i := 16) (v := .int .i64 (i : Int)) rfl (by kernel_rfl) (by kernel_rfl) (by kernel_rfl) (fun c a w h => hKp c a _ _ w h) (Or.inl ⟨by kernel_rfl, fun w hSw => by dsimp only at hSw; obtain ⟨-, c1⟩ := hSw; go_simp⟩) (by assumption) ?_
    simp only [Act.put, List.getElem_toArray, List.getElem_cons_zero, List.getElem_cons_succ, List.setIfInBounds_toArray, List.set_cons_zero, List.set_cons_succ]
    refine wpAnyH_take (i := 17) (v := .int .i64 ((i : Int) + 1)) rfl (by kernel_rfl) (by kernel_rfl) (by kernel_rfl) (fun c a w h => hKp c a _ _ w h) (Or.inl ⟨by kernel_rfl, fun w hSw => by dsimp only at hSw; obtain ⟨-, c1⟩ := hSw; go_simp⟩) (by assumption) ?_
    simp only [Act.put, List.getElem_toArray, List.getElem_cons_zero, List.getElem_cons_succ, List.setIfInBounds_toArray, List.set_cons_zero, List.set_cons_succ]
    refine wpAnyH_take (i := 18) (v := .string p2) rfl (by kernel_rfl) (by kernel_rfl) (by kernel_rfl) (fun c a w h => hKp c a _ _ w h) (Or.inl ⟨by kernel_rfl, fun w hSw => by dsimp only at hSw; obtain ⟨-, c1⟩ := hSw; go_simp⟩) (by assumption) ?_
    simp only [Act.put, List.getElem_toArray, List.getElem_cons_zero, List.getElem_cons_succ, List.setIfInBounds_toArray, List.set_cons_zero, List.set_cons_succ]
    refine wpAnyH_ready (rs := [12]) (by kernel_rfl) (by simp) ?_
    refine AllReadyH.cons rfl (fun Kx hKx => ?_) AllReadyH.nil
    rw [if_pos (by kernel_rfl)]
    go_simp
    refine hKx.out _ _ (HC.out _ (hHeld.1.alloc hHeld.1.size _)) (fun hHeld => ?_)
    clear hKx Kx
    try simp only [Act.put, List.getElem_toArray, List.getElem_cons_zero, List.getElem_cons_succ, List.setIfInBounds_toArray, List.set_cons_zero, List.set_cons_succ]
    refine wpAnyH_strongD (S' := fun w' => (Below W1.heap.size W1 w' ∧ w'.cell? ⟨w.heap.size + 1, 1, none⟩ = some (.int .i64 q1)) ∧ w'.cell? ⟨w5.heap.size, 0, none⟩ = some (.int .u8 (q1 % 256))) (fun _ h => h.1) _ _ _ _ ?_
    have hHeldB := And.intro hHeld (cell_newB w5 (.int .u8 (q1 % 256)) 5)
    refine wpAnyH_take (i := 13) (v := .string cc) rfl (by kernel_rfl) (by kernel_rfl) (by kernel_rfl) (fun c a w h => hKp c a _ _ w h) (Or.inl ⟨by kernel_rfl, fun w hSw => by dsimp only at hSw; obtain ⟨⟨-, c1⟩, c3⟩ := hSw; have hcw := hcv w5 _ c3; go_simp⟩) (by assumption) ?_
    simp only [Act.put, List.getElem_toArray, List.getElem_cons_zero, List.getElem_cons_succ, List.setIfInBounds_toArray, List.set_cons_zero, List.set_cons_succ]
    refine wpAnyH_take (i := 14) (v := .string (x1)) rfl (by kernel_rfl) (by kernel_rfl) (by kernel_rfl) (fun c a w h => hKp c a _ _ w h) (Or.inl ⟨by kernel_rfl, fun w hSw => by dsimp only at hSw; obtain ⟨⟨-, c1⟩, c3⟩ := hSw; go_simp⟩) (by assumption) ?_
    simp only [Act.put, List.getElem_toArray, List.getElem_cons_zero, List.getElem_cons_succ, List.setIfInBounds_toArray, List.set_cons_zero, List.set_cons_succ]
    refine wpAnyH_take (i := 19) (v := .string (x2)) rfl (by kernel_rfl) (by kernel_rfl) (by kernel_rfl) (fun c a w h => hKp c a _ _ w h) (Or.inl ⟨by kernel_rfl, fun w hSw => by dsimp only at hSw; obtain ⟨⟨-, c1⟩, c3⟩ := hSw; go_simp⟩) (by assumption) ?_
    simp only [Act.put, List.getElem_toArray, List.getElem_cons_zero, List.getElem_cons_succ, List.setIfInBounds_toArray, List.set_cons_zero, List.set_cons_succ]
    refine wpAnyH_ready (rs := [20]) (by kernel_rfl) (by simp) ?_
    refine AllReadyH.cons rfl (fun Kx hKx => ?_) AllReadyH.nil
    rw [if_pos (by kernel_rfl)]
    go_simp
    (refine (DC.out _ _ zx hHeldB.1.1).mono ?_)
    rintro e w6 ⟨rfl, hbn, hbq⟩
    refine hKx.out _ _ (⟨HC.out _ hbn, (hbq.cell (lt_of_cellY hHeldB.2)).trans hHeldB.2⟩) (fun hHeld => ?_)
    clear hKx Kx
    try simp only [Act.put, List.getElem_toArray, List.getElem_cons_zero, List.getElem_cons_succ, List.setIfInBounds_toArray, List.set_cons_zero, List.set_cons_succ]
    clear hHeldB hbn hbq
    have hHeldB := hHeld
    refine wpAnyH_take (i := 21) (v := .bool true) rfl (by kernel_rfl) (by kernel_rfl) (by kernel_rfl) (fun c a w h => hKp c a _ _ w h) (Or.inl ⟨by kernel_rfl, fun w hSw => by dsimp only at hSw; obtain ⟨⟨-, c1⟩, c3⟩ := hSw; go_simp⟩) (by assumption) ?_
    simp only [Act.put, List.getElem_toArray, List.getElem_cons_zero, List.getElem_cons_succ, List.setIfInBounds_toArray, List.set_cons_zero, List.set_cons_succ]
    refine wpAnyH_take (i := 22) (v := .bool true) rfl (by kernel_rfl) (by kernel_rfl) (by kernel_rfl) (fun c a w h => hKp c a _ _ w h) (Or.inl ⟨by kernel_rfl, fun w hSw => by dsimp only at hSw; obtain ⟨⟨-, c1⟩, c3⟩ := hSw; go_simp⟩) (by assumption) ?_
    simp only [Act.put, List.getElem_toArray, List.getElem_cons_zero, List.getElem_cons_succ, List.setIfInBounds_toArray, List.set_cons_zero, List.set_cons_succ]
    refine wpAnyH_take (i := 23) (v := .string s) rfl (by kernel_rfl) (by kernel_rfl) (by kernel_rfl) (fun c a w h => hKp c a _ _ w h) (Or.inl ⟨by kernel_rfl, fun w hSw => by dsimp only at hSw; obtain ⟨⟨-, c1⟩, c3⟩ := hSw; go_simp⟩) (by assumption) ?_
    simp only [Act.put, List.getElem_toArray, List.getElem_cons_zero, List.getElem_cons_succ, List.setIfInBounds_toArray, List.set_cons_zero, List.set_cons_succ]
    refine wpAnyH_ready (rs := [24]) (by kernel_rfl) (by simp) ?_
    refine AllReadyH.cons rfl (fun Kx hKx => ?_) AllReadyH.nil
    rw [if_pos (by kernel_rfl)]
    go_simp
    (refine (DC.out _ _ zt hHeldB.1.1).mono ?_)
    rintro e w7 ⟨rfl, hbn, hbq⟩
    refine hKx.out _ _ (⟨HC.out _ hbn, (hbq.cell (lt_of_cellY hHeldB.2)).trans hHeldB.2⟩) (fun hHeld => ?_)
    clear hKx Kx
    try simp only [Act.put, List.getElem_toArray, List.getElem_cons_zero, List.getElem_cons_succ, List.setIfInBounds_toArray, List.set_cons_zero, List.set_cons_succ]
    clear hHeldB hbn hbq
    have hHeldB := hHeld
    refine wpAnyH_take (i := 25) (v := .bool true) rfl (by kernel_rfl) (by kernel_rfl) (by kernel_rfl) (fun c a w h => hKp c a _ _ w h) (Or.inl ⟨by kernel_rfl, fun w hSw => by dsimp only at hSw; obtain ⟨⟨-, c1⟩, c3⟩ := hSw; go_simp⟩) (by assumption) ?_
    simp only [Act.put, List.getElem_toArray, List.getElem_cons_zero, List.getElem_cons_succ, List.setIfInBounds_toArray, List.set_cons_zero, List.set_cons_succ]
    refine wpAnyH_take (i := 26) (v := .bool true) rfl (by kernel_rfl) (by kernel_rfl) (by kernel_rfl) (fun c a w h => hKp c a _ _ w h) (Or.inl ⟨by kernel_rfl, fun w hSw => by dsimp only at hSw; obtain ⟨⟨-, c1⟩, c3⟩ := hSw; go_simp⟩) (by assumption) ?_
    simp only [Act.put, List.getElem_toArray, List.getElem_cons_zero, List.getElem_cons_succ, List.setIfInBounds_toArray, List.set_cons_zero, List.set_cons_succ]
    refine wpAnyH_take (i := 27) (v := .string r) rfl (by kernel_rfl) (by kernel_rfl) (by kernel_rfl) (fun c a w h => hKp c a _ _ w h) (Or.inl ⟨by kernel_rfl, fun w hSw => by dsimp only at hSw; obtain ⟨⟨-, c1⟩, c3⟩ := hSw; go_simp⟩) (by assumption) ?_
    simp only [Act.put, List.getElem_toArray, List.getElem_cons_zero, List.getElem_cons_succ, List.setIfInBounds_toArray, List.set_cons_zero, List.set_cons_succ]
    refine wpAnyH_take (i := 28) (v := .string ra) rfl (by kernel_rfl) (by kernel_rfl) (by kernel_rfl) (fun c a w h => hKp c a _ _ w h) (Or.inl ⟨by kernel_rfl, fun w hSw => by dsimp only at hSw; obtain ⟨⟨-, c1⟩, c3⟩ := hSw; go_simp⟩) (by assumption) ?_
    simp only [Act.put, List.getElem_toArray, List.getElem_cons_zero, List.getElem_cons_succ, List.setIfInBounds_toArray, List.set_cons_zero, List.set_cons_succ]
    refine wpAnyH_ready (rs := [29]) (by kernel_rfl) (by simp) ?_
    refine AllReadyH.cons rfl (fun Kx hKx => ?_) AllReadyH.nil
    rw [if_pos (by kernel_rfl)]
    go_simp
    (refine (DC.out _ _ za hHeldB.1.1).mono ?_)
    rintro e w8 ⟨rfl, hbn, hbq⟩
    refine hKx.out _ _ (⟨HC.out _ hbn, (hbq.cell (lt_of_cellY hHeldB.2)).trans hHeldB.2⟩) (fun hHeld => ?_)
    clear hKx Kx
    try simp only [Act.put, List.getElem_toArray, List.getElem_cons_zero, List.getElem_cons_succ, List.setIfInBounds_toArray, List.set_cons_zero, List.set_cons_succ]
    clear hHeldB hbn hbq
    have hHeldB := hHeld
    refine wpAnyH_take (i := 30) (v := .bool true) rfl (by kernel_rfl) (by kernel_rfl) (by kernel_rfl) (fun c a w h => hKp c a _ _ w h) (Or.inl ⟨by kernel_rfl, fun w hSw => by dsimp only at hSw; obtain ⟨⟨-, c1⟩, c3⟩ := hSw; go_simp⟩) (by assumption) ?_
    simp only [Act.put, List.getElem_toArray, List.getElem_cons_zero, List.getElem_cons_succ, List.setIfInBounds_toArray, List.set_cons_zero, List.set_cons_succ]
    refine wpAnyH_take (i := 31) (v := .bool true) rfl (by kernel_rfl) (by kernel_rfl) (by kernel_rfl) (fun c a w h => hKp c a _ _ w h) (Or.inl ⟨by kernel_rfl, fun w hSw => by dsimp only at hSw; obtain ⟨⟨-, c1⟩, c3⟩ := hSw; go_simp⟩) (by assumption) ?_
    simp only [Act.put, List.getElem_toArray, List.getElem_cons_zero, List.getElem_cons_succ, List.setIfInBounds_toArray, List.set_cons_zero, List.set_cons_succ]
    refine wpAnyH_take (i := 32) (v := .string r) rfl (by kernel_rfl) (by kernel_rfl) (by kernel_rfl) (fun c a w h => hKp c a _ _ w h) (Or.inl ⟨by kernel_rfl, fun w hSw => by dsimp only at hSw; obtain ⟨⟨-, c1⟩, c3⟩ := hSw; go_simp⟩) (by assumption) ?_
    simp only [Act.put, List.getElem_toArray, List.getElem_cons_zero, List.getElem_cons_succ, List.setIfInBounds_toArray, List.set_cons_zero, List.set_cons_succ]
    refine wpAnyH_take (i := 33) (v := .string rc) rfl (by kernel_rfl) (by kernel_rfl) (by kernel_rfl) (fun c a w h => hKp c a _ _ w h) (Or.inl ⟨by kernel_rfl, fun w hSw => by dsimp only at hSw; obtain ⟨⟨-, c1⟩, c3⟩ := hSw; go_simp⟩) (by assumption) ?_
    simp only [Act.put, List.getElem_toArray, List.getElem_cons_zero, List.getElem_cons_succ, List.setIfInBounds_toArray, List.set_cons_zero, List.set_cons_succ]
    refine wpAnyH_ready (rs := [34]) (by kernel_rfl) (by simp) ?_
    refine AllReadyH.cons rfl (fun Kx hKx => ?_) AllReadyH.nil
    rw [if_pos (by kernel_rfl)]
    go_simp
    (refine (DC.out _ _ zc hHeldB.1.1).mono ?_)
    rintro e w9 ⟨rfl, hbn, hbq⟩
    refine hKx.out _ _ (⟨HC.out _ hbn, (hbq.cell (lt_of_cellY hHeldB.2)).trans hHeldB.2⟩) (fun hHeld => ?_)
    clear hKx Kx
    try simp only [Act.put, List.getElem_toArray, List.getElem_cons_zero, List.getElem_cons_succ, List.setIfInBounds_toArray, List.set_cons_zero, List.set_cons_succ]
    clear hHeldB hbn hbq
    have hHeldB := hHeld
    refine wpAnyH_take (i := 35) (v := .bool true) rfl (by kernel_rfl) (by kernel_rfl) (by kernel_rfl) (fun c a w h => hKp c a _ _ w h) (Or.inl ⟨by kernel_rfl, fun w hSw => by dsimp only at hSw; obtain ⟨⟨-, c1⟩, c3⟩ := hSw; go_simp⟩) (by assumption) ?_
    simp only [Act.put, List.getElem_toArray, List.getElem_cons_zero, List.getElem_cons_succ, List.setIfInBounds_toArray, List.set_cons_zero, List.set_cons_succ]
    refine wpAnyH_take (i := 36) (v := .bool true) rfl (by kernel_rfl) (by kernel_rfl) (by kernel_rfl) (fun c a w h => hKp c a _ _ w h) (Or.inl ⟨by kernel_rfl, fun w hSw => by dsimp only at hSw; obtain ⟨⟨-, c1⟩, c3⟩ := hSw; go_simp⟩) (by assumption) ?_
    simp only [Act.put, List.getElem_toArray, List.getElem_cons_zero, List.getElem_cons_succ, List.setIfInBounds_toArray, List.set_cons_zero, List.set_cons_succ]
    refine wpAnyH_done (by kernel_rfl) ?_ _
    generalize w5.heap.size = u0
    exact hfin u0 _ hHeldB.1
    intro u w9 hS9
    rcases hS9 with ⟨hb9, -⟩
    go_wp2
    go_ret
    exact ⟨rfl, HB1.out _ hb9⟩
end Go.Proofs.YtlpjdknmnomdlaaDoor
