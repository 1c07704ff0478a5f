/-
  Package alias: fields, the closure that tells whether an alias is what it must be, Right. (Printed by wip/gen_yright.py.)
-/
import Derived.Test.YtlpjdknmnomdlaaGreatDoorYKinds
import Derived.Deep.RegionHeld3
import Derived.Deep.CutRange
namespace Go.Proofs.YtlpjdknmnomdlaaGreatDoor
open Go Go.RowKit

theorem size5P : (Tryz.prog.info? 232).map (·.size) = some 5 := by kernel_rfl
set_option maxRecDepth 100000 in
set_option maxHeartbeats 1000000 in
theorem fields_any (b : Nat) (w : World) :
    Calls Tryz.prog 167 #[.pointer (some ⟨b, 0, none⟩)] w fun e w' => e = .returned (.agg #[.pointer (some ⟨b, 1, none⟩), .pointer (some ⟨b, 2, none⟩), .pointer (some ⟨b, 3, none⟩), .pointer (some ⟨b, 4, none⟩), .pointer (some ⟨b, 5, none⟩)]) ∧ Below w.heap.size w w' := by
  go_enter Tryz.func167, Tryz.ntmps167
  go_wp2
  go_region
  go_wp2
  refine bodyPost_ret (results_cell_row rfl _ _ w.heap.size 232 _ (0, 0) _ rfl (World.alloc_heap_new w _) Tryz.underlying232 rfl size5P) rfl ?_
  first
  | exact ⟨rfl, Below.drew ((Below.refl _ w).alloc (Nat.le_refl _) _)⟩
  | exact ⟨rfl, (Below.refl _ w).alloc (Nat.le_refl _) _⟩

/-! must's closure. -/
theorem held_shell {P : Program} {md : Region.Mode} {ops : Array Oper} {S : World → Prop} {Q : Exit → Act → World → Prop} {n : Nat} {l : Array Bool} {a : Act} {w : World} {aF : Act} (h1 : ∀ c (a : Act) d v w, Q (.panic c) (a.put d v) w → Q (.panic c) a w) (h2 : ∀ w, S w → Q .normal aF w)
    (h3 : ∀ K : Exit → Act → World → Prop, (∀ c (a : Act) d v w, K (.panic c) (a.put d v) w → K (.panic c) a w) → (∀ w, S w → K .normal aF w) → wpAnyH P md ops K S n l a w) : wpAnyH P md ops Q S n l a w := h3 Q h1 h2
def bLY (f : Fv) (x : Al) : List Bool := [f.f1 x.a && smallS x.a, f.f2 x.b && smallS x.b, f.f3 x.l && smallS x.l, f.f4 x.s && smallS x.s, f.f5 x.r && smallS x.r]
theorem must_all (f : Fv) (x : Al) : mustA f x = (bLY f x).all id := by simp [mustA, bLY]
theorem must_step {f : Fv} {x : Al} {k : Nat} (h : (bLY f x)[k]? = some true) (hp : ((bLY f x).take k).all id = true) : ((bLY f x).take (k + 1)).all id = true := by
  rw [List.take_add_one, h, List.all_append, hp]; rfl
theorem must_false {f : Fv} {x : Al} {k : Nat} (h : (bLY f x)[k]? = some false) : mustA f x = false := by
  rw [must_all]
  cases hh : (bLY f x).all id with
  | false => rfl
  | true =>
    have := List.all_eq_true.1 hh false (List.mem_of_getElem? h)
    cases this
theorem must_full {f : Fv} {x : Al} (h : ((bLY f x).take 5).all id = true) : mustA f x = true := by rw [must_all]; exact h
theorem FitV.call {M : Nat} {w : World} {F : FuncId} {C : Array Value} {p : ByteArray → Bool} (h : FitV M w (.func (.func F) #[] C) p) :
    Enters Tryz.prog F ∧ ∀ s : ByteArray, s.size ≤ 1048576 → ∀ w5, w.grownBy w5 (some M) → Calls Tryz.prog F (#[.string s] ++ C) w5 fun e w' => e = .returned (.bool (p s)) ∧ Below w5.heap.size w5 w' := by
  obtain ⟨F', C', h1, h2, h3⟩ := h
  injection h1 with e1 _ e3
  injection e1 with e1
  subst e1 e3
  exact ⟨h2, h3⟩

theorem index5_0 (b : Nat) (w : World) : (Instr.index 232 (.agg #[.pointer (some ⟨b, 1, none⟩), .pointer (some ⟨b, 2, none⟩), .pointer (some ⟨b, 3, none⟩), .pointer (some ⟨b, 4, none⟩), .pointer (some ⟨b, 5, none⟩)]) (.int .i64 0)).run Tryz.prog w = .ok (.pointer (some ⟨b, 1, none⟩)) w := by kernel_rfl
theorem index5_1 (b : Nat) (w : World) : (Instr.index 232 (.agg #[.pointer (some ⟨b, 1, none⟩), .pointer (some ⟨b, 2, none⟩), .pointer (some ⟨b, 3, none⟩), .pointer (some ⟨b, 4, none⟩), .pointer (some ⟨b, 5, none⟩)]) (.int .i64 1)).run Tryz.prog w = .ok (.pointer (some ⟨b, 2, none⟩)) w := by kernel_rfl
theorem index5_2 (b : Nat) (w : World) : (Instr.index 232 (.agg #[.pointer (some ⟨b, 1, none⟩), .pointer (some ⟨b, 2, none⟩), .pointer (some ⟨b, 3, none⟩), .pointer (some ⟨b, 4, none⟩), .pointer (some ⟨b, 5, none⟩)]) (.int .i64 2)).run Tryz.prog w = .ok (.pointer (some ⟨b, 3, none⟩)) w := by kernel_rfl
theorem index5_3 (b : Nat) (w : World) : (Instr.index 232 (.agg #[.pointer (some ⟨b, 1, none⟩), .pointer (some ⟨b, 2, none⟩), .pointer (some ⟨b, 3, none⟩), .pointer (some ⟨b, 4, none⟩), .pointer (some ⟨b, 5, none⟩)]) (.int .i64 3)).run Tryz.prog w = .ok (.pointer (some ⟨b, 4, none⟩)) w := by kernel_rfl
theorem index5_4 (b : Nat) (w : World) : (Instr.index 232 (.agg #[.pointer (some ⟨b, 1, none⟩), .pointer (some ⟨b, 2, none⟩), .pointer (some ⟨b, 3, none⟩), .pointer (some ⟨b, 4, none⟩), .pointer (some ⟨b, 5, none⟩)]) (.int .i64 4)).run Tryz.prog w = .ok (.pointer (some ⟨b, 5, none⟩)) w := by kernel_rfl
theorem cells6 {W : World} {B : Nat} {a b c d e f : Value} {t : TypeId} (h : W.heap[B]? = some (.cells #[a, b, c, d, e, f] t (0, 0))) :
    W.cell? ⟨B, 0, none⟩ = some a ∧ W.cell? ⟨B, 1, none⟩ = some b ∧ W.cell? ⟨B, 2, none⟩ = some c ∧ W.cell? ⟨B, 3, none⟩ = some d ∧ W.cell? ⟨B, 4, none⟩ = some e ∧ W.cell? ⟨B, 5, none⟩ = some f := by
  simp [World.cell?, h]

set_option maxRecDepth 100000 in
set_option maxHeartbeats 8000000 in
theorem must1_any (x : Al) (w : World) (M B : Nat) (f : Fv) (hK : KeepV M w B f) (z1 : x.a.size ≤ 1048576) (z2 : x.b.size ≤ 1048576) (z3 : x.l.size ≤ 1048576) (z4 : x.s.size ≤ 1048576) (z5 : x.r.size ≤ 1048576) :
    Calls Tryz.prog 199 #[.agg #[.int .i64 x.k, .string x.a, .string x.b, .string x.l, .string x.s, .string x.r], .pointer (some ⟨B, 0, none⟩)] w fun e w' => e = .returned (.bool (mustA f x)) ∧ Below w.heap.size w w' := by
  obtain ⟨⟨F1, F2, F3, F4, F5, C1, C2, C3, C4, C5, h0, f1, f2, f3, f4, f5⟩, hn⟩ := hK
  obtain ⟨W1, hW1⟩ : ∃ W1, w.alloc (.cells #[.int .i64 x.k, .string x.a, .string x.b, .string x.l, .string x.s, .string x.r] 74) = W1 := ⟨_, rfl⟩
  have hb1 : Below w.heap.size w W1 := by rw [← hW1]; exact (Below.refl _ w).alloc (Nat.le_refl _) _
  have hA : W1.heap[w.heap.size]? = some (.cells #[.int .i64 x.k, .string x.a, .string x.b, .string x.l, .string x.s, .string x.r] 74 (0, 0)) := by rw [← hW1]; exact World.alloc_heap_new w _
  have h01 := (hb1.block B (lt_of_block h0)).trans h0
  have hc6 := Lib.hid (fun w' (hb : Below W1.heap.size W1 w') => cells6 ((hb.block _ (lt_of_block hA)).trans hA))
  have hc5 := Lib.hid (fun w' (hb : Below W1.heap.size W1 w') => (cells5 ((hb.block _ (lt_of_block h01)).trans h01)).1)
  have hB0 := Lib.hid (fun w' (hb : Below W1.heap.size W1 w') => hb1.trans (hb.mono hb1.size))
  have c1 := (f1.grown (gr_of_below hb1)).call
  have E1 : ∀ args w, (callFunc F1 args).run Tryz.prog w = .ok (.enter F1 args) w := c1.1
  have HF1 := Lib.hid (fun w' (hb : Below W1.heap.size W1 w') => (c1.2 x.a z1 w' (gr_of_below hb)).mono (R' := fun e w'' => e = .returned (.bool (f.f1 x.a)) ∧ (Below W1.heap.size W1 w'' ∧ w''.cell? ⟨B, 0, none⟩ = some (.func (.func F1) #[] C1) ∧ w''.cell? ⟨w.heap.size, 1, none⟩ = some (.string x.a))) fun e w'' ⟨p, r⟩ => by
    have q := hb.trans (r.mono hb.size)
    exact ⟨p, q, (hc5.out w'' q).1, (hc6.out w'' q).2.1⟩)
  have HS1 := Lib.hid (fun w' (hb : Below W1.heap.size W1 w') => (small_own x.a w' z1).mono (R' := fun e w'' => e = .returned (.bool (smallS x.a)) ∧ (Below W1.heap.size W1 w'' ∧ w''.cell? ⟨B, 0, none⟩ = some (.func (.func F1) #[] C1) ∧ w''.cell? ⟨w.heap.size, 1, none⟩ = some (.string x.a))) fun e w'' ⟨p, r⟩ => by
    have q := hb.trans (r.mono hb.size)
    exact ⟨p, q, (hc5.out w'' q).1, (hc6.out w'' q).2.1⟩)
  have HL1 := Lib.hid (show (bLY f x)[0]? = some (f.f1 x.a && smallS x.a) from rfl)
  clear c1 f1
  have c2 := (f2.grown (gr_of_below hb1)).call
  have E2 : ∀ args w, (callFunc F2 args).run Tryz.prog w = .ok (.enter F2 args) w := c2.1
  have HF2 := Lib.hid (fun w' (hb : Below W1.heap.size W1 w') => (c2.2 x.b z2 w' (gr_of_below hb)).mono (R' := fun e w'' => e = .returned (.bool (f.f2 x.b)) ∧ (Below W1.heap.size W1 w'' ∧ w''.cell? ⟨B, 1, none⟩ = some (.func (.func F2) #[] C2) ∧ w''.cell? ⟨w.heap.size, 2, none⟩ = some (.string x.b))) fun e w'' ⟨p, r⟩ => by
    have q := hb.trans (r.mono hb.size)
    exact ⟨p, q, (hc5.out w'' q).2.1, (hc6.out w'' q).2.2.1⟩)
  have HS2 := Lib.hid (fun w' (hb : Below W1.heap.size W1 w') => (small_own x.b w' z2).mono (R' := fun e w'' => e = .returned (.bool (smallS x.b)) ∧ (Below W1.heap.size W1 w'' ∧ w''.cell? ⟨B, 1, none⟩ = some (.func (.func F2) #[] C2) ∧ w''.cell? ⟨w.heap.size, 2, none⟩ = some (.string x.b))) fun e w'' ⟨p, r⟩ => by
    have q := hb.trans (r.mono hb.size)
    exact ⟨p, q, (hc5.out w'' q).2.1, (hc6.out w'' q).2.2.1⟩)
  have HL2 := Lib.hid (show (bLY f x)[1]? = some (f.f2 x.b && smallS x.b) from rfl)
  clear c2 f2
  have c3 := (f3.grown (gr_of_below hb1)).call
  have E3 : ∀ args w, (callFunc F3 args).run Tryz.prog w = .ok (.enter F3 args) w := c3.1
  have HF3 := Lib.hid (fun w' (hb : Below W1.heap.size W1 w') => (c3.2 x.l z3 w' (gr_of_below hb)).mono (R' := fun e w'' => e = .returned (.bool (f.f3 x.l)) ∧ (Below W1.heap.size W1 w'' ∧ w''.cell? ⟨B, 2, none⟩ = some (.func (.func F3) #[] C3) ∧ w''.cell? ⟨w.heap.size, 3, none⟩ = some (.string x.l))) fun e w'' ⟨p, r⟩ => by
    have q := hb.trans (r.mono hb.size)
    exact ⟨p, q, (hc5.out w'' q).2.2.1, (hc6.out w'' q).2.2.2.1⟩)
  have HS3 := Lib.hid (fun w' (hb : Below W1.heap.size W1 w') => (small_own x.l w' z3).mono (R' := fun e w'' => e = .returned (.bool (smallS x.l)) ∧ (Below W1.heap.size W1 w'' ∧ w''.cell? ⟨B, 2, none⟩ = some (.func (.func F3) #[] C3) ∧ w''.cell? ⟨w.heap.size, 3, none⟩ = some (.string x.l))) fun e w'' ⟨p, r⟩ => by
    have q := hb.trans (r.mono hb.size)
    exact ⟨p, q, (hc5.out w'' q).2.2.1, (hc6.out w'' q).2.2.2.1⟩)
  have HL3 := Lib.hid (show (bLY f x)[2]? = some (f.f3 x.l && smallS x.l) from rfl)
  clear c3 f3
  have c4 := (f4.grown (gr_of_below hb1)).call
  have E4 : ∀ args w, (callFunc F4 args).run Tryz.prog w = .ok (.enter F4 args) w := c4.1
  have HF4 := Lib.hid (fun w' (hb : Below W1.heap.size W1 w') => (c4.2 x.s z4 w' (gr_of_below hb)).mono (R' := fun e w'' => e = .returned (.bool (f.f4 x.s)) ∧ (Below W1.heap.size W1 w'' ∧ w''.cell? ⟨B, 3, none⟩ = some (.func (.func F4) #[] C4) ∧ w''.cell? ⟨w.heap.size, 4, none⟩ = some (.string x.s))) fun e w'' ⟨p, r⟩ => by
    have q := hb.trans (r.mono hb.size)
    exact ⟨p, q, (hc5.out w'' q).2.2.2.1, (hc6.out w'' q).2.2.2.2.1⟩)
  have HS4 := Lib.hid (fun w' (hb : Below W1.heap.size W1 w') => (small_own x.s w' z4).mono (R' := fun e w'' => e = .returned (.bool (smallS x.s)) ∧ (Below W1.heap.size W1 w'' ∧ w''.cell? ⟨B, 3, none⟩ = some (.func (.func F4) #[] C4) ∧ w''.cell? ⟨w.heap.size, 4, none⟩ = some (.string x.s))) fun e w'' ⟨p, r⟩ => by
    have q := hb.trans (r.mono hb.size)
    exact ⟨p, q, (hc5.out w'' q).2.2.2.1, (hc6.out w'' q).2.2.2.2.1⟩)
  have HL4 := Lib.hid (show (bLY f x)[3]? = some (f.f4 x.s && smallS x.s) from rfl)
  clear c4 f4
  have c5 := (f5.grown (gr_of_below hb1)).call
  have E5 : ∀ args w, (callFunc F5 args).run Tryz.prog w = .ok (.enter F5 args) w := c5.1
  have HF5 := Lib.hid (fun w' (hb : Below W1.heap.size W1 w') => (c5.2 x.r z5 w' (gr_of_below hb)).mono (R' := fun e w'' => e = .returned (.bool (f.f5 x.r)) ∧ (Below W1.heap.size W1 w'' ∧ w''.cell? ⟨B, 4, none⟩ = some (.func (.func F5) #[] C5) ∧ w''.cell? ⟨w.heap.size, 5, none⟩ = some (.string x.r))) fun e w'' ⟨p, r⟩ => by
    have q := hb.trans (r.mono hb.size)
    exact ⟨p, q, (hc5.out w'' q).2.2.2.2, (hc6.out w'' q).2.2.2.2.2⟩)
  have HS5 := Lib.hid (fun w' (hb : Below W1.heap.size W1 w') => (small_own x.r w' z5).mono (R' := fun e w'' => e = .returned (.bool (smallS x.r)) ∧ (Below W1.heap.size W1 w'' ∧ w''.cell? ⟨B, 4, none⟩ = some (.func (.func F5) #[] C5) ∧ w''.cell? ⟨w.heap.size, 5, none⟩ = some (.string x.r))) fun e w'' ⟨p, r⟩ => by
    have q := hb.trans (r.mono hb.size)
    exact ⟨p, q, (hc5.out w'' q).2.2.2.2, (hc6.out w'' q).2.2.2.2.2⟩)
  have HL5 := Lib.hid (show (bLY f x)[4]? = some (f.f5 x.r && smallS x.r) from rfl)
  clear c5 f5
  have HN := Lib.hid (fun w' (hb : Below W1.heap.size W1 w') => (fields_any w.heap.size w').mono (R' := fun e w'' => e = .returned (.agg #[.pointer (some ⟨w.heap.size, 1, none⟩), .pointer (some ⟨w.heap.size, 2, none⟩), .pointer (some ⟨w.heap.size, 3, none⟩), .pointer (some ⟨w.heap.size, 4, none⟩), .pointer (some ⟨w.heap.size, 5, none⟩)]) ∧ Below W1.heap.size W1 w'') fun e w'' ⟨p, r⟩ => ⟨p, hb.trans (r.mono hb.size)⟩)
  clear h0 hn hb1 hA h01 z1 z2 z3 z4 z5
  go_enter Tryz.func199, Tryz.ntmps199
  go_upto_region 1 with fail
  clear hW1
  go_wp2_with (go_at_call 167; (with_reducible refine (HN.out _ (Below.refl _ _)).mono ?_); rintro e w2 ⟨rfl, hb2⟩)
  go_loopw [4, 5, 7] (fun _ _ i wr => ∃ k : Nat, k ≤ 5 ∧ i = .int .i64 (k : Int) ∧ ((bLY f x).take k).all id = true ∧ Below W1.heap.size W1 wr) (fun _ _ i _ => 5 - (intOf i).toNat)
  case atStart => exact ⟨0, Nat.zero_le _, rfl, rfl, hb2⟩
  case round =>
    obtain ⟨k, hk, rfl, ha, hR⟩ := hrel
    clear hb2
    have HA := Lib.hid ha
    clear ha
    rcases k with _ | _ | _ | _ | _ | k
    · have hix := index5_0 w.heap.size wr
      cases hp : f.f1 x.a with
      | false =>
        have HM := Lib.hid (must_false (k := 0) (by rw [HL1.out, hp]; rfl))
        rw [hp] at HF1
        clear hp
        go_wp2
        have hd := Below.drew hR
        have d1 := (hc5.out _ hd).1
        have d2 := (hc6.out _ hd).2.1
        refine wp_region_held_drew (S := fun w' => Below W1.heap.size W1 w' ∧ w'.cell? ⟨B, 0, none⟩ = some (.func (.func F1) #[] C1) ∧ w'.cell? ⟨w.heap.size, 1, none⟩ = some (.string x.a)) (by kernel_rfl) ⟨by assumption, by assumption, by assumption⟩ (fun hHeld => ?_)
        apply held_shell
        exact fun _ _ d _ _ h => by cases d <;> exact h
        rotate_left 1
        intro KK hKp hfin
        refine wpAnyH_take (i := 0) (v := .int .i64 0) rfl (by kernel_rfl) (by kernel_rfl) (by kernel_rfl) (fun c a w h => hKp c a _ _ w h) (Or.inl ⟨by kernel_rfl, fun w hSw => by dsimp only at hSw; obtain ⟨-, hs1, hs2⟩ := hSw; go_simp⟩) (by assumption) ?_
        simp only [Act.put, List.getElem_toArray, List.getElem_cons_zero, List.setIfInBounds_toArray, List.set_cons_zero, List.set_cons_succ]
        refine wpAnyH_take (i := 1) (v := .pointer (some ⟨B, 0, none⟩)) rfl (by kernel_rfl) (by kernel_rfl) (by kernel_rfl) (fun c a w h => hKp c a _ _ w h) (Or.inl ⟨by kernel_rfl, fun w hSw => by dsimp only at hSw; obtain ⟨-, hs1, hs2⟩ := hSw; go_simp⟩) (by assumption) ?_
        simp only [Act.put, List.getElem_toArray, List.getElem_cons_zero, List.getElem_cons_succ, List.setIfInBounds_toArray, List.set_cons_zero, List.set_cons_succ]
        refine wpAnyH_take (i := 2) (v := .func (.func F1) #[] C1) rfl (by kernel_rfl) (by kernel_rfl) (by kernel_rfl) (fun c a w h => hKp c a _ _ w h) (Or.inl ⟨by kernel_rfl, fun w hSw => by dsimp only at hSw; obtain ⟨-, hs1, hs2⟩ := hSw; go_simp⟩) (by assumption) ?_
        simp only [Act.put, List.getElem_toArray, List.getElem_cons_zero, List.getElem_cons_succ, List.setIfInBounds_toArray, List.set_cons_zero, List.set_cons_succ]
        refine wpAnyH_take (i := 3) (v := .pointer (some ⟨w.heap.size, 1, none⟩)) rfl (by kernel_rfl) (by kernel_rfl) (by kernel_rfl) (fun c a w h => hKp c a _ _ w h) (Or.inl ⟨by kernel_rfl, fun w hSw => by dsimp only at hSw; obtain ⟨-, hs1, hs2⟩ := hSw; go_simp⟩) (by assumption) ?_
        simp only [Act.put, List.getElem_toArray, List.getElem_cons_zero, List.getElem_cons_succ, List.setIfInBounds_toArray, List.set_cons_zero, List.set_cons_succ]
        refine wpAnyH_take (i := 4) (v := .pointer (some ⟨w.heap.size, 1, none⟩)) rfl (by kernel_rfl) (by kernel_rfl) (by kernel_rfl) (fun c a w h => hKp c a _ _ w h) (Or.inl ⟨by kernel_rfl, fun w hSw => by dsimp only at hSw; obtain ⟨-, hs1, hs2⟩ := hSw; go_simp⟩) (by assumption) ?_
        simp only [Act.put, List.getElem_toArray, List.getElem_cons_zero, List.getElem_cons_succ, List.setIfInBounds_toArray, List.set_cons_zero, List.set_cons_succ]
        refine wpAnyH_take (i := 5) (v := .string x.a) rfl (by kernel_rfl) (by kernel_rfl) (by kernel_rfl) (fun c a w h => hKp c a _ _ w h) (Or.inl ⟨by kernel_rfl, fun w hSw => by dsimp only at hSw; obtain ⟨-, hs1, hs2⟩ := hSw; go_simp⟩) (by assumption) ?_
        simp only [Act.put, List.getElem_toArray, List.getElem_cons_zero, List.getElem_cons_succ, List.setIfInBounds_toArray, List.set_cons_zero, List.set_cons_succ]
        refine wpAnyH_ready (rs := [6]) (by kernel_rfl) (by simp) ?_
        refine AllReadyH.cons rfl (fun Kx hKx => ?_) AllReadyH.nil
        go_simp
        refine (HF1.out _ hHeld.1).mono ?_
        rintro e w5 ⟨rfl, hb5, c5, d5⟩
        refine hKx.out _ _ ⟨hb5, c5, d5⟩ (fun hHeld => ?_)
        clear hKx Kx
        refine wpAnyH_take (i := 7) (v := .bool true) rfl (by kernel_rfl) (by kernel_rfl) (by kernel_rfl) (fun c a w h => hKp c a _ _ w h) (Or.inl ⟨by kernel_rfl, fun w hSw => by dsimp only at hSw; obtain ⟨-, hs1, hs2⟩ := hSw; go_simp⟩) (by assumption) ?_
        simp only [Act.put, List.getElem_toArray, List.getElem_cons_zero, List.getElem_cons_succ, List.setIfInBounds_toArray, List.set_cons_zero, List.set_cons_succ]
        refine wpAnyH_take (i := 8) (v := .bool true) rfl (by kernel_rfl) (by kernel_rfl) (by kernel_rfl) (fun c a w h => hKp c a _ _ w h) (Or.inl ⟨by kernel_rfl, fun w hSw => by dsimp only at hSw; obtain ⟨-, hs1, hs2⟩ := hSw; go_simp⟩) (by assumption) ?_
        simp only [Act.put, List.getElem_toArray, List.getElem_cons_zero, List.getElem_cons_succ, List.setIfInBounds_toArray, List.set_cons_zero, List.set_cons_succ]
        refine wpAnyH_take (i := 9) (v := undef) rfl (by kernel_rfl) (by kernel_rfl) (by kernel_rfl) (fun c a w h => hKp c a _ _ w h) (Or.inr ⟨by kernel_rfl, rfl⟩) (by assumption) ?_
        simp only [Act.put, List.getElem_toArray, List.getElem_cons_zero, List.getElem_cons_succ, List.setIfInBounds_toArray, List.set_cons_zero, List.set_cons_succ]
        refine wpAnyH_take (i := 10) (v := undef) rfl (by kernel_rfl) (by kernel_rfl) (by kernel_rfl) (fun c a w h => hKp c a _ _ w h) (Or.inr ⟨by kernel_rfl, rfl⟩) (by assumption) ?_
        simp only [Act.put, List.getElem_toArray, List.getElem_cons_zero, List.getElem_cons_succ, List.setIfInBounds_toArray, List.set_cons_zero, List.set_cons_succ]
        refine wpAnyH_take (i := 11) (v := undef) rfl (by kernel_rfl) (by kernel_rfl) (by kernel_rfl) (fun c a w h => hKp c a _ _ w h) (Or.inr ⟨by kernel_rfl, rfl⟩) (by assumption) ?_
        simp only [Act.put, List.getElem_toArray, List.getElem_cons_zero, List.getElem_cons_succ, List.setIfInBounds_toArray, List.set_cons_zero, List.set_cons_succ]
        refine wpAnyH_take (i := 12) (v := undef) rfl (by kernel_rfl) (by kernel_rfl) (by kernel_rfl) (fun c a w h => hKp c a _ _ w h) (Or.inr ⟨by kernel_rfl, rfl⟩) (by assumption) ?_
        simp only [Act.put, List.getElem_toArray, List.getElem_cons_zero, List.getElem_cons_succ, List.setIfInBounds_toArray, List.set_cons_zero, List.set_cons_succ]
        refine wpAnyH_take (i := 13) (v := undef) rfl (by kernel_rfl) (by kernel_rfl) (by kernel_rfl) (fun c a w h => hKp c a _ _ w h) (Or.inr ⟨by kernel_rfl, rfl⟩) (by assumption) ?_
        simp only [Act.put, List.getElem_toArray, List.getElem_cons_zero, List.getElem_cons_succ, List.setIfInBounds_toArray, List.set_cons_zero, List.set_cons_succ]
        refine wpAnyH_take (i := 14) (v := .bool true) rfl (by kernel_rfl) (by kernel_rfl) (by kernel_rfl) (fun c a w h => hKp c a _ _ w h) (Or.inl ⟨by kernel_rfl, fun w hSw => by dsimp only at hSw; obtain ⟨-, hs1, hs2⟩ := hSw; go_simp⟩) (by assumption) ?_
        simp only [Act.put, List.getElem_toArray, List.getElem_cons_zero, List.getElem_cons_succ, List.setIfInBounds_toArray, List.set_cons_zero, List.set_cons_succ]
        refine wpAnyH_done (by kernel_rfl) ?_ _
        exact hfin _ hHeld
        rintro w5 ⟨hb5, -, -⟩
        go_wp2
        go_ret
        exact ⟨ret_bool HM.out.symm, hB0.out _ (by assumption)⟩
      | true =>
        cases hs : smallS x.a with
        | false =>
          have HM := Lib.hid (must_false (k := 0) (by rw [HL1.out, hp, hs]; rfl))
          rw [hp] at HF1
          rw [hs] at HS1
          clear hp hs
          go_wp2
          have hd := Below.drew hR
          have d1 := (hc5.out _ hd).1
          have d2 := (hc6.out _ hd).2.1
          go_region_held3 (fun w' => Below W1.heap.size W1 w' ∧ w'.cell? ⟨B, 0, none⟩ = some (.func (.func F1) #[] C1) ∧ w'.cell? ⟨w.heap.size, 1, none⟩ = some (.string x.a)) (first | exact ⟨by assumption, by assumption, by assumption⟩)
            (first | (go_at_call 200; (with_reducible refine (HS1.out _ (by assumption)).mono ?_); rintro e w5 ⟨rfl, hb5, c5, d5⟩) | ((with_reducible refine (HF1.out _ (by assumption)).mono ?_); rintro e w5 ⟨rfl, hb5, c5, d5⟩))
          go_wp2
          go_ret
          exact ⟨ret_bool HM.out.symm, hB0.out _ (by assumption)⟩
        | true =>
          have HM := Lib.hid (must_step (k := 0) (by rw [HL1.out, hp, hs]; rfl) HA.out)
          rw [hp] at HF1
          rw [hs] at HS1
          clear hp hs
          go_wp2
          have hd := Below.drew hR
          have d1 := (hc5.out _ hd).1
          have d2 := (hc6.out _ hd).2.1
          go_region_held3 (fun w' => Below W1.heap.size W1 w' ∧ w'.cell? ⟨B, 0, none⟩ = some (.func (.func F1) #[] C1) ∧ w'.cell? ⟨w.heap.size, 1, none⟩ = some (.string x.a)) (first | exact ⟨by assumption, by assumption, by assumption⟩)
            (first | (go_at_call 200; (with_reducible refine (HS1.out _ (by assumption)).mono ?_); rintro e w5 ⟨rfl, hb5, c5, d5⟩) | ((with_reducible refine (HF1.out _ (by assumption)).mono ?_); rintro e w5 ⟨rfl, hb5, c5, d5⟩))
          go_wp2
          go_roundw
          case rel => exact ⟨1, by omega, rfl, HM.out, by assumption⟩
          case measure => simp [intOf]
    · have hix := index5_1 w.heap.size wr
      cases hp : f.f2 x.b with
      | false =>
        have HM := Lib.hid (must_false (k := 1) (by rw [HL2.out, hp]; rfl))
        rw [hp] at HF2
        clear hp
        go_wp2
        have hd := Below.drew hR
        have d1 := (hc5.out _ hd).2.1
        have d2 := (hc6.out _ hd).2.2.1
        refine wp_region_held_drew (S := fun w' => Below W1.heap.size W1 w' ∧ w'.cell? ⟨B, 1, none⟩ = some (.func (.func F2) #[] C2) ∧ w'.cell? ⟨w.heap.size, 2, none⟩ = some (.string x.b)) (by kernel_rfl) ⟨by assumption, by assumption, by assumption⟩ (fun hHeld => ?_)
        apply held_shell
        exact fun _ _ d _ _ h => by cases d <;> exact h
        rotate_left 1
        intro KK hKp hfin
        refine wpAnyH_take (i := 0) (v := .int .i64 1) rfl (by kernel_rfl) (by kernel_rfl) (by kernel_rfl) (fun c a w h => hKp c a _ _ w h) (Or.inl ⟨by kernel_rfl, fun w hSw => by dsimp only at hSw; obtain ⟨-, hs1, hs2⟩ := hSw; go_simp⟩) (by assumption) ?_
        simp only [Act.put, List.getElem_toArray, List.getElem_cons_zero, List.setIfInBounds_toArray, List.set_cons_zero, List.set_cons_succ]
        refine wpAnyH_take (i := 1) (v := .pointer (some ⟨B, 1, none⟩)) rfl (by kernel_rfl) (by kernel_rfl) (by kernel_rfl) (fun c a w h => hKp c a _ _ w h) (Or.inl ⟨by kernel_rfl, fun w hSw => by dsimp only at hSw; obtain ⟨-, hs1, hs2⟩ := hSw; go_simp⟩) (by assumption) ?_
        simp only [Act.put, List.getElem_toArray, List.getElem_cons_zero, List.getElem_cons_succ, List.setIfInBounds_toArray, List.set_cons_zero, List.set_cons_succ]
        refine wpAnyH_take (i := 2) (v := .func (.func F2) #[] C2) rfl (by kernel_rfl) (by kernel_rfl) (by kernel_rfl) (fun c a w h => hKp c a _ _ w h) (Or.inl ⟨by kernel_rfl, fun w hSw => by dsimp only at hSw; obtain ⟨-, hs1, hs2⟩ := hSw; go_simp⟩) (by assumption) ?_
        simp only [Act.put, List.getElem_toArray, List.getElem_cons_zero, List.getElem_cons_succ, List.setIfInBounds_toArray, List.set_cons_zero, List.set_cons_succ]
        refine wpAnyH_take (i := 3) (v := .pointer (some ⟨w.heap.size, 2, none⟩)) rfl (by kernel_rfl) (by kernel_rfl) (by kernel_rfl) (fun c a w h => hKp c a _ _ w h) (Or.inl ⟨by kernel_rfl, fun w hSw => by dsimp only at hSw; obtain ⟨-, hs1, hs2⟩ := hSw; go_simp⟩) (by assumption) ?_
        simp only [Act.put, List.getElem_toArray, List.getElem_cons_zero, List.getElem_cons_succ, List.setIfInBounds_toArray, List.set_cons_zero, List.set_cons_succ]
        refine wpAnyH_take (i := 4) (v := .pointer (some ⟨w.heap.size, 2, none⟩)) rfl (by kernel_rfl) (by kernel_rfl) (by kernel_rfl) (fun c a w h => hKp c a _ _ w h) (Or.inl ⟨by kernel_rfl, fun w hSw => by dsimp only at hSw; obtain ⟨-, hs1, hs2⟩ := hSw; go_simp⟩) (by assumption) ?_
        simp only [Act.put, List.getElem_toArray, List.getElem_cons_zero, List.getElem_cons_succ, List.setIfInBounds_toArray, List.set_cons_zero, List.set_cons_succ]
        refine wpAnyH_take (i := 5) (v := .string x.b) rfl (by kernel_rfl) (by kernel_rfl) (by kernel_rfl) (fun c a w h => hKp c a _ _ w h) (Or.inl ⟨by kernel_rfl, fun w hSw => by dsimp only at hSw; obtain ⟨-, hs1, hs2⟩ := hSw; go_simp⟩) (by assumption) ?_
        simp only [Act.put, List.getElem_toArray, List.getElem_cons_zero, List.getElem_cons_succ, List.setIfInBounds_toArray, List.set_cons_zero, List.set_cons_succ]
        refine wpAnyH_ready (rs := [6]) (by kernel_rfl) (by simp) ?_
        refine AllReadyH.cons rfl (fun Kx hKx => ?_) AllReadyH.nil
        go_simp
        refine (HF2.out _ hHeld.1).mono ?_
        rintro e w5 ⟨rfl, hb5, c5, d5⟩
        refine hKx.out _ _ ⟨hb5, c5, d5⟩ (fun hHeld => ?_)
        clear hKx Kx
        refine wpAnyH_take (i := 7) (v := .bool true) rfl (by kernel_rfl) (by kernel_rfl) (by kernel_rfl) (fun c a w h => hKp c a _ _ w h) (Or.inl ⟨by kernel_rfl, fun w hSw => by dsimp only at hSw; obtain ⟨-, hs1, hs2⟩ := hSw; go_simp⟩) (by assumption) ?_
        simp only [Act.put, List.getElem_toArray, List.getElem_cons_zero, List.getElem_cons_succ, List.setIfInBounds_toArray, List.set_cons_zero, List.set_cons_succ]
        refine wpAnyH_take (i := 8) (v := .bool true) rfl (by kernel_rfl) (by kernel_rfl) (by kernel_rfl) (fun c a w h => hKp c a _ _ w h) (Or.inl ⟨by kernel_rfl, fun w hSw => by dsimp only at hSw; obtain ⟨-, hs1, hs2⟩ := hSw; go_simp⟩) (by assumption) ?_
        simp only [Act.put, List.getElem_toArray, List.getElem_cons_zero, List.getElem_cons_succ, List.setIfInBounds_toArray, List.set_cons_zero, List.set_cons_succ]
        refine wpAnyH_take (i := 9) (v := undef) rfl (by kernel_rfl) (by kernel_rfl) (by kernel_rfl) (fun c a w h => hKp c a _ _ w h) (Or.inr ⟨by kernel_rfl, rfl⟩) (by assumption) ?_
        simp only [Act.put, List.getElem_toArray, List.getElem_cons_zero, List.getElem_cons_succ, List.setIfInBounds_toArray, List.set_cons_zero, List.set_cons_succ]
        refine wpAnyH_take (i := 10) (v := undef) rfl (by kernel_rfl) (by kernel_rfl) (by kernel_rfl) (fun c a w h => hKp c a _ _ w h) (Or.inr ⟨by kernel_rfl, rfl⟩) (by assumption) ?_
        simp only [Act.put, List.getElem_toArray, List.getElem_cons_zero, List.getElem_cons_succ, List.setIfInBounds_toArray, List.set_cons_zero, List.set_cons_succ]
        refine wpAnyH_take (i := 11) (v := undef) rfl (by kernel_rfl) (by kernel_rfl) (by kernel_rfl) (fun c a w h => hKp c a _ _ w h) (Or.inr ⟨by kernel_rfl, rfl⟩) (by assumption) ?_
        simp only [Act.put, List.getElem_toArray, List.getElem_cons_zero, List.getElem_cons_succ, List.setIfInBounds_toArray, List.set_cons_zero, List.set_cons_succ]
        refine wpAnyH_take (i := 12) (v := undef) rfl (by kernel_rfl) (by kernel_rfl) (by kernel_rfl) (fun c a w h => hKp c a _ _ w h) (Or.inr ⟨by kernel_rfl, rfl⟩) (by assumption) ?_
        simp only [Act.put, List.getElem_toArray, List.getElem_cons_zero, List.getElem_cons_succ, List.setIfInBounds_toArray, List.set_cons_zero, List.set_cons_succ]
        refine wpAnyH_take (i := 13) (v := undef) rfl (by kernel_rfl) (by kernel_rfl) (by kernel_rfl) (fun c a w h => hKp c a _ _ w h) (Or.inr ⟨by kernel_rfl, rfl⟩) (by assumption) ?_
        simp only [Act.put, List.getElem_toArray, List.getElem_cons_zero, List.getElem_cons_succ, List.setIfInBounds_toArray, List.set_cons_zero, List.set_cons_succ]
        refine wpAnyH_take (i := 14) (v := .bool true) rfl (by kernel_rfl) (by kernel_rfl) (by kernel_rfl) (fun c a w h => hKp c a _ _ w h) (Or.inl ⟨by kernel_rfl, fun w hSw => by dsimp only at hSw; obtain ⟨-, hs1, hs2⟩ := hSw; go_simp⟩) (by assumption) ?_
        simp only [Act.put, List.getElem_toArray, List.getElem_cons_zero, List.getElem_cons_succ, List.setIfInBounds_toArray, List.set_cons_zero, List.set_cons_succ]
        refine wpAnyH_done (by kernel_rfl) ?_ _
        exact hfin _ hHeld
        rintro w5 ⟨hb5, -, -⟩
        go_wp2
        go_ret
        exact ⟨ret_bool HM.out.symm, hB0.out _ (by assumption)⟩
      | true =>
        cases hs : smallS x.b with
        | false =>
          have HM := Lib.hid (must_false (k := 1) (by rw [HL2.out, hp, hs]; rfl))
          rw [hp] at HF2
          rw [hs] at HS2
          clear hp hs
          go_wp2
          have hd := Below.drew hR
          have d1 := (hc5.out _ hd).2.1
          have d2 := (hc6.out _ hd).2.2.1
          go_region_held3 (fun w' => Below W1.heap.size W1 w' ∧ w'.cell? ⟨B, 1, none⟩ = some (.func (.func F2) #[] C2) ∧ w'.cell? ⟨w.heap.size, 2, none⟩ = some (.string x.b)) (first | exact ⟨by assumption, by assumption, by assumption⟩)
            (first | (go_at_call 200; (with_reducible refine (HS2.out _ (by assumption)).mono ?_); rintro e w5 ⟨rfl, hb5, c5, d5⟩) | ((with_reducible refine (HF2.out _ (by assumption)).mono ?_); rintro e w5 ⟨rfl, hb5, c5, d5⟩))
          go_wp2
          go_ret
          exact ⟨ret_bool HM.out.symm, hB0.out _ (by assumption)⟩
        | true =>
          have HM := Lib.hid (must_step (k := 1) (by rw [HL2.out, hp, hs]; rfl) HA.out)
          rw [hp] at HF2
          rw [hs] at HS2
          clear hp hs
          go_wp2
          have hd := Below.drew hR
          have d1 := (hc5.out _ hd).2.1
          have d2 := (hc6.out _ hd).2.2.1
          go_region_held3 (fun w' => Below W1.heap.size W1 w' ∧ w'.cell? ⟨B, 1, none⟩ = some (.func (.func F2) #[] C2) ∧ w'.cell? ⟨w.heap.size, 2, none⟩ = some (.string x.b)) (first | exact ⟨by assumption, by assumption, by assumption⟩)
            (first | (go_at_call 200; (with_reducible refine (HS2.out _ (by assumption)).mono ?_); rintro e w5 ⟨rfl, hb5, c5, d5⟩) | ((with_reducible refine (HF2.out _ (by assumption)).mono ?_); rintro e w5 ⟨rfl, hb5, c5, d5⟩))
          go_wp2
          go_roundw
          case rel => exact ⟨2, by omega, rfl, HM.out, by assumption⟩
          case measure => simp [intOf]
    · have hix := index5_2 w.heap.size wr
      cases hp : f.f3 x.l with
      | false =>
        have HM := Lib.hid (must_false (k := 2) (by rw [HL3.out, hp]; rfl))
        rw [hp] at HF3
        clear hp
        go_wp2
        have hd := Below.drew hR
        have d1 := (hc5.out _ hd).2.2.1
        have d2 := (hc6.out _ hd).2.2.2.1
        refine wp_region_held_drew (S := fun w' => Below W1.heap.size W1 w' ∧ w'.cell? ⟨B, 2, none⟩ = some (.func (.func F3) #[] C3) ∧ w'.cell? ⟨w.heap.size, 3, none⟩ = some (.string x.l)) (by kernel_rfl) ⟨by assumption, by assumption, by assumption⟩ (fun hHeld => ?_)
        apply held_shell
        exact fun _ _ d _ _ h => by cases d <;> exact h
        rotate_left 1
        intro KK hKp hfin
        refine wpAnyH_take (i := 0) (v := .int .i64 2) rfl (by kernel_rfl) (by kernel_rfl) (by kernel_rfl) (fun c a w h => hKp c a _ _ w h) (Or.inl ⟨by kernel_rfl, fun w hSw => by dsimp only at hSw; obtain ⟨-, hs1, hs2⟩ := hSw; go_simp⟩) (by assumption) ?_
        simp only [Act.put, List.getElem_toArray, List.getElem_cons_zero, List.setIfInBounds_toArray, List.set_cons_zero, List.set_cons_succ]
        refine wpAnyH_take (i := 1) (v := .pointer (some ⟨B, 2, none⟩)) rfl (by kernel_rfl) (by kernel_rfl) (by kernel_rfl) (fun c a w h => hKp c a _ _ w h) (Or.inl ⟨by kernel_rfl, fun w hSw => by dsimp only at hSw; obtain ⟨-, hs1, hs2⟩ := hSw; go_simp⟩) (by assumption) ?_
        simp only [Act.put, List.getElem_toArray, List.getElem_cons_zero, List.getElem_cons_succ, List.setIfInBounds_toArray, List.set_cons_zero, List.set_cons_succ]
        refine wpAnyH_take (i := 2) (v := .func (.func F3) #[] C3) rfl (by kernel_rfl) (by kernel_rfl) (by kernel_rfl) (fun c a w h => hKp c a _ _ w h) (Or.inl ⟨by kernel_rfl, fun w hSw => by dsimp only at hSw; obtain ⟨-, hs1, hs2⟩ := hSw; go_simp⟩) (by assumption) ?_
        simp only [Act.put, List.getElem_toArray, List.getElem_cons_zero, List.getElem_cons_succ, List.setIfInBounds_toArray, List.set_cons_zero, List.set_cons_succ]
        refine wpAnyH_take (i := 3) (v := .pointer (some ⟨w.heap.size, 3, none⟩)) rfl (by kernel_rfl) (by kernel_rfl) (by kernel_rfl) (fun c a w h => hKp c a _ _ w h) (Or.inl ⟨by kernel_rfl, fun w hSw => by dsimp only at hSw; obtain ⟨-, hs1, hs2⟩ := hSw; go_simp⟩) (by assumption) ?_
        simp only [Act.put, List.getElem_toArray, List.getElem_cons_zero, List.getElem_cons_succ, List.setIfInBounds_toArray, List.set_cons_zero, List.set_cons_succ]
        refine wpAnyH_take (i := 4) (v := .pointer (some ⟨w.heap.size, 3, none⟩)) rfl (by kernel_rfl) (by kernel_rfl) (by kernel_rfl) (fun c a w h => hKp c a _ _ w h) (Or.inl ⟨by kernel_rfl, fun w hSw => by dsimp only at hSw; obtain ⟨-, hs1, hs2⟩ := hSw; go_simp⟩) (by assumption) ?_
        simp only [Act.put, List.getElem_toArray, List.getElem_cons_zero, List.getElem_cons_succ, List.setIfInBounds_toArray, List.set_cons_zero, List.set_cons_succ]
        refine wpAnyH_take (i := 5) (v := .string x.l) rfl (by kernel_rfl) (by kernel_rfl) (by kernel_rfl) (fun c a w h => hKp c a _ _ w h) (Or.inl ⟨by kernel_rfl, fun w hSw => by dsimp only at hSw; obtain ⟨-, hs1, hs2⟩ := hSw; go_simp⟩) (by assumption) ?_
        simp only [Act.put, List.getElem_toArray, List.getElem_cons_zero, List.getElem_cons_succ, List.setIfInBounds_toArray, List.set_cons_zero, List.set_cons_succ]
        refine wpAnyH_ready (rs := [6]) (by kernel_rfl) (by simp) ?_
        refine AllReadyH.cons rfl (fun Kx hKx => ?_) AllReadyH.nil
        go_simp
        refine (HF3.out _ hHeld.1).mono ?_
        rintro e w5 ⟨rfl, hb5, c5, d5⟩
        refine hKx.out _ _ ⟨hb5, c5, d5⟩ (fun hHeld => ?_)
        clear hKx Kx
        refine wpAnyH_take (i := 7) (v := .bool true) rfl (by kernel_rfl) (by kernel_rfl) (by kernel_rfl) (fun c a w h => hKp c a _ _ w h) (Or.inl ⟨by kernel_rfl, fun w hSw => by dsimp only at hSw; obtain ⟨-, hs1, hs2⟩ := hSw; go_simp⟩) (by assumption) ?_
        simp only [Act.put, List.getElem_toArray, List.getElem_cons_zero, List.getElem_cons_succ, List.setIfInBounds_toArray, List.set_cons_zero, List.set_cons_succ]
        refine wpAnyH_take (i := 8) (v := .bool true) rfl (by kernel_rfl) (by kernel_rfl) (by kernel_rfl) (fun c a w h => hKp c a _ _ w h) (Or.inl ⟨by kernel_rfl, fun w hSw => by dsimp only at hSw; obtain ⟨-, hs1, hs2⟩ := hSw; go_simp⟩) (by assumption) ?_
        simp only [Act.put, List.getElem_toArray, List.getElem_cons_zero, List.getElem_cons_succ, List.setIfInBounds_toArray, List.set_cons_zero, List.set_cons_succ]
        refine wpAnyH_take (i := 9) (v := undef) rfl (by kernel_rfl) (by kernel_rfl) (by kernel_rfl) (fun c a w h => hKp c a _ _ w h) (Or.inr ⟨by kernel_rfl, rfl⟩) (by assumption) ?_
        simp only [Act.put, List.getElem_toArray, List.getElem_cons_zero, List.getElem_cons_succ, List.setIfInBounds_toArray, List.set_cons_zero, List.set_cons_succ]
        refine wpAnyH_take (i := 10) (v := undef) rfl (by kernel_rfl) (by kernel_rfl) (by kernel_rfl) (fun c a w h => hKp c a _ _ w h) (Or.inr ⟨by kernel_rfl, rfl⟩) (by assumption) ?_
        simp only [Act.put, List.getElem_toArray, List.getElem_cons_zero, List.getElem_cons_succ, List.setIfInBounds_toArray, List.set_cons_zero, List.set_cons_succ]
        refine wpAnyH_take (i := 11) (v := undef) rfl (by kernel_rfl) (by kernel_rfl) (by kernel_rfl) (fun c a w h => hKp c a _ _ w h) (Or.inr ⟨by kernel_rfl, rfl⟩) (by assumption) ?_
        simp only [Act.put, List.getElem_toArray, List.getElem_cons_zero, List.getElem_cons_succ, List.setIfInBounds_toArray, List.set_cons_zero, List.set_cons_succ]
        refine wpAnyH_take (i := 12) (v := undef) rfl (by kernel_rfl) (by kernel_rfl) (by kernel_rfl) (fun c a w h => hKp c a _ _ w h) (Or.inr ⟨by kernel_rfl, rfl⟩) (by assumption) ?_
        simp only [Act.put, List.getElem_toArray, List.getElem_cons_zero, List.getElem_cons_succ, List.setIfInBounds_toArray, List.set_cons_zero, List.set_cons_succ]
        refine wpAnyH_take (i := 13) (v := undef) rfl (by kernel_rfl) (by kernel_rfl) (by kernel_rfl) (fun c a w h => hKp c a _ _ w h) (Or.inr ⟨by kernel_rfl, rfl⟩) (by assumption) ?_
        simp only [Act.put, List.getElem_toArray, List.getElem_cons_zero, List.getElem_cons_succ, List.setIfInBounds_toArray, List.set_cons_zero, List.set_cons_succ]
        refine wpAnyH_take (i := 14) (v := .bool true) rfl (by kernel_rfl) (by kernel_rfl) (by kernel_rfl) (fun c a w h => hKp c a _ _ w h) (Or.inl ⟨by kernel_rfl, fun w hSw => by dsimp only at hSw; obtain ⟨-, hs1, hs2⟩ := hSw; go_simp⟩) (by assumption) ?_
        simp only [Act.put, List.getElem_toArray, List.getElem_cons_zero, List.getElem_cons_succ, List.setIfInBounds_toArray, List.set_cons_zero, List.set_cons_succ]
        refine wpAnyH_done (by kernel_rfl) ?_ _
        exact hfin _ hHeld
        rintro w5 ⟨hb5, -, -⟩
        go_wp2
        go_ret
        exact ⟨ret_bool HM.out.symm, hB0.out _ (by assumption)⟩
      | true =>
        cases hs : smallS x.l with
        | false =>
          have HM := Lib.hid (must_false (k := 2) (by rw [HL3.out, hp, hs]; rfl))
          rw [hp] at HF3
          rw [hs] at HS3
          clear hp hs
          go_wp2
          have hd := Below.drew hR
          have d1 := (hc5.out _ hd).2.2.1
          have d2 := (hc6.out _ hd).2.2.2.1
          go_region_held3 (fun w' => Below W1.heap.size W1 w' ∧ w'.cell? ⟨B, 2, none⟩ = some (.func (.func F3) #[] C3) ∧ w'.cell? ⟨w.heap.size, 3, none⟩ = some (.string x.l)) (first | exact ⟨by assumption, by assumption, by assumption⟩)
            (first | (go_at_call 200; (with_reducible refine (HS3.out _ (by assumption)).mono ?_); rintro e w5 ⟨rfl, hb5, c5, d5⟩) | ((with_reducible refine (HF3.out _ (by assumption)).mono ?_); rintro e w5 ⟨rfl, hb5, c5, d5⟩))
          go_wp2
          go_ret
          exact ⟨ret_bool HM.out.symm, hB0.out _ (by assumption)⟩
        | true =>
          have HM := Lib.hid (must_step (k := 2) (by rw [HL3.out, hp, hs]; rfl) HA.out)
          rw [hp] at HF3
          rw [hs] at HS3
          clear hp hs
          go_wp2
          have hd := Below.drew hR
          have d1 := (hc5.out _ hd).2.2.1
          have d2 := (hc6.out _ hd).2.2.2.1
          go_region_held3 (fun w' => Below W1.heap.size W1 w' ∧ w'.cell? ⟨B, 2, none⟩ = some (.func (.func F3) #[] C3) ∧ w'.cell? ⟨w.heap.size, 3, none⟩ = some (.string x.l)) (first | exact ⟨by assumption, by assumption, by assumption⟩)
            (first | (go_at_call 200; (with_reducible refine (HS3.out _ (by assumption)).mono ?_); rintro e w5 ⟨rfl, hb5, c5, d5⟩) | ((with_reducible refine (HF3.out _ (by assumption)).mono ?_); rintro e w5 ⟨rfl, hb5, c5, d5⟩))
          go_wp2
          go_roundw
          case rel => exact ⟨3, by omega, rfl, HM.out, by assumption⟩
          case measure => simp [intOf]
    · have hix := index5_3 w.heap.size wr
      cases hp : f.f4 x.s with
      | false =>
        have HM := Lib.hid (must_false (k := 3) (by rw [HL4.out, hp]; rfl))
        rw [hp] at HF4
        clear hp
        go_wp2
        have hd := Below.drew hR
        have d1 := (hc5.out _ hd).2.2.2.1
        have d2 := (hc6.out _ hd).2.2.2.2.1
        refine wp_region_held_drew (S := fun w' => Below W1.heap.size W1 w' ∧ w'.cell? ⟨B, 3, none⟩ = some (.func (.func F4) #[] C4) ∧ w'.cell? ⟨w.heap.size, 4, none⟩ = some (.string x.s)) (by kernel_rfl) ⟨by assumption, by assumption, by assumption⟩ (fun hHeld => ?_)
        apply held_shell
        exact fun _ _ d _ _ h => by cases d <;> exact h
        rotate_left 1
        intro KK hKp hfin
        refine wpAnyH_take (i := 0) (v := .int .i64 3) rfl (by kernel_rfl) (by kernel_rfl) (by kernel_rfl) (fun c a w h => hKp c a _ _ w h) (Or.inl ⟨by kernel_rfl, fun w hSw => by dsimp only at hSw; obtain ⟨-, hs1, hs2⟩ := hSw; go_simp⟩) (by assumption) ?_
        simp only [Act.put, List.getElem_toArray, List.getElem_cons_zero, List.setIfInBounds_toArray, List.set_cons_zero, List.set_cons_succ]
        refine wpAnyH_take (i := 1) (v := .pointer (some ⟨B, 3, none⟩)) rfl (by kernel_rfl) (by kernel_rfl) (by kernel_rfl) (fun c a w h => hKp c a _ _ w h) (Or.inl ⟨by kernel_rfl, fun w hSw => by dsimp only at hSw; obtain ⟨-, hs1, hs2⟩ := hSw; go_simp⟩) (by assumption) ?_
        simp only [Act.put, List.getElem_toArray, List.getElem_cons_zero, List.getElem_cons_succ, List.setIfInBounds_toArray, List.set_cons_zero, List.set_cons_succ]
        refine wpAnyH_take (i := 2) (v := .func (.func F4) #[] C4) rfl (by kernel_rfl) (by kernel_rfl) (by kernel_rfl) (fun c a w h => hKp c a _ _ w h) (Or.inl ⟨by kernel_rfl, fun w hSw => by dsimp only at hSw; obtain ⟨-, hs1, hs2⟩ := hSw; go_simp⟩) (by assumption) ?_
        simp only [Act.put, List.getElem_toArray, List.getElem_cons_zero, List.getElem_cons_succ, List.setIfInBounds_toArray, List.set_cons_zero, List.set_cons_succ]
        refine wpAnyH_take (i := 3) (v := .pointer (some ⟨w.heap.size, 4, none⟩)) rfl (by kernel_rfl) (by kernel_rfl) (by kernel_rfl) (fun c a w h => hKp c a _ _ w h) (Or.inl ⟨by kernel_rfl, fun w hSw => by dsimp only at hSw; obtain ⟨-, hs1, hs2⟩ := hSw; go_simp⟩) (by assumption) ?_
        simp only [Act.put, List.getElem_toArray, List.getElem_cons_zero, List.getElem_cons_succ, List.setIfInBounds_toArray, List.set_cons_zero, List.set_cons_succ]
        refine wpAnyH_take (i := 4) (v := .pointer (some ⟨w.heap.size, 4, none⟩)) rfl (by kernel_rfl) (by kernel_rfl) (by kernel_rfl) (fun c a w h => hKp c a _ _ w h) (Or.inl ⟨by kernel_rfl, fun w hSw => by dsimp only at hSw; obtain ⟨-, hs1, hs2⟩ := hSw; go_simp⟩) (by assumption) ?_
        simp only [Act.put, List.getElem_toArray, List.getElem_cons_zero, List.getElem_cons_succ, List.setIfInBounds_toArray, List.set_cons_zero, List.set_cons_succ]
        refine wpAnyH_take (i := 5) (v := .string x.s) rfl (by kernel_rfl) (by kernel_rfl) (by kernel_rfl) (fun c a w h => hKp c a _ _ w h) (Or.inl ⟨by kernel_rfl, fun w hSw => by dsimp only at hSw; obtain ⟨-, hs1, hs2⟩ := hSw; go_simp⟩) (by assumption) ?_
        simp only [Act.put, List.getElem_toArray, List.getElem_cons_zero, List.getElem_cons_succ, List.setIfInBounds_toArray, List.set_cons_zero, List.set_cons_succ]
        refine wpAnyH_ready (rs := [6]) (by kernel_rfl) (by simp) ?_
        refine AllReadyH.cons rfl (fun Kx hKx => ?_) AllReadyH.nil
        go_simp
        refine (HF4.out _ hHeld.1).mono ?_
        rintro e w5 ⟨rfl, hb5, c5, d5⟩
        refine hKx.out _ _ ⟨hb5, c5, d5⟩ (fun hHeld => ?_)
        clear hKx Kx
        refine wpAnyH_take (i := 7) (v := .bool true) rfl (by kernel_rfl) (by kernel_rfl) (by kernel_rfl) (fun c a w h => hKp c a _ _ w h) (Or.inl ⟨by kernel_rfl, fun w hSw => by dsimp only at hSw; obtain ⟨-, hs1, hs2⟩ := hSw; go_simp⟩) (by assumption) ?_
        simp only [Act.put, List.getElem_toArray, List.getElem_cons_zero, List.getElem_cons_succ, List.setIfInBounds_toArray, List.set_cons_zero, List.set_cons_succ]
        refine wpAnyH_take (i := 8) (v := .bool true) rfl (by kernel_rfl) (by kernel_rfl) (by kernel_rfl) (fun c a w h => hKp c a _ _ w h) (Or.inl ⟨by kernel_rfl, fun w hSw => by dsimp only at hSw; obtain ⟨-, hs1, hs2⟩ := hSw; go_simp⟩) (by assumption) ?_
        simp only [Act.put, List.getElem_toArray, List.getElem_cons_zero, List.getElem_cons_succ, List.setIfInBounds_toArray, List.set_cons_zero, List.set_cons_succ]
        refine wpAnyH_take (i := 9) (v := undef) rfl (by kernel_rfl) (by kernel_rfl) (by kernel_rfl) (fun c a w h => hKp c a _ _ w h) (Or.inr ⟨by kernel_rfl, rfl⟩) (by assumption) ?_
        simp only [Act.put, List.getElem_toArray, List.getElem_cons_zero, List.getElem_cons_succ, List.setIfInBounds_toArray, List.set_cons_zero, List.set_cons_succ]
        refine wpAnyH_take (i := 10) (v := undef) rfl (by kernel_rfl) (by kernel_rfl) (by kernel_rfl) (fun c a w h => hKp c a _ _ w h) (Or.inr ⟨by kernel_rfl, rfl⟩) (by assumption) ?_
        simp only [Act.put, List.getElem_toArray, List.getElem_cons_zero, List.getElem_cons_succ, List.setIfInBounds_toArray, List.set_cons_zero, List.set_cons_succ]
        refine wpAnyH_take (i := 11) (v := undef) rfl (by kernel_rfl) (by kernel_rfl) (by kernel_rfl) (fun c a w h => hKp c a _ _ w h) (Or.inr ⟨by kernel_rfl, rfl⟩) (by assumption) ?_
        simp only [Act.put, List.getElem_toArray, List.getElem_cons_zero, List.getElem_cons_succ, List.setIfInBounds_toArray, List.set_cons_zero, List.set_cons_succ]
        refine wpAnyH_take (i := 12) (v := undef) rfl (by kernel_rfl) (by kernel_rfl) (by kernel_rfl) (fun c a w h => hKp c a _ _ w h) (Or.inr ⟨by kernel_rfl, rfl⟩) (by assumption) ?_
        simp only [Act.put, List.getElem_toArray, List.getElem_cons_zero, List.getElem_cons_succ, List.setIfInBounds_toArray, List.set_cons_zero, List.set_cons_succ]
        refine wpAnyH_take (i := 13) (v := undef) rfl (by kernel_rfl) (by kernel_rfl) (by kernel_rfl) (fun c a w h => hKp c a _ _ w h) (Or.inr ⟨by kernel_rfl, rfl⟩) (by assumption) ?_
        simp only [Act.put, List.getElem_toArray, List.getElem_cons_zero, List.getElem_cons_succ, List.setIfInBounds_toArray, List.set_cons_zero, List.set_cons_succ]
        refine wpAnyH_take (i := 14) (v := .bool true) rfl (by kernel_rfl) (by kernel_rfl) (by kernel_rfl) (fun c a w h => hKp c a _ _ w h) (Or.inl ⟨by kernel_rfl, fun w hSw => by dsimp only at hSw; obtain ⟨-, hs1, hs2⟩ := hSw; go_simp⟩) (by assumption) ?_
        simp only [Act.put, List.getElem_toArray, List.getElem_cons_zero, List.getElem_cons_succ, List.setIfInBounds_toArray, List.set_cons_zero, List.set_cons_succ]
        refine wpAnyH_done (by kernel_rfl) ?_ _
        exact hfin _ hHeld
        rintro w5 ⟨hb5, -, -⟩
        go_wp2
        go_ret
        exact ⟨ret_bool HM.out.symm, hB0.out _ (by assumption)⟩
      | true =>
        cases hs : smallS x.s with
        | false =>
          have HM := Lib.hid (must_false (k := 3) (by rw [HL4.out, hp, hs]; rfl))
          rw [hp] at HF4
          rw [hs] at HS4
          clear hp hs
          go_wp2
          have hd := Below.drew hR
          have d1 := (hc5.out _ hd).2.2.2.1
          have d2 := (hc6.out _ hd).2.2.2.2.1
          go_region_held3 (fun w' => Below W1.heap.size W1 w' ∧ w'.cell? ⟨B, 3, none⟩ = some (.func (.func F4) #[] C4) ∧ w'.cell? ⟨w.heap.size, 4, none⟩ = some (.string x.s)) (first | exact ⟨by assumption, by assumption, by assumption⟩)
            (first | (go_at_call 200; (with_reducible refine (HS4.out _ (by assumption)).mono ?_); rintro e w5 ⟨rfl, hb5, c5, d5⟩) | ((with_reducible refine (HF4.out _ (by assumption)).mono ?_); rintro e w5 ⟨rfl, hb5, c5, d5⟩))
          go_wp2
          go_ret
          exact ⟨ret_bool HM.out.symm, hB0.out _ (by assumption)⟩
        | true =>
          have HM := Lib.hid (must_step (k := 3) (by rw [HL4.out, hp, hs]; rfl) HA.out)
          rw [hp] at HF4
          rw [hs] at HS4
          clear hp hs
          go_wp2
          have hd := Below.drew hR
          have d1 := (hc5.out _ hd).2.2.2.1
          have d2 := (hc6.out _ hd).2.2.2.2.1
          go_region_held3 (fun w' => Below W1.heap.size W1 w' ∧ w'.cell? ⟨B, 3, none⟩ = some (.func (.func F4) #[] C4) ∧ w'.cell? ⟨w.heap.size, 4, none⟩ = some (.string x.s)) (first | exact ⟨by assumption, by assumption, by assumption⟩)
            (first | (go_at_call 200; (with_reducible refine (HS4.out _ (by assumption)).mono ?_); rintro e w5 ⟨rfl, hb5, c5, d5⟩) | ((with_reducible refine (HF4.out _ (by assumption)).mono ?_); rintro e w5 ⟨rfl, hb5, c5, d5⟩))
          go_wp2
          go_roundw
          case rel => exact ⟨4, by omega, rfl, HM.out, by assumption⟩
          case measure => simp [intOf]
    · have hix := index5_4 w.heap.size wr
      cases hp : f.f5 x.r with
      | false =>
        have HM := Lib.hid (must_false (k := 4) (by rw [HL5.out, hp]; rfl))
        rw [hp] at HF5
        clear hp
        go_wp2
        have hd := Below.drew hR
        have d1 := (hc5.out _ hd).2.2.2.2
        have d2 := (hc6.out _ hd).2.2.2.2.2
        refine wp_region_held_drew (S := fun w' => Below W1.heap.size W1 w' ∧ w'.cell? ⟨B, 4, none⟩ = some (.func (.func F5) #[] C5) ∧ w'.cell? ⟨w.heap.size, 5, none⟩ = some (.string x.r)) (by kernel_rfl) ⟨by assumption, by assumption, by assumption⟩ (fun hHeld => ?_)
        apply held_shell
        exact fun _ _ d _ _ h => by cases d <;> exact h
        rotate_left 1
        intro KK hKp hfin
        refine wpAnyH_take (i := 0) (v := .int .i64 4) rfl (by kernel_rfl) (by kernel_rfl) (by kernel_rfl) (fun c a w h => hKp c a _ _ w h) (Or.inl ⟨by kernel_rfl, fun w hSw => by dsimp only at hSw; obtain ⟨-, hs1, hs2⟩ := hSw; go_simp⟩) (by assumption) ?_
        simp only [Act.put, List.getElem_toArray, List.getElem_cons_zero, List.setIfInBounds_toArray, List.set_cons_zero, List.set_cons_succ]
        refine wpAnyH_take (i := 1) (v := .pointer (some ⟨B, 4, none⟩)) rfl (by kernel_rfl) (by kernel_rfl) (by kernel_rfl) (fun c a w h => hKp c a _ _ w h) (Or.inl ⟨by kernel_rfl, fun w hSw => by dsimp only at hSw; obtain ⟨-, hs1, hs2⟩ := hSw; go_simp⟩) (by assumption) ?_
        simp only [Act.put, List.getElem_toArray, List.getElem_cons_zero, List.getElem_cons_succ, List.setIfInBounds_toArray, List.set_cons_zero, List.set_cons_succ]
        refine wpAnyH_take (i := 2) (v := .func (.func F5) #[] C5) rfl (by kernel_rfl) (by kernel_rfl) (by kernel_rfl) (fun c a w h => hKp c a _ _ w h) (Or.inl ⟨by kernel_rfl, fun w hSw => by dsimp only at hSw; obtain ⟨-, hs1, hs2⟩ := hSw; go_simp⟩) (by assumption) ?_
        simp only [Act.put, List.getElem_toArray, List.getElem_cons_zero, List.getElem_cons_succ, List.setIfInBounds_toArray, List.set_cons_zero, List.set_cons_succ]
        refine wpAnyH_take (i := 3) (v := .pointer (some ⟨w.heap.size, 5, none⟩)) rfl (by kernel_rfl) (by kernel_rfl) (by kernel_rfl) (fun c a w h => hKp c a _ _ w h) (Or.inl ⟨by kernel_rfl, fun w hSw => by dsimp only at hSw; obtain ⟨-, hs1, hs2⟩ := hSw; go_simp⟩) (by assumption) ?_
        simp only [Act.put, List.getElem_toArray, List.getElem_cons_zero, List.getElem_cons_succ, List.setIfInBounds_toArray, List.set_cons_zero, List.set_cons_succ]
        refine wpAnyH_take (i := 4) (v := .pointer (some ⟨w.heap.size, 5, none⟩)) rfl (by kernel_rfl) (by kernel_rfl) (by kernel_rfl) (fun c a w h => hKp c a _ _ w h) (Or.inl ⟨by kernel_rfl, fun w hSw => by dsimp only at hSw; obtain ⟨-, hs1, hs2⟩ := hSw; go_simp⟩) (by assumption) ?_
        simp only [Act.put, List.getElem_toArray, List.getElem_cons_zero, List.getElem_cons_succ, List.setIfInBounds_toArray, List.set_cons_zero, List.set_cons_succ]
        refine wpAnyH_take (i := 5) (v := .string x.r) rfl (by kernel_rfl) (by kernel_rfl) (by kernel_rfl) (fun c a w h => hKp c a _ _ w h) (Or.inl ⟨by kernel_rfl, fun w hSw => by dsimp only at hSw; obtain ⟨-, hs1, hs2⟩ := hSw; go_simp⟩) (by assumption) ?_
        simp only [Act.put, List.getElem_toArray, List.getElem_cons_zero, List.getElem_cons_succ, List.setIfInBounds_toArray, List.set_cons_zero, List.set_cons_succ]
        refine wpAnyH_ready (rs := [6]) (by kernel_rfl) (by simp) ?_
        refine AllReadyH.cons rfl (fun Kx hKx => ?_) AllReadyH.nil
        go_simp
        refine (HF5.out _ hHeld.1).mono ?_
        rintro e w5 ⟨rfl, hb5, c5, d5⟩
        refine hKx.out _ _ ⟨hb5, c5, d5⟩ (fun hHeld => ?_)
        clear hKx Kx
        refine wpAnyH_take (i := 7) (v := .bool true) rfl (by kernel_rfl) (by kernel_rfl) (by kernel_rfl) (fun c a w h => hKp c a _ _ w h) (Or.inl ⟨by kernel_rfl, fun w hSw => by dsimp only at hSw; obtain ⟨-, hs1, hs2⟩ := hSw; go_simp⟩) (by assumption) ?_
        simp only [Act.put, List.getElem_toArray, List.getElem_cons_zero, List.getElem_cons_succ, List.setIfInBounds_toArray, List.set_cons_zero, List.set_cons_succ]
        refine wpAnyH_take (i := 8) (v := .bool true) rfl (by kernel_rfl) (by kernel_rfl) (by kernel_rfl) (fun c a w h => hKp c a _ _ w h) (Or.inl ⟨by kernel_rfl, fun w hSw => by dsimp only at hSw; obtain ⟨-, hs1, hs2⟩ := hSw; go_simp⟩) (by assumption) ?_
        simp only [Act.put, List.getElem_toArray, List.getElem_cons_zero, List.getElem_cons_succ, List.setIfInBounds_toArray, List.set_cons_zero, List.set_cons_succ]
        refine wpAnyH_take (i := 9) (v := undef) rfl (by kernel_rfl) (by kernel_rfl) (by kernel_rfl) (fun c a w h => hKp c a _ _ w h) (Or.inr ⟨by kernel_rfl, rfl⟩) (by assumption) ?_
        simp only [Act.put, List.getElem_toArray, List.getElem_cons_zero, List.getElem_cons_succ, List.setIfInBounds_toArray, List.set_cons_zero, List.set_cons_succ]
        refine wpAnyH_take (i := 10) (v := undef) rfl (by kernel_rfl) (by kernel_rfl) (by kernel_rfl) (fun c a w h => hKp c a _ _ w h) (Or.inr ⟨by kernel_rfl, rfl⟩) (by assumption) ?_
        simp only [Act.put, List.getElem_toArray, List.getElem_cons_zero, List.getElem_cons_succ, List.setIfInBounds_toArray, List.set_cons_zero, List.set_cons_succ]
        refine wpAnyH_take (i := 11) (v := undef) rfl (by kernel_rfl) (by kernel_rfl) (by kernel_rfl) (fun c a w h => hKp c a _ _ w h) (Or.inr ⟨by kernel_rfl, rfl⟩) (by assumption) ?_
        simp only [Act.put, List.getElem_toArray, List.getElem_cons_zero, List.getElem_cons_succ, List.setIfInBounds_toArray, List.set_cons_zero, List.set_cons_succ]
        refine wpAnyH_take (i := 12) (v := undef) rfl (by kernel_rfl) (by kernel_rfl) (by kernel_rfl) (fun c a w h => hKp c a _ _ w h) (Or.inr ⟨by kernel_rfl, rfl⟩) (by assumption) ?_
        simp only [Act.put, List.getElem_toArray, List.getElem_cons_zero, List.getElem_cons_succ, List.setIfInBounds_toArray, List.set_cons_zero, List.set_cons_succ]
        refine wpAnyH_take (i := 13) (v := undef) rfl (by kernel_rfl) (by kernel_rfl) (by kernel_rfl) (fun c a w h => hKp c a _ _ w h) (Or.inr ⟨by kernel_rfl, rfl⟩) (by assumption) ?_
        simp only [Act.put, List.getElem_toArray, List.getElem_cons_zero, List.getElem_cons_succ, List.setIfInBounds_toArray, List.set_cons_zero, List.set_cons_succ]
        refine wpAnyH_take (i := 14) (v := .bool true) rfl (by kernel_rfl) (by kernel_rfl) (by kernel_rfl) (fun c a w h => hKp c a _ _ w h) (Or.inl ⟨by kernel_rfl, fun w hSw => by dsimp only at hSw; obtain ⟨-, hs1, hs2⟩ := hSw; go_simp⟩) (by assumption) ?_
        simp only [Act.put, List.getElem_toArray, List.getElem_cons_zero, List.getElem_cons_succ, List.setIfInBounds_toArray, List.set_cons_zero, List.set_cons_succ]
        refine wpAnyH_done (by kernel_rfl) ?_ _
        exact hfin _ hHeld
        rintro w5 ⟨hb5, -, -⟩
        go_wp2
        go_ret
        exact ⟨ret_bool HM.out.symm, hB0.out _ (by assumption)⟩
      | true =>
        cases hs : smallS x.r with
        | false =>
          have HM := Lib.hid (must_false (k := 4) (by rw [HL5.out, hp, hs]; rfl))
          rw [hp] at HF5
          rw [hs] at HS5
          clear hp hs
          go_wp2
          have hd := Below.drew hR
          have d1 := (hc5.out _ hd).2.2.2.2
          have d2 := (hc6.out _ hd).2.2.2.2.2
          go_region_held3 (fun w' => Below W1.heap.size W1 w' ∧ w'.cell? ⟨B, 4, none⟩ = some (.func (.func F5) #[] C5) ∧ w'.cell? ⟨w.heap.size, 5, none⟩ = some (.string x.r)) (first | exact ⟨by assumption, by assumption, by assumption⟩)
            (first | (go_at_call 200; (with_reducible refine (HS5.out _ (by assumption)).mono ?_); rintro e w5 ⟨rfl, hb5, c5, d5⟩) | ((with_reducible refine (HF5.out _ (by assumption)).mono ?_); rintro e w5 ⟨rfl, hb5, c5, d5⟩))
          go_wp2
          go_ret
          exact ⟨ret_bool HM.out.symm, hB0.out _ (by assumption)⟩
        | true =>
          have HM := Lib.hid (must_step (k := 4) (by rw [HL5.out, hp, hs]; rfl) HA.out)
          rw [hp] at HF5
          rw [hs] at HS5
          clear hp hs
          go_wp2
          have hd := Below.drew hR
          have d1 := (hc5.out _ hd).2.2.2.2
          have d2 := (hc6.out _ hd).2.2.2.2.2
          go_region_held3 (fun w' => Below W1.heap.size W1 w' ∧ w'.cell? ⟨B, 4, none⟩ = some (.func (.func F5) #[] C5) ∧ w'.cell? ⟨w.heap.size, 5, none⟩ = some (.string x.r)) (first | exact ⟨by assumption, by assumption, by assumption⟩)
            (first | (go_at_call 200; (with_reducible refine (HS5.out _ (by assumption)).mono ?_); rintro e w5 ⟨rfl, hb5, c5, d5⟩) | ((with_reducible refine (HF5.out _ (by assumption)).mono ?_); rintro e w5 ⟨rfl, hb5, c5, d5⟩))
          go_wp2
          go_roundw
          case rel => exact ⟨5, by omega, rfl, HM.out, by assumption⟩
          case measure => simp [intOf]
    · obtain rfl : k = 0 := by omega
      have HM := Lib.hid (must_full HA.out)
      go_wp2
      go_ret
      exact ⟨ret_bool HM.out.symm, hB0.out _ hR⟩

/-! Right. -/
set_option maxHeartbeats 2000000 in
theorem kinds_in (n : Int) (hw : (Lit.int .i64 n).wf = true) (hn : 1 ≤ n ∧ n ≤ 7) (w : World) (hg : GL w) :
    Calls Tryz.prog 166 #[] w fun e w' => ∃ g, e = .returned (.map (some w.heap.size)) ∧ (Instr.lookup 230 (.map (some w.heap.size)) (.int .i64 n) true).run Tryz.prog w' = .ok (.tuple #[mustV g, .bool true]) w' ∧ KeepV w.heap.size w' g (fvs n.toNat) ∧ Below w.heap.size w w' := by
  refine (kinds_any w hg).mono ?_
  rintro e w' ⟨he, ⟨g1, g2, g3, g4, g5, g6, g7, ho, k1, k2, k3, k4, k5, k6, k7⟩, hb⟩
  have h7 : n = 1 ∨ n = 2 ∨ n = 3 ∨ n = 4 ∨ n = 5 ∨ n = 6 ∨ n = 7 := by omega
  rcases h7 with rfl | rfl | rfl | rfl | rfl | rfl | rfl
  · exact ⟨g1, he, look_in ho hw rfl rfl, k1, hb⟩
  · exact ⟨g2, he, look_in ho hw rfl rfl, k2, hb⟩
  · exact ⟨g3, he, look_in ho hw rfl rfl, k3, hb⟩
  · exact ⟨g4, he, look_in ho hw rfl rfl, k4, hb⟩
  · exact ⟨g5, he, look_in ho hw rfl rfl, k5, hb⟩
  · exact ⟨g6, he, look_in ho hw rfl rfl, k6, hb⟩
  · exact ⟨g7, he, look_in ho hw rfl rfl, k7, hb⟩
set_option maxHeartbeats 2000000 in
theorem kinds_out (n : Int) (hw : (Lit.int .i64 n).wf = true) (hn : ¬ (1 ≤ n ∧ n ≤ 7)) (w : World) (hg : GL w) :
    Calls Tryz.prog 166 #[] w fun e w' => e = .returned (.map (some w.heap.size)) ∧ (Instr.lookup 230 (.map (some w.heap.size)) (.int .i64 n) true).run Tryz.prog w' = .ok (.tuple #[.nilFunc, .bool false]) w' ∧ Below w.heap.size w w' := by
  refine (kinds_any w hg).mono ?_
  rintro e w' ⟨he, ⟨g1, g2, g3, g4, g5, g6, g7, ho, _⟩, hb⟩
  exact ⟨he, look_out ho hw hn, hb⟩

/-- What is asked of an alias that is handed over. -/
structure AlS (x : Al) : Prop where
  k : (Lit.int .i64 x.k).wf = true
  a : x.a.size ≤ 1000
  b : x.b.size ≤ 1000
  l : x.l.size ≤ 1000
  s : x.s.size ≤ 1000
  r : x.r.size ≤ 1000
set_option maxRecDepth 100000 in
set_option maxHeartbeats 4000000 in
theorem right_al (x : Al) (w : World) (hx : AlS x) (hg : GL w) :
    Calls Tryz.prog 144 #[.agg #[.int .i64 x.k, .string x.a, .string x.b, .string x.l, .string x.s, .string x.r]] w fun e w' => e = .returned (.bool (rightA x)) ∧ Below w.heap.size w w' := by
  have hgs := hg.size
  obtain ⟨W1, hW1⟩ : ∃ W1, w.alloc (.cells #[.int .i64 x.k, .string x.a, .string x.b, .string x.l, .string x.s, .string x.r] 74) = W1 := ⟨_, rfl⟩
  have hb1 : Below w.heap.size w W1 := by rw [← hW1]; exact (Below.refl _ w).alloc (Nat.le_refl _) _
  have hA : W1.heap[w.heap.size]? = some (.cells #[.int .i64 x.k, .string x.a, .string x.b, .string x.l, .string x.s, .string x.r] 74 (0, 0)) := by rw [← hW1]; exact World.alloc_heap_new w _
  have hc6 := Lib.hid (fun w' (hb : Below W1.heap.size W1 w') => cells6 ((hb.block _ (lt_of_block hA)).trans hA))
  have hB0 := Lib.hid (fun w' (hb : Below W1.heap.size W1 w') => hb1.trans (hb.mono hb1.size))
  have hG := Lib.hid (fun w' (hb : Below W1.heap.size W1 w') => hg.below (hb1.trans (hb.mono hb1.size)) hgs)
  by_cases hk : 1 ≤ x.k ∧ x.k ≤ 7
  · have HK := Lib.hid (fun w' (hb : Below W1.heap.size W1 w') (m : Nat) (hm : w'.heap.size = m) => (kinds_in x.k hx.k hk w' (hG.out _ hb)).mono (R' := fun e w'' => ∃ g, e = .returned (.map (some m)) ∧ (Instr.lookup 230 (.map (some m)) (.int .i64 x.k) true).run Tryz.prog w'' = .ok (.tuple #[mustV g, .bool true]) w'' ∧ KeepV w'.heap.size w'' g (fvs x.k.toNat) ∧ (Below W1.heap.size W1 w'' ∧ w''.cell? ⟨w.heap.size, 0, none⟩ = some (.int .i64 x.k))) fun e w'' ⟨g, p1, p2, p3, p4⟩ => ⟨g, hm ▸ p1, hm ▸ p2, p3, hb.trans (p4.mono hb.size), (hc6.out _ (hb.trans (p4.mono hb.size))).1⟩)
    have HM := Lib.hid (fun w' M g (hb : Below W1.heap.size W1 w') (hv : KeepV M w' g (fvs x.k.toNat)) => (must1_any x w' M g _ hv (Nat.le_trans hx.a (by decide)) (Nat.le_trans hx.b (by decide)) (Nat.le_trans hx.l (by decide)) (Nat.le_trans hx.s (by decide)) (Nat.le_trans hx.r (by decide))).mono (R' := fun e w'' => e = .returned (.bool (mustA (fvs x.k.toNat) x)) ∧ Below W1.heap.size W1 w'') fun e w'' ⟨p, q⟩ => ⟨p, hb.trans (q.mono hb.size)⟩)
    have HE := Lib.hid (show rightA x = mustA (fvs x.k.toNat) x by unfold rightA; rw [decide_eq_true hk]; rfl)
    have em := Go.Proofs.enters_of (P := Tryz.prog) Tryz.func199 (by kernel_rfl) rfl
    clear hk hx hg hA hb1
    go_enter Tryz.func144, Tryz.ntmps144
    go_upto_region 1 with fail
    clear hW1
    have hd : Below W1.heap.size W1 W1.drew := Below.drew (Below.refl _ _)
    have hds : W1.drew.heap.size = W1.heap.size := rfl
    have d1 := (hc6.out _ hd).1
    go_region_held3 (fun w' => Below W1.heap.size W1 w' ∧ w'.cell? ⟨w.heap.size, 0, none⟩ = some (.int .i64 x.k)) (first | exact ⟨by assumption, by assumption⟩)
      (first | (go_at_call 166; (with_reducible refine (HK.out _ (by assumption) W1.heap.size hds).mono ?_); rintro e w5 ⟨g, rfl, hl5, hk5, hb5, c5⟩))
    unfold mustV at *
    obtain ⟨e0, e1, e2, e3, e4, e5⟩ := hc6.out _ hb5
    go_wp2_with (go_at_call 199; (with_reducible refine (HM.out _ _ _ hb5 hk5).mono ?_); rintro e w6 ⟨rfl, hb6⟩)
    go_ret
    exact ⟨ret_bool HE.out.symm, hB0.out _ hb6⟩
  · have HK := Lib.hid (fun w' (hb : Below W1.heap.size W1 w') (m : Nat) (hm : w'.heap.size = m) => (kinds_out x.k hx.k hk w' (hG.out _ hb)).mono (R' := fun e w'' => e = .returned (.map (some m)) ∧ (Instr.lookup 230 (.map (some m)) (.int .i64 x.k) true).run Tryz.prog w'' = .ok (.tuple #[.nilFunc, .bool false]) w'' ∧ (Below W1.heap.size W1 w'' ∧ w''.cell? ⟨w.heap.size, 0, none⟩ = some (.int .i64 x.k))) fun e w'' ⟨p1, p2, p4⟩ => ⟨hm ▸ p1, hm ▸ p2, hb.trans (p4.mono hb.size), (hc6.out _ (hb.trans (p4.mono hb.size))).1⟩)
    have HE := Lib.hid (show rightA x = false by unfold rightA; rw [decide_eq_false hk]; rfl)
    clear hk hx hg hA hb1
    go_enter Tryz.func144, Tryz.ntmps144
    go_upto_region 1 with fail
    clear hW1
    have hd : Below W1.heap.size W1 W1.drew := Below.drew (Below.refl _ _)
    have hds : W1.drew.heap.size = W1.heap.size := rfl
    have d1 := (hc6.out _ hd).1
    go_region_held3 (fun w' => Below W1.heap.size W1 w' ∧ w'.cell? ⟨w.heap.size, 0, none⟩ = some (.int .i64 x.k)) (first | exact ⟨by assumption, by assumption⟩)
      (first | (go_at_call 166; (with_reducible refine (HK.out _ (by assumption) W1.heap.size hds).mono ?_); rintro e w5 ⟨rfl, hl5, hb5, c5⟩))
    go_wp2
    go_ret
    exact ⟨ret_bool HE.out.symm, hB0.out _ hb5⟩
end Go.Proofs.YtlpjdknmnomdlaaGreatDoor
