/-
 The document's answer for layer 12: Right. (Printed by wip/gen_yrightr.py.)
-/
import Derived.Test.YtgjifikahlmioaaGreatDoorYRowR
import Derived.Test.YtgjifikahlmioaaGreatDoorYMades
import Derived.BigQuiet
namespace Go.Proofs.YtgjifikahlmioaaGreatDoor
open Go Go.RowKit

theorem below_drewN1 {B : Nat} {a w : World} (h : Below B a w) (n : Nat) : Below B a (w.drewN n) := ⟨h.os, h.tape, h.output, h.size, h.block⟩
theorem lt_of_cellY {W : World} {a : Addr} {v : Value} (h : W.cell? a = some v) : a.block < W.heap.size := World.block_lt_of_cell? _ _ h
theorem held_shellU {P : Program} {md : Region.Mode} {ops : Array Oper} {S : World → Prop} {Q : Exit → Act → World → Prop} {n : Nat} {l : Array Bool} {a : Act} {w : World} {aF : Nat → Act} (h1 : ∀ c (a : Act) d v w, Q (.panic c) (a.put d v) w → Q (.panic c) a w) (h2 : ∀ u w, S w → Q .normal (aF u) w)
  (h3 : ∀ K : Exit → Act → World → Prop, (∀ c (a : Act) d v w, K (.panic c) (a.put d v) w → K (.panic c) a w) → (∀ u w, S w → K .normal (aF u) w) → wpAnyH P md ops K S n l a w) : wpAnyH P md ops Q S n l a w := h3 Q h1 h2
def smallsA (x : Al) : Bool := smallS x.a && (smallS x.b && (smallS x.l && (smallS x.s && smallS x.r)))
theorem smalls_of {x : Al} (h : ∀ j, j < 5 → smallS (txt x j) = true) : smallsA x = true := by
 have h0 := h 0 (by decide)
 have h1 := h 1 (by decide)
 have h2 := h 2 (by decide)
 have h3 := h 3 (by decide)
 have h4 := h 4 (by decide)
 unfold smallsA
 rw [show smallS x.a = true from h0, show smallS x.b = true from h1, show smallS x.l = true from h2, show smallS x.s = true from h3, show smallS x.r = true from h4]
 rfl
theorem must_smalls (f : Fv) (x : Al) : mustA f x = (smallsA x && (f.f1 x.a && (f.f2 x.b && (f.f3 x.l && (f.f4 x.s && f.f5 x.r))))) := by
 unfold mustA smallsA
 ac_rfl
theorem small_not {x : Al} {j : Nat} (hj : j < 5) (h : smallS (txt x j) = false) : smallsA x = false := by
 unfold smallsA
 have h5 : j = 0 ∨ j = 1 ∨ j = 2 ∨ j = 3 ∨ j = 4 := by omega
 rcases h5 with rfl | rfl | rfl | rfl | rfl
 ·rw [show smallS x.a = false from h]; rfl
 ·rw [show smallS x.b = false from h]; simp
 ·rw [show smallS x.l = false from h]; simp
 ·rw [show smallS x.s = false from h]; simp
 ·rw [show smallS x.r = false from h]; simp
theorem not_smalls {x : Al} (h : smallsA x = false) : rightA x = false := by
 unfold rightA
 rw [must_smalls, h]; simp
theorem right_smallsA {x : Al} (h : smallsA x = true) (k : Nat) (hk : x.k = (k : Int)) (h1 : 1 ≤ k) (h7 : k ≤ 7) : rightA x = ((fvs k).f1 x.a && ((fvs k).f2 x.b && ((fvs k).f3 x.l && ((fvs k).f4 x.s && (fvs k).f5 x.r)))) := by
 unfold rightA
 rw [must_smalls, h, hk, Int.toNat_natCast, decide_eq_true (by omega)]
 simp
theorem number_word (s : ByteArray) : numberS s = (wordS 2 2 s && (digitS s && decide (numI s < 26))) := by
 unfold numberS wordS
 by_cases h : s.size = 2
 ·rw [decide_eq_true h, decide_eq_true (show 2 ≤ s.size by omega), decide_eq_true (show s.size ≤ 2 by omega)]
  cases hd : digitS s with
  | false => simp
  | true =>
   have ha : alnumS s = true := by
    unfold alnumS has
    unfold digitS has at hd
    rw [Bool.and_eq_true] at hd ⊢
    exact ⟨hd.1, List.all_eq_true.2 fun c hc => isD_isN (List.all_eq_true.1 hd.2 c hc)⟩
   rw [ha]
   obtain ⟨c, d, rfl⟩ := two_bytes h
   obtain ⟨h3, h4, h5, h6⟩ := two_digits hd
   have hn : (nameV (numI ⟨#[c, d]⟩)).2 = decide (numI ⟨#[c, d]⟩ < 26) := by
    have h0 : 0 ≤ numI ⟨#[c, d]⟩ := by rw [numI_two]; omega
    unfold nameV
    by_cases h26 : numI ⟨#[c, d]⟩ < 26
    ·rw [if_pos ⟨h0, h26⟩, decide_eq_true h26]
    ·rw [if_neg (fun h => h26 h.2), decide_eq_false h26]
   rw [hn]
   simp
 ·rw [decide_eq_false h]
  by_cases h2 : 2 ≤ s.size
  ·rw [decide_eq_false (show ¬ s.size ≤ 2 by omega)]; simp
  ·rw [decide_eq_false h2]; simp

set_option maxRecDepth 1000000 in
set_option maxHeartbeats 32000000 in
theorem right_ref (x : Al) (w : World) (hx : AlS x) :
  Calls Tryz.prog 86 #[.agg #[.int .i64 x.k, .string x.a, .string x.b, .string x.l, .string x.s, .string x.r]] w fun e w' => e = .returned (.bool (rightA x)) ∧ Below w.heap.size w w' := by
 obtain ⟨W1, hW1⟩ : ∃ W1, w.alloc (.cells #[.int .i64 x.k, .string x.a, .string x.b, .string x.l, .string x.s, .string x.r] 47) = W1 := ⟨_, rfl⟩
 have hb1 : Below w.heap.size w W1 := by rw [← hW1]; exact (Below.refl _ w).alloc (Nat.le_refl _) _
 have hA : W1.heap[w.heap.size]? = some (.cells #[.int .i64 x.k, .string x.a, .string x.b, .string x.l, .string x.s, .string x.r] 47 (0, 0)) := by rw [← hW1]; exact World.alloc_heap_new w _
 have HB1 := Lib.hid (fun w' (hb : Below W1.heap.size W1 w') => hb1.trans (hb.mono hb1.size))
 have H6 := Lib.hid (fun w' (hb : Below W1.heap.size W1 w') => cells6 ((hb.block _ (lt_of_block hA)).trans hA))
 have HW1 := Lib.hid hW1
 have TX := Lib.hid (fun w' => texts_ref x w')
 have TG := Lib.hid (fun w' => target_ref x w' (by have := hx.l; omega) (by have := hx.s; omega) (by have := hx.r; omega))
 have hz : ∀ k, k < 5 → (txt x k).size ≤ 1000 := fun k hk => by
  have h5 : k = 0 ∨ k = 1 ∨ k = 2 ∨ k = 3 ∨ k = 4 := by omega
  rcases h5 with rfl | rfl | rfl | rfl | rfl
  ·exact hx.a
  ·exact hx.b
  ·exact hx.l
  ·exact hx.s
  ·exact hx.r
 have HLO := Lib.hid (fun k (hk : k < 5) w' => lower_ref (txt x k) w' (by have := hz k hk; omega))
 obtain ⟨a0, a1, a2, a3, a4, a5⟩ := H6.out _ (Below.refl _ _)
 have HX := Lib.hid hx
 clear hA hb1 hW1 hz hx
 go_enter Tryz.func86, Tryz.ntmps86
 go_upto_region 1 with fail
 rw [HW1.out]
 go_upto_region 2 with (go_at_call 90; (with_reducible refine (TX.out _).mono ?_); rintro e w3 ⟨rfl, hb3⟩)
 clear a0 a1 a2 a3 a4 a5 HW1 TX
 have hb3a := hb3.alloc hb3.size (.cells #[.string x.a, .string x.b, .string x.l, .string x.s, .string x.r] 141)
 have hT3 := World.alloc_heap_new w3 (.cells #[.string x.a, .string x.b, .string x.l, .string x.s, .string x.r] 141)
 generalize hW3 : w3.alloc (.cells #[.string x.a, .string x.b, .string x.l, .string x.s, .string x.r] 141) = Z at *
 have hcz := Lib.hid (fun k (hk : k < 5) w' (hb : Below Z.heap.size Z w') => txt_in ((hb.block _ (lt_of_block hT3)).trans hT3) k hk)
 have HZ := Lib.hid (fun w' (hb : Below Z.heap.size Z w') => hb3a.trans (hb.mono hb3a.size))
 generalize w3.heap.size = T at *
 clear hW3 hb3 hT3 hb3a
 go_wp2
 go_loopw [4] (fun i wr => ∃ k : Nat, k ≤ 5 ∧ i = .int .i64 (k : Int) ∧ (∀ j, j < k → smallS (txt x j) = true) ∧ Below Z.heap.size Z wr) (fun i _ => 5 - (intOf i).toNat)
 case atStart => exact ⟨0, Nat.zero_le _, rfl, fun j hj => absurd hj (Nat.not_lt_zero _), Below.refl _ _⟩
 case round =>
  obtain ⟨k, hk, rfl, hsm, hR⟩ := hrel
  by_cases hlt : k < 5
  ·have hlt' : (k : Int) < 5 := by omega
   have hk0 : (0 : Int) ≤ (k : Int) := by omega
   have LO := Lib.hid (fun w' (hb : Below Z.heap.size Z w') => (HLO.out k hlt w').mono (R' := fun e w'' => e = .returned (.string (lowS (txt x k))) ∧ Below Z.heap.size Z w'') fun e w'' ⟨p, q⟩ => ⟨p, hb.trans (q.mono hb.size)⟩)
   have HC := Lib.hid (fun w' (hb : Below Z.heap.size Z w') => (show Below Z.heap.size Z w' ∧ w'.cell? ⟨T, k, none⟩ = some (.string (txt x k)) from ⟨hb, hcz.out k hlt w' hb⟩))
   have hd1 := Below.drew hR
   cases hs : smallS (txt x k) with
   | true =>
    have HSM := Lib.hid (show ∀ j, j < k + 1 → smallS (txt x j) = true from fun j hj => by
     by_cases h : j < k
     ·exact hsm j h
     ·obtain rfl : j = k := by omega
      exact hs)
    rw [(smallS_iff _).1 hs] at LO
    clear hsm hs
    generalize txt x k = t at *
    go_upto_region 5 with fail
    go_region_held3 (fun w' => Below Z.heap.size Z w' ∧ w'.cell? ⟨T, k, none⟩ = some (.string t)) (exact HC.out _ (by assumption))
     (first | (go_at_call 116; (with_reducible refine (LO.out _ (by assumption)).mono ?_); rintro e w5 ⟨rfl, hb5⟩))
    go_wp2
    go_roundw
    case rel => exact ⟨k + 1, by omega, by go_num, HSM.out, by assumption⟩
    case measure => simp [intOf]; omega
   | false =>
    have HE := Lib.hid (not_smalls (small_not hlt hs))
    have he : ((txt x k).toList == (lowS (txt x k)).toList) = false := by
     rw [same_bool]
     unfold smallS at hs
     exact hs
    have he2 : ((txt x k).toList != (lowS (txt x k)).toList) = true := by rw [bne, he]; rfl
    clear hsm hs
    generalize lowS (txt x k) = l at *
    generalize txt x k = t at *
    go_upto_region 5 with fail
    go_region_held3 (fun w' => Below Z.heap.size Z w' ∧ w'.cell? ⟨T, k, none⟩ = some (.string t)) (exact HC.out _ (by assumption))
     (first | (go_at_call 116; (with_reducible refine (LO.out _ (by assumption)).mono ?_); rintro e w5 ⟨rfl, hb5⟩))
    go_wp2
    go_ret
    exact ⟨ret_bool HE.out.symm, HB1.out _ (HZ.out _ (by assumption))⟩
  ·obtain rfl : k = 5 := by omega
   have hall := smalls_of hsm
   have hRZ := HZ.out _ hR
   obtain ⟨a0, a1, a2, a3, a4, a5⟩ := H6.out _ hRZ
   clear hsm hlt hk HLO hcz HZ hR
   go_upto_region 8 with (go_at_call 117; (with_reducible refine (TG.out _).mono ?_); rintro e w7 ⟨rfl, hb7⟩)
   clear a0 a1 a2 a3 a4 a5 TG
   have hb7' := hRZ.trans (hb7.mono hRZ.size)
   obtain ⟨a0, a1, a2, a3, a4, a5⟩ := H6.out _ hb7'
   have HQ := Lib.hid (HB1.out _ hb7')
   clear hRZ hb7 HB1
   obtain ⟨za, zb, zl, zs, zr⟩ : x.a.size ≤ 1048576 ∧ x.b.size ≤ 1048576 ∧ x.l.size ≤ 1048576 ∧ x.s.size ≤ 1048576 ∧ x.r.size ≤ 1048576 := by
    have := HX.out.a; have := HX.out.b; have := HX.out.l; have := HX.out.s; have := HX.out.r
    refine ⟨by omega, by omega, by omega, by omega, by omega⟩
   by_cases hk1 : 1 ≤ x.k ∧ x.k ≤ 7
   ·obtain ⟨m, hm⟩ : ∃ m : Nat, x.k = (m : Int) := ⟨x.k.toNat, by omega⟩
    have h7 : m = 1 ∨ m = 2 ∨ m = 3 ∨ m = 4 ∨ m = 5 ∨ m = 6 ∨ m = 7 := by omega
    have hri := right_smallsA hall m hm (by omega) (by omega)
    rw [hm] at a0
    clear hk1 HX hall
    obtain ⟨y, hy⟩ : ∃ y, rightA x = y := ⟨_, rfl⟩
    rw [hy] at hri
    have HY := Lib.hid hy
    clear hy
    rcases h7 with rfl | rfl | rfl | rfl | rfl | rfl | rfl
    ·have hri2 : y = ((wordS 2 2 x.a && (digitS x.a && decide (numI x.a < 26))) && (noneS x.b && tgtA x)) := by
      rw [← number_word]; exact hri
     clear hri
     have hn1 := none_bool x.b
     have CW := Lib.hid (fun w' => show Calls Tryz.prog 118 #[.string x.a, .int .i64 2, .int .i64 2] w' fun e w'' => e = .returned (.bool (wordS 2 2 x.a)) ∧ w' = w'' from word_ref x.a 2 2 w' (by omega))
     have CC := Lib.hid (fun w' => class_ref x.a w' (by omega))
     have hct := class_two x.a
     generalize tgtA x = tg at *
     generalize noneS x.b = nb at *
     cases hw : wordS 2 2 x.a with
     | false =>
      rw [hw] at CW hri2
      have HI := Lib.hid (show y = false by rw [hri2]; rfl)
      clear hri2 hct hn1 hw
      go_upto_region 11 with (go_at_call 118; (with_reducible refine (CW.out _).mono ?_); rintro e w8 ⟨rfl, rfl⟩)
      go_quiet (fail)
      go_wp2
      go_ret
      exact ⟨ret_bool ((HY.out.trans HI.out)).symm, by first | exact HQ.out | exact Below.drew HQ.out | exact below_drewN1 HQ.out _ | exact below_drewN1 (Below.drew HQ.out) _⟩
     | true =>
      rw [hw] at CW hri2
      cases hdg : digitS x.a with
      | false =>
       rw [hdg] at hri2 hct
       have HI := Lib.hid (show y = false by rw [hri2]; rfl)
       clear hri2 hn1 hw hdg
       generalize classS x.a = cl at *
       go_upto_region 11 with (go_at_call 118; (with_reducible refine (CW.out _).mono ?_); rintro e w8 ⟨rfl, rfl⟩)
       have HK := Lib.hid (fun w' (hb : Below w7.heap.size w7 w') => (show Below w7.heap.size w7 w' ∧ (w'.cell? ⟨w.heap.size, 1, none⟩ = some (.string x.a)) from ⟨hb, (hb.cell (p := ⟨w.heap.size, 1, none⟩) (lt_of_cellY a1)).trans a1⟩))
       have HQ2 := Lib.hid (fun w' (hb : Below w7.heap.size w7 w') => HQ.out.trans (hb.mono HQ.out.size))
       refine wp_region_held_drew (S := fun w' => Below w7.heap.size w7 w' ∧ (w'.cell? ⟨w.heap.size, 1, none⟩ = some (.string x.a))) (by kernel_rfl) (HK.out _ (Below.drew (Below.refl _ _))) (fun hHeld => ?_)
       apply held_shell
       exact fun _ _ d _ _ h => by cases d <;> exact h
       rotate_left 1
       intro KK hKp hfin
       refine tkH (i := 0) (v := .bool true) rfl hKp (fun w hSw => by obtain ⟨-, c1⟩ := hSw; go_simp) (by assumption) ?_
       simp only [Act.put, putH]
       refine tkH (i := 1) (v := .bool true) rfl hKp (fun w hSw => by obtain ⟨-, c1⟩ := hSw; go_simp) (by assumption) ?_
       simp only [Act.put, putH]
       refine tkH (i := 2) (v := .pointer (some ⟨w.heap.size, 1, none⟩)) rfl hKp (fun w hSw => by obtain ⟨-, c1⟩ := hSw; go_simp) (by assumption) ?_
       simp only [Act.put, putH]
       refine tkH (i := 3) (v := .string x.a) rfl hKp (fun w hSw => by obtain ⟨-, c1⟩ := hSw; go_simp) (by assumption) ?_
       simp only [Act.put, putH]
       refine wpAnyH_ready (rs := [4]) (by kernel_rfl) (by simp) ?_
       refine AllReadyH.cons rfl (fun Kx hKx => ?_) AllReadyH.nil
       rw [if_pos (by kernel_rfl)]
       go_simp
       (with_reducible refine (CC.out _).mono ?_)
       rintro e w8 ⟨rfl, rfl⟩
       refine hKx.out _ _ (hHeld) (fun hHeld => ?_)
       clear hKx Kx
       try simp only [Act.put, putH]
       refine tkH (i := 5) (v := .bool false) rfl hKp (fun w hSw => by obtain ⟨-, c1⟩ := hSw; go_simp) (by assumption) ?_
       simp only [Act.put, putH]
       refine tkH (i := 6) (v := .bool false) rfl hKp (fun w hSw => by obtain ⟨-, c1⟩ := hSw; go_simp) (by assumption) ?_
       simp only [Act.put, putH]
       refine tkH (i := 7) (v := .bool false) rfl hKp (fun w hSw => by obtain ⟨-, c1⟩ := hSw; go_simp) (by assumption) ?_
       simp only [Act.put, putH]
       refine wpAnyH_take (i := 8) (v := undef) rfl (by kernel_rfl) (by kernel_rfl) (by kernel_rfl) (fun c a w h => hKp c a _ _ w h) (Or.inr ⟨by kernel_rfl, rfl⟩) (by assumption) ?_
       simp only [Act.put, putH]
       refine wpAnyH_take (i := 9) (v := undef) rfl (by kernel_rfl) (by kernel_rfl) (by kernel_rfl) (fun c a w h => hKp c a _ _ w h) (Or.inr ⟨by kernel_rfl, rfl⟩) (by assumption) ?_
       simp only [Act.put, putH]
       refine wpAnyH_take (i := 10) (v := undef) rfl (by kernel_rfl) (by kernel_rfl) (by kernel_rfl) (fun c a w h => hKp c a _ _ w h) (Or.inr ⟨by kernel_rfl, rfl⟩) (by assumption) ?_
       simp only [Act.put, putH]
       refine wpAnyH_take (i := 11) (v := undef) rfl (by kernel_rfl) (by kernel_rfl) (by kernel_rfl) (fun c a w h => hKp c a _ _ w h) (Or.inr ⟨by kernel_rfl, rfl⟩) (by assumption) ?_
       simp only [Act.put, putH]
       refine wpAnyH_take (i := 12) (v := undef) rfl (by kernel_rfl) (by kernel_rfl) (by kernel_rfl) (fun c a w h => hKp c a _ _ w h) (Or.inr ⟨by kernel_rfl, rfl⟩) (by assumption) ?_
       simp only [Act.put, putH]
       refine wpAnyH_take (i := 13) (v := undef) rfl (by kernel_rfl) (by kernel_rfl) (by kernel_rfl) (fun c a w h => hKp c a _ _ w h) (Or.inr ⟨by kernel_rfl, rfl⟩) (by assumption) ?_
       simp only [Act.put, putH]
       refine wpAnyH_take (i := 14) (v := undef) rfl (by kernel_rfl) (by kernel_rfl) (by kernel_rfl) (fun c a w h => hKp c a _ _ w h) (Or.inr ⟨by kernel_rfl, rfl⟩) (by assumption) ?_
       simp only [Act.put, putH]
       refine wpAnyH_take (i := 15) (v := undef) rfl (by kernel_rfl) (by kernel_rfl) (by kernel_rfl) (fun c a w h => hKp c a _ _ w h) (Or.inr ⟨by kernel_rfl, rfl⟩) (by assumption) ?_
       simp only [Act.put, putH]
       refine wpAnyH_take (i := 16) (v := undef) rfl (by kernel_rfl) (by kernel_rfl) (by kernel_rfl) (fun c a w h => hKp c a _ _ w h) (Or.inr ⟨by kernel_rfl, rfl⟩) (by assumption) ?_
       simp only [Act.put, putH]
       refine wpAnyH_take (i := 17) (v := undef) rfl (by kernel_rfl) (by kernel_rfl) (by kernel_rfl) (fun c a w h => hKp c a _ _ w h) (Or.inr ⟨by kernel_rfl, rfl⟩) (by assumption) ?_
       simp only [Act.put, putH]
       refine wpAnyH_take (i := 18) (v := undef) rfl (by kernel_rfl) (by kernel_rfl) (by kernel_rfl) (fun c a w h => hKp c a _ _ w h) (Or.inr ⟨by kernel_rfl, rfl⟩) (by assumption) ?_
       simp only [Act.put, putH]
       refine wpAnyH_take (i := 19) (v := undef) rfl (by kernel_rfl) (by kernel_rfl) (by kernel_rfl) (fun c a w h => hKp c a _ _ w h) (Or.inr ⟨by kernel_rfl, rfl⟩) (by assumption) ?_
       simp only [Act.put, putH]
       refine wpAnyH_take (i := 20) (v := undef) rfl (by kernel_rfl) (by kernel_rfl) (by kernel_rfl) (fun c a w h => hKp c a _ _ w h) (Or.inr ⟨by kernel_rfl, rfl⟩) (by assumption) ?_
       simp only [Act.put, putH]
       refine wpAnyH_take (i := 21) (v := undef) rfl (by kernel_rfl) (by kernel_rfl) (by kernel_rfl) (fun c a w h => hKp c a _ _ w h) (Or.inr ⟨by kernel_rfl, rfl⟩) (by assumption) ?_
       simp only [Act.put, putH]
       refine wpAnyH_take (i := 22) (v := undef) rfl (by kernel_rfl) (by kernel_rfl) (by kernel_rfl) (fun c a w h => hKp c a _ _ w h) (Or.inr ⟨by kernel_rfl, rfl⟩) (by assumption) ?_
       simp only [Act.put, putH]
       refine tkH (i := 23) (v := .bool false) rfl hKp (fun w hSw => by obtain ⟨-, c1⟩ := hSw; go_simp) (by assumption) ?_
       simp only [Act.put, putH]
       refine tkH (i := 24) (v := .bool false) rfl hKp (fun w hSw => by obtain ⟨-, c1⟩ := hSw; go_simp) (by assumption) ?_
       simp only [Act.put, putH]
       refine wpAnyH_take (i := 25) (v := undef) rfl (by kernel_rfl) (by kernel_rfl) (by kernel_rfl) (fun c a w h => hKp c a _ _ w h) (Or.inr ⟨by kernel_rfl, rfl⟩) (by assumption) ?_
       simp only [Act.put, putH]
       refine wpAnyH_take (i := 26) (v := undef) rfl (by kernel_rfl) (by kernel_rfl) (by kernel_rfl) (fun c a w h => hKp c a _ _ w h) (Or.inr ⟨by kernel_rfl, rfl⟩) (by assumption) ?_
       simp only [Act.put, putH]
       refine wpAnyH_take (i := 27) (v := undef) rfl (by kernel_rfl) (by kernel_rfl) (by kernel_rfl) (fun c a w h => hKp c a _ _ w h) (Or.inr ⟨by kernel_rfl, rfl⟩) (by assumption) ?_
       simp only [Act.put, putH]
       refine tkH (i := 28) (v := .bool false) rfl hKp (fun w hSw => by obtain ⟨-, c1⟩ := hSw; go_simp) (by assumption) ?_
       simp only [Act.put, putH]
       refine tkH (i := 29) (v := .bool false) rfl hKp (fun w hSw => by obtain ⟨-, c1⟩ := hSw; go_simp) (by assumption) ?_
       simp only [Act.put, putH]
       refine wpAnyH_take (i := 30) (v := undef) rfl (by kernel_rfl) (by kernel_rfl) (by kernel_rfl) (fun c a w h => hKp c a _ _ w h) (Or.inr ⟨by kernel_rfl, rfl⟩) (by assumption) ?_
       simp only [Act.put, putH]
       refine tkH (i := 31) (v := .bool false) rfl hKp (fun w hSw => by obtain ⟨-, c1⟩ := hSw; go_simp) (by assumption) ?_
       simp only [Act.put, putH]
       refine tkH (i := 32) (v := .bool false) rfl hKp (fun w hSw => by obtain ⟨-, c1⟩ := hSw; go_simp) (by assumption) ?_
       simp only [Act.put, putH]
       refine wpAnyH_done (by kernel_rfl) ?_ _
       exact hfin _ hHeld
       intro w9 hS9
       rcases hS9 with ⟨hb9, -⟩
       go_wp2
       go_ret
       exact ⟨ret_bool ((HY.out.trans HI.out)).symm, HQ2.out _ hb9⟩
      | true =>
       have h2 : x.a.size = 2 := by
        unfold wordS at hw
        rw [Bool.and_eq_true, Bool.and_eq_true, decide_eq_true_iff, decide_eq_true_iff] at hw
        omega
       rw [hdg] at hri2 hct
       obtain ⟨c, d, hcd⟩ := two_bytes h2
       rw [hcd] at a1 hri2 hdg CW CC hct
       obtain ⟨h3, h4, h5, h6⟩ := two_digits hdg
       obtain ⟨p, hp⟩ : ∃ p : Int, (c.toNat : Int) - 48 = p := ⟨_, rfl⟩
       obtain ⟨q, hq⟩ : ∃ q : Int, (d.toNat : Int) - 48 = q := ⟨_, rfl⟩
       obtain ⟨p10, hp10⟩ : ∃ n : Int, p * 10 = n := ⟨_, rfl⟩
       obtain ⟨z, hz⟩ : ∃ n : Int, p10 + q = n := ⟨_, rfl⟩
       have e1 : IntKind.u8.wrap ((c.toNat : Int) - 48) = p := by rw [← hp]; exact wraps_u8 _ (by omega) (by omega)
       have e2 : IntKind.u8.wrap ((d.toNat : Int) - 48) = q := by rw [← hq]; exact wraps_u8 _ (by omega) (by omega)
       have e3 : IntKind.i64.wrap p = p := IntWalk.i64_in p ⟨by omega, by omega⟩
       have e4 : IntKind.i64.wrap q = q := IntWalk.i64_in q ⟨by omega, by omega⟩
       have e5 : IntKind.i64.wrap (p * 10) = p10 := by rw [hp10]; exact IntWalk.i64_in p10 ⟨by omega, by omega⟩
       have e6 : IntKind.i64.wrap (p10 + q) = z := by rw [hz]; exact IntWalk.i64_in z ⟨by omega, by omega⟩
       rw [numI_two, Int.mul_comm, hp, hq, hp10, hz] at hri2
       have hc2 : classS ⟨#[c, d]⟩ = 2 := by simpa using hct
       rw [hc2] at CC
       have CL := CC
       have LI := Lib.hid (fun w' (hb : Below w7.heap.size w7 w') => (list_any w').mono (R' := fun e w'' => ∃ u : Nat, e = .returned (.slice (some ⟨u, 0, none⟩) 26 26) ∧ Below w7.heap.size w7 w'') fun e w'' ⟨p, _, q, _⟩ => ⟨_, p, hb.trans (q.mono hb.size)⟩)
       have HK := Lib.hid (fun w' (hb : Below w7.heap.size w7 w') => (show Below w7.heap.size w7 w' ∧ (w'.cell? ⟨w.heap.size, 1, none⟩ = some (.string ⟨#[c, d]⟩) ∧ w'.cell? ⟨w.heap.size, 2, none⟩ = some (.string x.b)) from ⟨hb, (hb.cell (p := ⟨w.heap.size, 1, none⟩) (lt_of_cellY a1)).trans a1, (hb.cell (p := ⟨w.heap.size, 2, none⟩) (lt_of_cellY a2)).trans a2⟩))
       have HQ2 := Lib.hid (fun w' (hb : Below w7.heap.size w7 w') => HQ.out.trans (hb.mono HQ.out.size))
       clear h2 h3 h4 h5 h6 hcd hdg hw hct hc2 CC za zb zl zs zr hp hq hp10 hz
       cases hlt : decide (z < 26) with
       | false =>
        rw [hlt] at hri2
        have HI := Lib.hid (show y = false by rw [hri2]; rfl)
        have hlt2 : ¬ (z < 26) := of_decide_eq_false hlt
        clear hri2
        go_upto_region 11 with (go_at_call 118; (with_reducible refine (CW.out _).mono ?_); rintro e w8 ⟨rfl, rfl⟩)
        refine wp_region_held_drew (S := fun w' => Below w7.heap.size w7 w' ∧ (w'.cell? ⟨w.heap.size, 1, none⟩ = some (.string ⟨#[c, d]⟩) ∧ w'.cell? ⟨w.heap.size, 2, none⟩ = some (.string x.b))) (by kernel_rfl) (HK.out _ (Below.drew (Below.refl _ _))) (fun hHeld => ?_)
        apply held_shellU
        exact fun _ _ d _ _ h => by cases d <;> exact h
        rotate_left 1
        intro KK hKp hfin
        refine tkH (i := 0) (v := .bool true) rfl hKp (fun w hSw => by obtain ⟨-, c1, c2⟩ := hSw; go_simp) (by assumption) ?_
        simp only [Act.put, putH]
        refine tkH (i := 1) (v := .bool true) rfl hKp (fun w hSw => by obtain ⟨-, c1, c2⟩ := hSw; go_simp) (by assumption) ?_
        simp only [Act.put, putH]
        refine tkH (i := 2) (v := .pointer (some ⟨w.heap.size, 1, none⟩)) rfl hKp (fun w hSw => by obtain ⟨-, c1, c2⟩ := hSw; go_simp) (by assumption) ?_
        simp only [Act.put, putH]
        refine tkH (i := 3) (v := .string ⟨#[c, d]⟩) rfl hKp (fun w hSw => by obtain ⟨-, c1, c2⟩ := hSw; go_simp) (by assumption) ?_
        simp only [Act.put, putH]
        refine wpAnyH_ready (rs := [4]) (by kernel_rfl) (by simp) ?_
        refine AllReadyH.cons rfl (fun Kx hKx => ?_) AllReadyH.nil
        rw [if_pos (by kernel_rfl)]
        go_simp
        (with_reducible refine (CL.out _).mono ?_)
        rintro e w8 ⟨rfl, rfl⟩
        refine hKx.out _ _ (hHeld) (fun hHeld => ?_)
        clear hKx Kx
        try simp only [Act.put, putH]
        refine tkH (i := 5) (v := .bool true) rfl hKp (fun w hSw => by obtain ⟨-, c1, c2⟩ := hSw; go_simp) (by assumption) ?_
        simp only [Act.put, putH]
        refine tkH (i := 6) (v := .bool true) rfl hKp (fun w hSw => by obtain ⟨-, c1, c2⟩ := hSw; go_simp) (by assumption) ?_
        simp only [Act.put, putH]
        refine tkH (i := 7) (v := .bool true) rfl hKp (fun w hSw => by obtain ⟨-, c1, c2⟩ := hSw; go_simp) (by assumption) ?_
        simp only [Act.put, putH]
        refine tkH (i := 8) (v := .pointer (some ⟨w.heap.size, 1, none⟩)) rfl hKp (fun w hSw => by obtain ⟨-, c1, c2⟩ := hSw; go_simp) (by assumption) ?_
        simp only [Act.put, putH]
        refine tkH (i := 9) (v := .string ⟨#[c, d]⟩) rfl hKp (fun w hSw => by obtain ⟨-, c1, c2⟩ := hSw; go_simp) (by assumption) ?_
        simp only [Act.put, putH]
        refine tkH (i := 10) (v := .int .u8 (c.toNat : Int)) rfl hKp (fun w hSw => by obtain ⟨-, c1, c2⟩ := hSw; go_simp; rfl) (by assumption) ?_
        simp only [Act.put, putH]
        refine tkH (i := 11) (v := .int .u8 p) rfl hKp (fun w hSw => by obtain ⟨-, c1, c2⟩ := hSw; go_simp) (by assumption) ?_
        simp only [Act.put, putH]
        refine tkH (i := 12) (v := .int .i64 p) rfl hKp (fun w hSw => by obtain ⟨-, c1, c2⟩ := hSw; go_simp) (by assumption) ?_
        simp only [Act.put, putH]
        refine tkH (i := 13) (v := .int .i64 p10) rfl hKp (fun w hSw => by obtain ⟨-, c1, c2⟩ := hSw; go_simp) (by assumption) ?_
        simp only [Act.put, putH]
        refine tkH (i := 14) (v := .pointer (some ⟨w.heap.size, 1, none⟩)) rfl hKp (fun w hSw => by obtain ⟨-, c1, c2⟩ := hSw; go_simp) (by assumption) ?_
        simp only [Act.put, putH]
        refine tkH (i := 15) (v := .string ⟨#[c, d]⟩) rfl hKp (fun w hSw => by obtain ⟨-, c1, c2⟩ := hSw; go_simp) (by assumption) ?_
        simp only [Act.put, putH]
        refine tkH (i := 16) (v := .int .u8 (d.toNat : Int)) rfl hKp (fun w hSw => by obtain ⟨-, c1, c2⟩ := hSw; go_simp; rfl) (by assumption) ?_
        simp only [Act.put, putH]
        refine tkH (i := 17) (v := .int .u8 q) rfl hKp (fun w hSw => by obtain ⟨-, c1, c2⟩ := hSw; go_simp) (by assumption) ?_
        simp only [Act.put, putH]
        refine tkH (i := 18) (v := .int .i64 q) rfl hKp (fun w hSw => by obtain ⟨-, c1, c2⟩ := hSw; go_simp) (by assumption) ?_
        simp only [Act.put, putH]
        refine tkH (i := 19) (v := .int .i64 z) rfl hKp (fun w hSw => by obtain ⟨-, c1, c2⟩ := hSw; go_simp) (by assumption) ?_
        simp only [Act.put, putH]
        refine wpAnyH_ready (rs := [20]) (by kernel_rfl) (by simp) ?_
        refine AllReadyH.cons rfl (fun Kx hKx => ?_) AllReadyH.nil
        rw [if_pos (by kernel_rfl)]
        go_simp
        (with_reducible refine (LI.out _ hHeld.1).mono ?_)
        rintro e w8 ⟨u, rfl, hb8⟩
        refine hKx.out _ _ (HK.out _ hb8) (fun hHeld => ?_)
        clear hKx Kx
        try simp only [Act.put, putH]
        refine tkH (i := 21) (v := .int .i64 26) rfl hKp (fun w hSw => by obtain ⟨-, c1, c2⟩ := hSw; go_simp) (by assumption) ?_
        simp only [Act.put, putH]
        refine tkH (i := 22) (v := .bool false) rfl hKp (fun w hSw => by obtain ⟨-, c1, c2⟩ := hSw; go_simp) (by assumption) ?_
        simp only [Act.put, putH]
        refine tkH (i := 23) (v := .bool false) rfl hKp (fun w hSw => by obtain ⟨-, c1, c2⟩ := hSw; go_simp) (by assumption) ?_
        simp only [Act.put, putH]
        refine tkH (i := 24) (v := .bool false) rfl hKp (fun w hSw => by obtain ⟨-, c1, c2⟩ := hSw; go_simp) (by assumption) ?_
        simp only [Act.put, putH]
        refine wpAnyH_take (i := 25) (v := undef) rfl (by kernel_rfl) (by kernel_rfl) (by kernel_rfl) (fun c a w h => hKp c a _ _ w h) (Or.inr ⟨by kernel_rfl, rfl⟩) (by assumption) ?_
        simp only [Act.put, putH]
        refine wpAnyH_take (i := 26) (v := undef) rfl (by kernel_rfl) (by kernel_rfl) (by kernel_rfl) (fun c a w h => hKp c a _ _ w h) (Or.inr ⟨by kernel_rfl, rfl⟩) (by assumption) ?_
        simp only [Act.put, putH]
        refine wpAnyH_take (i := 27) (v := undef) rfl (by kernel_rfl) (by kernel_rfl) (by kernel_rfl) (fun c a w h => hKp c a _ _ w h) (Or.inr ⟨by kernel_rfl, rfl⟩) (by assumption) ?_
        simp only [Act.put, putH]
        refine tkH (i := 28) (v := .bool false) rfl hKp (fun w hSw => by obtain ⟨-, c1, c2⟩ := hSw; go_simp) (by assumption) ?_
        simp only [Act.put, putH]
        refine tkH (i := 29) (v := .bool false) rfl hKp (fun w hSw => by obtain ⟨-, c1, c2⟩ := hSw; go_simp) (by assumption) ?_
        simp only [Act.put, putH]
        refine wpAnyH_take (i := 30) (v := undef) rfl (by kernel_rfl) (by kernel_rfl) (by kernel_rfl) (fun c a w h => hKp c a _ _ w h) (Or.inr ⟨by kernel_rfl, rfl⟩) (by assumption) ?_
        simp only [Act.put, putH]
        refine tkH (i := 31) (v := .bool false) rfl hKp (fun w hSw => by obtain ⟨-, c1, c2⟩ := hSw; go_simp) (by assumption) ?_
        simp only [Act.put, putH]
        refine tkH (i := 32) (v := .bool false) rfl hKp (fun w hSw => by obtain ⟨-, c1, c2⟩ := hSw; go_simp) (by assumption) ?_
        simp only [Act.put, putH]
        refine wpAnyH_done (by kernel_rfl) ?_ _
        exact hfin u _ hHeld
        intro u w9 hS9
        rcases hS9 with ⟨hb9, -⟩
        go_wp2
        go_ret
        exact ⟨ret_bool ((HY.out.trans HI.out)).symm, HQ2.out _ hb9⟩
       | true =>
        rw [hlt] at hri2
        have hlt2 : z < 26 := of_decide_eq_true hlt
        cases nb with
        | false =>
         have HI := Lib.hid (show y = false by rw [hri2]; rfl)
         clear hri2
         go_upto_region 11 with (go_at_call 118; (with_reducible refine (CW.out _).mono ?_); rintro e w8 ⟨rfl, rfl⟩)
         refine wp_region_held_drew (S := fun w' => Below w7.heap.size w7 w' ∧ (w'.cell? ⟨w.heap.size, 1, none⟩ = some (.string ⟨#[c, d]⟩) ∧ w'.cell? ⟨w.heap.size, 2, none⟩ = some (.string x.b))) (by kernel_rfl) (HK.out _ (Below.drew (Below.refl _ _))) (fun hHeld => ?_)
         apply held_shellU
         exact fun _ _ d _ _ h => by cases d <;> exact h
         rotate_left 1
         intro KK hKp hfin
         refine tkH (i := 0) (v := .bool true) rfl hKp (fun w hSw => by obtain ⟨-, c1, c2⟩ := hSw; go_simp) (by assumption) ?_
         simp only [Act.put, putH]
         refine tkH (i := 1) (v := .bool true) rfl hKp (fun w hSw => by obtain ⟨-, c1, c2⟩ := hSw; go_simp) (by assumption) ?_
         simp only [Act.put, putH]
         refine tkH (i := 2) (v := .pointer (some ⟨w.heap.size, 1, none⟩)) rfl hKp (fun w hSw => by obtain ⟨-, c1, c2⟩ := hSw; go_simp) (by assumption) ?_
         simp only [Act.put, putH]
         refine tkH (i := 3) (v := .string ⟨#[c, d]⟩) rfl hKp (fun w hSw => by obtain ⟨-, c1, c2⟩ := hSw; go_simp) (by assumption) ?_
         simp only [Act.put, putH]
         refine wpAnyH_ready (rs := [4]) (by kernel_rfl) (by simp) ?_
         refine AllReadyH.cons rfl (fun Kx hKx => ?_) AllReadyH.nil
         rw [if_pos (by kernel_rfl)]
         go_simp
         (with_reducible refine (CL.out _).mono ?_)
         rintro e w8 ⟨rfl, rfl⟩
         refine hKx.out _ _ (hHeld) (fun hHeld => ?_)
         clear hKx Kx
         try simp only [Act.put, putH]
         refine tkH (i := 5) (v := .bool true) rfl hKp (fun w hSw => by obtain ⟨-, c1, c2⟩ := hSw; go_simp) (by assumption) ?_
         simp only [Act.put, putH]
         refine tkH (i := 6) (v := .bool true) rfl hKp (fun w hSw => by obtain ⟨-, c1, c2⟩ := hSw; go_simp) (by assumption) ?_
         simp only [Act.put, putH]
         refine tkH (i := 7) (v := .bool true) rfl hKp (fun w hSw => by obtain ⟨-, c1, c2⟩ := hSw; go_simp) (by assumption) ?_
         simp only [Act.put, putH]
         refine tkH (i := 8) (v := .pointer (some ⟨w.heap.size, 1, none⟩)) rfl hKp (fun w hSw => by obtain ⟨-, c1, c2⟩ := hSw; go_simp) (by assumption) ?_
         simp only [Act.put, putH]
         refine tkH (i := 9) (v := .string ⟨#[c, d]⟩) rfl hKp (fun w hSw => by obtain ⟨-, c1, c2⟩ := hSw; go_simp) (by assumption) ?_
         simp only [Act.put, putH]
         refine tkH (i := 10) (v := .int .u8 (c.toNat : Int)) rfl hKp (fun w hSw => by obtain ⟨-, c1, c2⟩ := hSw; go_simp; rfl) (by assumption) ?_
         simp only [Act.put, putH]
         refine tkH (i := 11) (v := .int .u8 p) rfl hKp (fun w hSw => by obtain ⟨-, c1, c2⟩ := hSw; go_simp) (by assumption) ?_
         simp only [Act.put, putH]
         refine tkH (i := 12) (v := .int .i64 p) rfl hKp (fun w hSw => by obtain ⟨-, c1, c2⟩ := hSw; go_simp) (by assumption) ?_
         simp only [Act.put, putH]
         refine tkH (i := 13) (v := .int .i64 p10) rfl hKp (fun w hSw => by obtain ⟨-, c1, c2⟩ := hSw; go_simp) (by assumption) ?_
         simp only [Act.put, putH]
         refine tkH (i := 14) (v := .pointer (some ⟨w.heap.size, 1, none⟩)) rfl hKp (fun w hSw => by obtain ⟨-, c1, c2⟩ := hSw; go_simp) (by assumption) ?_
         simp only [Act.put, putH]
         refine tkH (i := 15) (v := .string ⟨#[c, d]⟩) rfl hKp (fun w hSw => by obtain ⟨-, c1, c2⟩ := hSw; go_simp) (by assumption) ?_
         simp only [Act.put, putH]
         refine tkH (i := 16) (v := .int .u8 (d.toNat : Int)) rfl hKp (fun w hSw => by obtain ⟨-, c1, c2⟩ := hSw; go_simp; rfl) (by assumption) ?_
         simp only [Act.put, putH]
         refine tkH (i := 17) (v := .int .u8 q) rfl hKp (fun w hSw => by obtain ⟨-, c1, c2⟩ := hSw; go_simp) (by assumption) ?_
         simp only [Act.put, putH]
         refine tkH (i := 18) (v := .int .i64 q) rfl hKp (fun w hSw => by obtain ⟨-, c1, c2⟩ := hSw; go_simp) (by assumption) ?_
         simp only [Act.put, putH]
         refine tkH (i := 19) (v := .int .i64 z) rfl hKp (fun w hSw => by obtain ⟨-, c1, c2⟩ := hSw; go_simp) (by assumption) ?_
         simp only [Act.put, putH]
         refine wpAnyH_ready (rs := [20]) (by kernel_rfl) (by simp) ?_
         refine AllReadyH.cons rfl (fun Kx hKx => ?_) AllReadyH.nil
         rw [if_pos (by kernel_rfl)]
         go_simp
         (with_reducible refine (LI.out _ hHeld.1).mono ?_)
         rintro e w8 ⟨u, rfl, hb8⟩
         refine hKx.out _ _ (HK.out _ hb8) (fun hHeld => ?_)
         clear hKx Kx
         try simp only [Act.put, putH]
         refine tkH (i := 21) (v := .int .i64 26) rfl hKp (fun w hSw => by obtain ⟨-, c1, c2⟩ := hSw; go_simp) (by assumption) ?_
         simp only [Act.put, putH]
         refine tkH (i := 22) (v := .bool true) rfl hKp (fun w hSw => by obtain ⟨-, c1, c2⟩ := hSw; go_simp) (by assumption) ?_
         simp only [Act.put, putH]
         refine tkH (i := 23) (v := .bool true) rfl hKp (fun w hSw => by obtain ⟨-, c1, c2⟩ := hSw; go_simp) (by assumption) ?_
         simp only [Act.put, putH]
         refine tkH (i := 24) (v := .bool true) rfl hKp (fun w hSw => by obtain ⟨-, c1, c2⟩ := hSw; go_simp) (by assumption) ?_
         simp only [Act.put, putH]
         refine tkH (i := 25) (v := .pointer (some ⟨w.heap.size, 2, none⟩)) rfl hKp (fun w hSw => by obtain ⟨-, c1, c2⟩ := hSw; go_simp) (by assumption) ?_
         simp only [Act.put, putH]
         refine tkH (i := 26) (v := .string x.b) rfl hKp (fun w hSw => by obtain ⟨-, c1, c2⟩ := hSw; go_simp) (by assumption) ?_
         simp only [Act.put, putH]
         refine tkH (i := 27) (v := .bool false) rfl hKp (fun w hSw => by obtain ⟨-, c1, c2⟩ := hSw; go_simp) (by assumption) ?_
         simp only [Act.put, putH]
         refine tkH (i := 28) (v := .bool false) rfl hKp (fun w hSw => by obtain ⟨-, c1, c2⟩ := hSw; go_simp) (by assumption) ?_
         simp only [Act.put, putH]
         refine tkH (i := 29) (v := .bool false) rfl hKp (fun w hSw => by obtain ⟨-, c1, c2⟩ := hSw; go_simp) (by assumption) ?_
         simp only [Act.put, putH]
         refine wpAnyH_take (i := 30) (v := undef) rfl (by kernel_rfl) (by kernel_rfl) (by kernel_rfl) (fun c a w h => hKp c a _ _ w h) (Or.inr ⟨by kernel_rfl, rfl⟩) (by assumption) ?_
         simp only [Act.put, putH]
         refine tkH (i := 31) (v := .bool false) rfl hKp (fun w hSw => by obtain ⟨-, c1, c2⟩ := hSw; go_simp) (by assumption) ?_
         simp only [Act.put, putH]
         refine tkH (i := 32) (v := .bool false) rfl hKp (fun w hSw => by obtain ⟨-, c1, c2⟩ := hSw; go_simp) (by assumption) ?_
         simp only [Act.put, putH]
         refine wpAnyH_done (by kernel_rfl) ?_ _
         exact hfin u _ hHeld
         intro u w9 hS9
         rcases hS9 with ⟨hb9, -⟩
         go_wp2
         go_ret
         exact ⟨ret_bool ((HY.out.trans HI.out)).symm, HQ2.out _ hb9⟩
        | true =>
         have HI := Lib.hid (show y = tg by rw [hri2]; rfl)
         clear hri2
         go_upto_region 11 with (go_at_call 118; (with_reducible refine (CW.out _).mono ?_); rintro e w8 ⟨rfl, rfl⟩)
         refine wp_region_held_drew (S := fun w' => Below w7.heap.size w7 w' ∧ (w'.cell? ⟨w.heap.size, 1, none⟩ = some (.string ⟨#[c, d]⟩) ∧ w'.cell? ⟨w.heap.size, 2, none⟩ = some (.string x.b))) (by kernel_rfl) (HK.out _ (Below.drew (Below.refl _ _))) (fun hHeld => ?_)
         apply held_shellU
         exact fun _ _ d _ _ h => by cases d <;> exact h
         rotate_left 1
         intro KK hKp hfin
         refine tkH (i := 0) (v := .bool true) rfl hKp (fun w hSw => by obtain ⟨-, c1, c2⟩ := hSw; go_simp) (by assumption) ?_
         simp only [Act.put, putH]
         refine tkH (i := 1) (v := .bool true) rfl hKp (fun w hSw => by obtain ⟨-, c1, c2⟩ := hSw; go_simp) (by assumption) ?_
         simp only [Act.put, putH]
         refine tkH (i := 2) (v := .pointer (some ⟨w.heap.size, 1, none⟩)) rfl hKp (fun w hSw => by obtain ⟨-, c1, c2⟩ := hSw; go_simp) (by assumption) ?_
         simp only [Act.put, putH]
         refine tkH (i := 3) (v := .string ⟨#[c, d]⟩) rfl hKp (fun w hSw => by obtain ⟨-, c1, c2⟩ := hSw; go_simp) (by assumption) ?_
         simp only [Act.put, putH]
         refine wpAnyH_ready (rs := [4]) (by kernel_rfl) (by simp) ?_
         refine AllReadyH.cons rfl (fun Kx hKx => ?_) AllReadyH.nil
         rw [if_pos (by kernel_rfl)]
         go_simp
         (with_reducible refine (CL.out _).mono ?_)
         rintro e w8 ⟨rfl, rfl⟩
         refine hKx.out _ _ (hHeld) (fun hHeld => ?_)
         clear hKx Kx
         try simp only [Act.put, putH]
         refine tkH (i := 5) (v := .bool true) rfl hKp (fun w hSw => by obtain ⟨-, c1, c2⟩ := hSw; go_simp) (by assumption) ?_
         simp only [Act.put, putH]
         refine tkH (i := 6) (v := .bool true) rfl hKp (fun w hSw => by obtain ⟨-, c1, c2⟩ := hSw; go_simp) (by assumption) ?_
         simp only [Act.put, putH]
         refine tkH (i := 7) (v := .bool true) rfl hKp (fun w hSw => by obtain ⟨-, c1, c2⟩ := hSw; go_simp) (by assumption) ?_
         simp only [Act.put, putH]
         refine tkH (i := 8) (v := .pointer (some ⟨w.heap.size, 1, none⟩)) rfl hKp (fun w hSw => by obtain ⟨-, c1, c2⟩ := hSw; go_simp) (by assumption) ?_
         simp only [Act.put, putH]
         refine tkH (i := 9) (v := .string ⟨#[c, d]⟩) rfl hKp (fun w hSw => by obtain ⟨-, c1, c2⟩ := hSw; go_simp) (by assumption) ?_
         simp only [Act.put, putH]
         refine tkH (i := 10) (v := .int .u8 (c.toNat : Int)) rfl hKp (fun w hSw => by obtain ⟨-, c1, c2⟩ := hSw; go_simp; rfl) (by assumption) ?_
         simp only [Act.put, putH]
         refine tkH (i := 11) (v := .int .u8 p) rfl hKp (fun w hSw => by obtain ⟨-, c1, c2⟩ := hSw; go_simp) (by assumption) ?_
         simp only [Act.put, putH]
         refine tkH (i := 12) (v := .int .i64 p) rfl hKp (fun w hSw => by obtain ⟨-, c1, c2⟩ := hSw; go_simp) (by assumption) ?_
         simp only [Act.put, putH]
         refine tkH (i := 13) (v := .int .i64 p10) rfl hKp (fun w hSw => by obtain ⟨-, c1, c2⟩ := hSw; go_simp) (by assumption) ?_
         simp only [Act.put, putH]
         refine tkH (i := 14) (v := .pointer (some ⟨w.heap.size, 1, none⟩)) rfl hKp (fun w hSw => by obtain ⟨-, c1, c2⟩ := hSw; go_simp) (by assumption) ?_
         simp only [Act.put, putH]
         refine tkH (i := 15) (v := .string ⟨#[c, d]⟩) rfl hKp (fun w hSw => by obtain ⟨-, c1, c2⟩ := hSw; go_simp) (by assumption) ?_
         simp only [Act.put, putH]
         refine tkH (i := 16) (v := .int .u8 (d.toNat : Int)) rfl hKp (fun w hSw => by obtain ⟨-, c1, c2⟩ := hSw; go_simp; rfl) (by assumption) ?_
         simp only [Act.put, putH]
         refine tkH (i := 17) (v := .int .u8 q) rfl hKp (fun w hSw => by obtain ⟨-, c1, c2⟩ := hSw; go_simp) (by assumption) ?_
         simp only [Act.put, putH]
         refine tkH (i := 18) (v := .int .i64 q) rfl hKp (fun w hSw => by obtain ⟨-, c1, c2⟩ := hSw; go_simp) (by assumption) ?_
         simp only [Act.put, putH]
         refine tkH (i := 19) (v := .int .i64 z) rfl hKp (fun w hSw => by obtain ⟨-, c1, c2⟩ := hSw; go_simp) (by assumption) ?_
         simp only [Act.put, putH]
         refine wpAnyH_ready (rs := [20]) (by kernel_rfl) (by simp) ?_
         refine AllReadyH.cons rfl (fun Kx hKx => ?_) AllReadyH.nil
         rw [if_pos (by kernel_rfl)]
         go_simp
         (with_reducible refine (LI.out _ hHeld.1).mono ?_)
         rintro e w8 ⟨u, rfl, hb8⟩
         refine hKx.out _ _ (HK.out _ hb8) (fun hHeld => ?_)
         clear hKx Kx
         try simp only [Act.put, putH]
         refine tkH (i := 21) (v := .int .i64 26) rfl hKp (fun w hSw => by obtain ⟨-, c1, c2⟩ := hSw; go_simp) (by assumption) ?_
         simp only [Act.put, putH]
         refine tkH (i := 22) (v := .bool true) rfl hKp (fun w hSw => by obtain ⟨-, c1, c2⟩ := hSw; go_simp) (by assumption) ?_
         simp only [Act.put, putH]
         refine tkH (i := 23) (v := .bool true) rfl hKp (fun w hSw => by obtain ⟨-, c1, c2⟩ := hSw; go_simp) (by assumption) ?_
         simp only [Act.put, putH]
         refine tkH (i := 24) (v := .bool true) rfl hKp (fun w hSw => by obtain ⟨-, c1, c2⟩ := hSw; go_simp) (by assumption) ?_
         simp only [Act.put, putH]
         refine tkH (i := 25) (v := .pointer (some ⟨w.heap.size, 2, none⟩)) rfl hKp (fun w hSw => by obtain ⟨-, c1, c2⟩ := hSw; go_simp) (by assumption) ?_
         simp only [Act.put, putH]
         refine tkH (i := 26) (v := .string x.b) rfl hKp (fun w hSw => by obtain ⟨-, c1, c2⟩ := hSw; go_simp) (by assumption) ?_
         simp only [Act.put, putH]
         refine tkH (i := 27) (v := .bool true) rfl hKp (fun w hSw => by obtain ⟨-, c1, c2⟩ := hSw; go_simp) (by assumption) ?_
         simp only [Act.put, putH]
         refine tkH (i := 28) (v := .bool true) rfl hKp (fun w hSw => by obtain ⟨-, c1, c2⟩ := hSw; go_simp) (by assumption) ?_
         simp only [Act.put, putH]
         refine tkH (i := 29) (v := .bool true) rfl hKp (fun w hSw => by obtain ⟨-, c1, c2⟩ := hSw; go_simp) (by assumption) ?_
         simp only [Act.put, putH]
         refine tkH (i := 30) (v := .bool tg) rfl hKp (fun w hSw => by obtain ⟨-, c1, c2⟩ := hSw; go_simp) (by assumption) ?_
         simp only [Act.put, putH]
         refine tkH (i := 31) (v := .bool tg) rfl hKp (fun w hSw => by obtain ⟨-, c1, c2⟩ := hSw; go_simp) (by assumption) ?_
         simp only [Act.put, putH]
         refine tkH (i := 32) (v := .bool tg) rfl hKp (fun w hSw => by obtain ⟨-, c1, c2⟩ := hSw; go_simp) (by assumption) ?_
         simp only [Act.put, putH]
         refine wpAnyH_done (by kernel_rfl) ?_ _
         exact hfin u _ hHeld
         intro u w9 hS9
         rcases hS9 with ⟨hb9, -⟩
         go_wp2
         go_ret
         exact ⟨ret_bool ((HY.out.trans HI.out)).symm, HQ2.out _ hb9⟩
    ·have HI := Lib.hid (show y = (languageS x.a && (regionS x.b && (languageS x.l && (noneS x.s && (noneS x.r))))) from hri)
     clear hri
     have C1 := Lib.hid (fun w' => language_ref x.a w' (by omega))
     have C2 := Lib.hid (fun w' => region_ref x.b w' (by omega))
     have C3 := Lib.hid (fun w' => language_ref x.l w' (by omega))
     have hn4 := none_bool x.s
     have hn5 := none_bool x.r
     generalize languageS x.a = b0 at *
     generalize regionS x.b = b1 at *
     generalize languageS x.l = b2 at *
     generalize noneS x.s = b3 at *
     generalize noneS x.r = b4 at *
     cases b0
     ·go_wp2_with (first
       | (go_at_call 121; (with_reducible refine (C1.out _).mono ?_); rintro e w8 ⟨rfl, rfl⟩)
       | (go_at_call 122; (with_reducible refine (C2.out _).mono ?_); rintro e w8 ⟨rfl, rfl⟩)
       | (go_at_call 121; (with_reducible refine (C3.out _).mono ?_); rintro e w8 ⟨rfl, rfl⟩))
      go_ret
      exact ⟨ret_bool ((HY.out.trans HI.out)).symm, HQ.out⟩
     ·cases b1
      ·go_wp2_with (first
        | (go_at_call 121; (with_reducible refine (C1.out _).mono ?_); rintro e w8 ⟨rfl, rfl⟩)
        | (go_at_call 122; (with_reducible refine (C2.out _).mono ?_); rintro e w8 ⟨rfl, rfl⟩)
        | (go_at_call 121; (with_reducible refine (C3.out _).mono ?_); rintro e w8 ⟨rfl, rfl⟩))
       go_ret
       exact ⟨ret_bool ((HY.out.trans HI.out)).symm, HQ.out⟩
      ·cases b2
       ·go_wp2_with (first
         | (go_at_call 121; (with_reducible refine (C1.out _).mono ?_); rintro e w8 ⟨rfl, rfl⟩)
         | (go_at_call 122; (with_reducible refine (C2.out _).mono ?_); rintro e w8 ⟨rfl, rfl⟩)
         | (go_at_call 121; (with_reducible refine (C3.out _).mono ?_); rintro e w8 ⟨rfl, rfl⟩))
        go_ret
        exact ⟨ret_bool ((HY.out.trans HI.out)).symm, HQ.out⟩
       ·cases b3
        ·go_wp2_with (first
          | (go_at_call 121; (with_reducible refine (C1.out _).mono ?_); rintro e w8 ⟨rfl, rfl⟩)
          | (go_at_call 122; (with_reducible refine (C2.out _).mono ?_); rintro e w8 ⟨rfl, rfl⟩)
          | (go_at_call 121; (with_reducible refine (C3.out _).mono ?_); rintro e w8 ⟨rfl, rfl⟩))
         go_ret
         exact ⟨ret_bool ((HY.out.trans HI.out)).symm, HQ.out⟩
        ·cases b4
         ·go_wp2_with (first
           | (go_at_call 121; (with_reducible refine (C1.out _).mono ?_); rintro e w8 ⟨rfl, rfl⟩)
           | (go_at_call 122; (with_reducible refine (C2.out _).mono ?_); rintro e w8 ⟨rfl, rfl⟩)
           | (go_at_call 121; (with_reducible refine (C3.out _).mono ?_); rintro e w8 ⟨rfl, rfl⟩))
          go_ret
          exact ⟨ret_bool ((HY.out.trans HI.out)).symm, HQ.out⟩
         ·go_wp2_with (first
           | (go_at_call 121; (with_reducible refine (C1.out _).mono ?_); rintro e w8 ⟨rfl, rfl⟩)
           | (go_at_call 122; (with_reducible refine (C2.out _).mono ?_); rintro e w8 ⟨rfl, rfl⟩)
           | (go_at_call 121; (with_reducible refine (C3.out _).mono ?_); rintro e w8 ⟨rfl, rfl⟩))
          go_ret
          exact ⟨ret_bool ((HY.out.trans HI.out)).symm, HQ.out⟩
    ·have HI := Lib.hid (show y = (languageS x.a && (noneS x.b && (tgtA x))) from hri)
     clear hri
     have C1 := Lib.hid (fun w' => language_ref x.a w' (by omega))
     have hn2 := none_bool x.b
     generalize languageS x.a = b0 at *
     generalize noneS x.b = b1 at *
     generalize tgtA x = b2 at *
     cases b0
     ·go_wp2_with (first
       | (go_at_call 121; (with_reducible refine (C1.out _).mono ?_); rintro e w8 ⟨rfl, rfl⟩))
      go_ret
      exact ⟨ret_bool ((HY.out.trans HI.out)).symm, HQ.out⟩
     ·cases b1
      ·go_wp2_with (first
        | (go_at_call 121; (with_reducible refine (C1.out _).mono ?_); rintro e w8 ⟨rfl, rfl⟩))
       go_ret
       exact ⟨ret_bool ((HY.out.trans HI.out)).symm, HQ.out⟩
      ·cases b2
       ·go_wp2_with (first
         | (go_at_call 121; (with_reducible refine (C1.out _).mono ?_); rintro e w8 ⟨rfl, rfl⟩))
        go_ret
        exact ⟨ret_bool ((HY.out.trans HI.out)).symm, HQ.out⟩
       ·go_wp2_with (first
         | (go_at_call 121; (with_reducible refine (C1.out _).mono ?_); rintro e w8 ⟨rfl, rfl⟩))
        go_ret
        exact ⟨ret_bool ((HY.out.trans HI.out)).symm, HQ.out⟩
    ·have HI := Lib.hid (show y = (scriptS x.a && (noneS x.b && (noneS x.l && (scriptS x.s && (noneS x.r))))) from hri)
     clear hri
     have C1 := Lib.hid (fun w' => script_ref x.a w' (by omega))
     have hn2 := none_bool x.b
     have hn3 := none_bool x.l
     have C4 := Lib.hid (fun w' => script_ref x.s w' (by omega))
     have hn5 := none_bool x.r
     generalize scriptS x.a = b0 at *
     generalize noneS x.b = b1 at *
     generalize noneS x.l = b2 at *
     generalize scriptS x.s = b3 at *
     generalize noneS x.r = b4 at *
     cases b0
     ·go_wp2_with (first
       | (go_at_call 123; (with_reducible refine (C1.out _).mono ?_); rintro e w8 ⟨rfl, rfl⟩)
       | (go_at_call 123; (with_reducible refine (C4.out _).mono ?_); rintro e w8 ⟨rfl, rfl⟩))
      go_ret
      exact ⟨ret_bool ((HY.out.trans HI.out)).symm, HQ.out⟩
     ·cases b1
      ·go_wp2_with (first
        | (go_at_call 123; (with_reducible refine (C1.out _).mono ?_); rintro e w8 ⟨rfl, rfl⟩)
        | (go_at_call 123; (with_reducible refine (C4.out _).mono ?_); rintro e w8 ⟨rfl, rfl⟩))
       go_ret
       exact ⟨ret_bool ((HY.out.trans HI.out)).symm, HQ.out⟩
      ·cases b2
       ·go_wp2_with (first
         | (go_at_call 123; (with_reducible refine (C1.out _).mono ?_); rintro e w8 ⟨rfl, rfl⟩)
         | (go_at_call 123; (with_reducible refine (C4.out _).mono ?_); rintro e w8 ⟨rfl, rfl⟩))
        go_ret
        exact ⟨ret_bool ((HY.out.trans HI.out)).symm, HQ.out⟩
       ·cases b3
        ·go_wp2_with (first
          | (go_at_call 123; (with_reducible refine (C1.out _).mono ?_); rintro e w8 ⟨rfl, rfl⟩)
          | (go_at_call 123; (with_reducible refine (C4.out _).mono ?_); rintro e w8 ⟨rfl, rfl⟩))
         go_ret
         exact ⟨ret_bool ((HY.out.trans HI.out)).symm, HQ.out⟩
        ·cases b4
         ·go_wp2_with (first
           | (go_at_call 123; (with_reducible refine (C1.out _).mono ?_); rintro e w8 ⟨rfl, rfl⟩)
           | (go_at_call 123; (with_reducible refine (C4.out _).mono ?_); rintro e w8 ⟨rfl, rfl⟩))
          go_ret
          exact ⟨ret_bool ((HY.out.trans HI.out)).symm, HQ.out⟩
         ·go_wp2_with (first
           | (go_at_call 123; (with_reducible refine (C1.out _).mono ?_); rintro e w8 ⟨rfl, rfl⟩)
           | (go_at_call 123; (with_reducible refine (C4.out _).mono ?_); rintro e w8 ⟨rfl, rfl⟩))
          go_ret
          exact ⟨ret_bool ((HY.out.trans HI.out)).symm, HQ.out⟩
    ·have HI := Lib.hid (show y = (regionS x.a && (noneS x.b && (noneS x.l && (noneS x.s && (regionS x.r))))) from hri)
     clear hri
     have C1 := Lib.hid (fun w' => region_ref x.a w' (by omega))
     have hn2 := none_bool x.b
     have hn3 := none_bool x.l
     have hn4 := none_bool x.s
     have C5 := Lib.hid (fun w' => region_ref x.r w' (by omega))
     generalize regionS x.a = b0 at *
     generalize noneS x.b = b1 at *
     generalize noneS x.l = b2 at *
     generalize noneS x.s = b3 at *
     generalize regionS x.r = b4 at *
     cases b0
     ·go_wp2_with (first
       | (go_at_call 122; (with_reducible refine (C1.out _).mono ?_); rintro e w8 ⟨rfl, rfl⟩)
       | (go_at_call 122; (with_reducible refine (C5.out _).mono ?_); rintro e w8 ⟨rfl, rfl⟩))
      go_ret
      exact ⟨ret_bool ((HY.out.trans HI.out)).symm, HQ.out⟩
     ·cases b1
      ·go_wp2_with (first
        | (go_at_call 122; (with_reducible refine (C1.out _).mono ?_); rintro e w8 ⟨rfl, rfl⟩)
        | (go_at_call 122; (with_reducible refine (C5.out _).mono ?_); rintro e w8 ⟨rfl, rfl⟩))
       go_ret
       exact ⟨ret_bool ((HY.out.trans HI.out)).symm, HQ.out⟩
      ·cases b2
       ·go_wp2_with (first
         | (go_at_call 122; (with_reducible refine (C1.out _).mono ?_); rintro e w8 ⟨rfl, rfl⟩)
         | (go_at_call 122; (with_reducible refine (C5.out _).mono ?_); rintro e w8 ⟨rfl, rfl⟩))
        go_ret
        exact ⟨ret_bool ((HY.out.trans HI.out)).symm, HQ.out⟩
       ·cases b3
        ·go_wp2_with (first
          | (go_at_call 122; (with_reducible refine (C1.out _).mono ?_); rintro e w8 ⟨rfl, rfl⟩)
          | (go_at_call 122; (with_reducible refine (C5.out _).mono ?_); rintro e w8 ⟨rfl, rfl⟩))
         go_ret
         exact ⟨ret_bool ((HY.out.trans HI.out)).symm, HQ.out⟩
        ·cases b4
         ·go_wp2_with (first
           | (go_at_call 122; (with_reducible refine (C1.out _).mono ?_); rintro e w8 ⟨rfl, rfl⟩)
           | (go_at_call 122; (with_reducible refine (C5.out _).mono ?_); rintro e w8 ⟨rfl, rfl⟩))
          go_ret
          exact ⟨ret_bool ((HY.out.trans HI.out)).symm, HQ.out⟩
         ·go_wp2_with (first
           | (go_at_call 122; (with_reducible refine (C1.out _).mono ?_); rintro e w8 ⟨rfl, rfl⟩)
           | (go_at_call 122; (with_reducible refine (C5.out _).mono ?_); rintro e w8 ⟨rfl, rfl⟩))
          go_ret
          exact ⟨ret_bool ((HY.out.trans HI.out)).symm, HQ.out⟩
    ·have HI := Lib.hid (show y = (variantS x.a && (noneS x.b && (maybeS variantS x.l && (noneS x.s && (noneS x.r))))) from hri)
     clear hri
     have C1 := Lib.hid (fun w' => variant_ref x.a w' (by omega))
     have hn2 := none_bool x.b
     have HM := Lib.hid (show maybeS variantS x.l = (noneS x.l || variantS x.l) from rfl)
     have C3 := Lib.hid (fun w' => variant_ref x.l w' (by omega))
     have hn3 := none_bool x.l
     have hn4 := none_bool x.s
     have hn5 := none_bool x.r
     rw [HM.out] at HI
     clear HM
     generalize variantS x.a = b0 at *
     generalize noneS x.b = b1 at *
     generalize noneS x.l = b2 at *
     generalize variantS x.l = b3 at *
     generalize noneS x.s = b4 at *
     generalize noneS x.r = b5 at *
     cases b0
     ·go_wp2_with (first
       | (go_at_call 124; (with_reducible refine (C1.out _).mono ?_); rintro e w8 ⟨rfl, rfl⟩)
       | (go_at_call 124; (with_reducible refine (C3.out _).mono ?_); rintro e w8 ⟨rfl, rfl⟩))
      go_ret
      exact ⟨ret_bool ((HY.out.trans HI.out)).symm, HQ.out⟩
     ·cases b1
      ·go_wp2_with (first
        | (go_at_call 124; (with_reducible refine (C1.out _).mono ?_); rintro e w8 ⟨rfl, rfl⟩)
        | (go_at_call 124; (with_reducible refine (C3.out _).mono ?_); rintro e w8 ⟨rfl, rfl⟩))
       go_ret
       exact ⟨ret_bool ((HY.out.trans HI.out)).symm, HQ.out⟩
      ·cases b2
       ·cases b3
        ·go_wp2_with (first
          | (go_at_call 124; (with_reducible refine (C1.out _).mono ?_); rintro e w8 ⟨rfl, rfl⟩)
          | (go_at_call 124; (with_reducible refine (C3.out _).mono ?_); rintro e w8 ⟨rfl, rfl⟩))
         go_ret
         exact ⟨ret_bool ((HY.out.trans HI.out)).symm, HQ.out⟩
        ·cases b4
         ·go_wp2_with (first
           | (go_at_call 124; (with_reducible refine (C1.out _).mono ?_); rintro e w8 ⟨rfl, rfl⟩)
           | (go_at_call 124; (with_reducible refine (C3.out _).mono ?_); rintro e w8 ⟨rfl, rfl⟩))
          go_ret
          exact ⟨ret_bool ((HY.out.trans HI.out)).symm, HQ.out⟩
         ·cases b5
          ·go_wp2_with (first
            | (go_at_call 124; (with_reducible refine (C1.out _).mono ?_); rintro e w8 ⟨rfl, rfl⟩)
            | (go_at_call 124; (with_reducible refine (C3.out _).mono ?_); rintro e w8 ⟨rfl, rfl⟩))
           go_ret
           exact ⟨ret_bool ((HY.out.trans HI.out)).symm, HQ.out⟩
          ·go_wp2_with (first
            | (go_at_call 124; (with_reducible refine (C1.out _).mono ?_); rintro e w8 ⟨rfl, rfl⟩)
            | (go_at_call 124; (with_reducible refine (C3.out _).mono ?_); rintro e w8 ⟨rfl, rfl⟩))
           go_ret
           exact ⟨ret_bool ((HY.out.trans HI.out)).symm, HQ.out⟩
       ·cases b4
        ·go_wp2_with (first
          | (go_at_call 124; (with_reducible refine (C1.out _).mono ?_); rintro e w8 ⟨rfl, rfl⟩)
          | (go_at_call 124; (with_reducible refine (C3.out _).mono ?_); rintro e w8 ⟨rfl, rfl⟩))
         go_ret
         exact ⟨ret_bool ((HY.out.trans HI.out)).symm, HQ.out⟩
        ·cases b5
         ·go_wp2_with (first
           | (go_at_call 124; (with_reducible refine (C1.out _).mono ?_); rintro e w8 ⟨rfl, rfl⟩)
           | (go_at_call 124; (with_reducible refine (C3.out _).mono ?_); rintro e w8 ⟨rfl, rfl⟩))
          go_ret
          exact ⟨ret_bool ((HY.out.trans HI.out)).symm, HQ.out⟩
         ·go_wp2_with (first
           | (go_at_call 124; (with_reducible refine (C1.out _).mono ?_); rintro e w8 ⟨rfl, rfl⟩)
           | (go_at_call 124; (with_reducible refine (C3.out _).mono ?_); rintro e w8 ⟨rfl, rfl⟩))
          go_ret
          exact ⟨ret_bool ((HY.out.trans HI.out)).symm, HQ.out⟩
    ·have HI := Lib.hid (show y = (wordS 2 2 x.a && (wordS 3 8 x.b && (wordS 3 8 x.l && (noneS x.s && (noneS x.r))))) from hri)
     clear hri
     have C1 := Lib.hid (fun w' => show Calls Tryz.prog 118 #[.string x.a, .int .i64 2, .int .i64 2] w' fun e w'' => e = .returned (.bool (wordS 2 2 x.a)) ∧ w' = w'' from word_ref x.a 2 2 w' (by omega))
     have C2 := Lib.hid (fun w' => show Calls Tryz.prog 118 #[.string x.b, .int .i64 3, .int .i64 8] w' fun e w'' => e = .returned (.bool (wordS 3 8 x.b)) ∧ w' = w'' from word_ref x.b 3 8 w' (by omega))
     have C3 := Lib.hid (fun w' => show Calls Tryz.prog 118 #[.string x.l, .int .i64 3, .int .i64 8] w' fun e w'' => e = .returned (.bool (wordS 3 8 x.l)) ∧ w' = w'' from word_ref x.l 3 8 w' (by omega))
     have hn4 := none_bool x.s
     have hn5 := none_bool x.r
     generalize wordS 2 2 x.a = b0 at *
     generalize wordS 3 8 x.b = b1 at *
     generalize wordS 3 8 x.l = b2 at *
     generalize noneS x.s = b3 at *
     generalize noneS x.r = b4 at *
     cases b0
     ·go_wp2_with (first
       | (go_at_call 118; (with_reducible refine (C1.out _).mono ?_); rintro e w8 ⟨rfl, rfl⟩)
       | (go_at_call 118; (with_reducible refine (C2.out _).mono ?_); rintro e w8 ⟨rfl, rfl⟩)
       | (go_at_call 118; (with_reducible refine (C3.out _).mono ?_); rintro e w8 ⟨rfl, rfl⟩))
      go_ret
      exact ⟨ret_bool ((HY.out.trans HI.out)).symm, HQ.out⟩
     ·cases b1
      ·go_wp2_with (first
        | (go_at_call 118; (with_reducible refine (C1.out _).mono ?_); rintro e w8 ⟨rfl, rfl⟩)
        | (go_at_call 118; (with_reducible refine (C2.out _).mono ?_); rintro e w8 ⟨rfl, rfl⟩)
        | (go_at_call 118; (with_reducible refine (C3.out _).mono ?_); rintro e w8 ⟨rfl, rfl⟩))
       go_ret
       exact ⟨ret_bool ((HY.out.trans HI.out)).symm, HQ.out⟩
      ·cases b2
       ·go_wp2_with (first
         | (go_at_call 118; (with_reducible refine (C1.out _).mono ?_); rintro e w8 ⟨rfl, rfl⟩)
         | (go_at_call 118; (with_reducible refine (C2.out _).mono ?_); rintro e w8 ⟨rfl, rfl⟩)
         | (go_at_call 118; (with_reducible refine (C3.out _).mono ?_); rintro e w8 ⟨rfl, rfl⟩))
        go_ret
        exact ⟨ret_bool ((HY.out.trans HI.out)).symm, HQ.out⟩
       ·cases b3
        ·go_wp2_with (first
          | (go_at_call 118; (with_reducible refine (C1.out _).mono ?_); rintro e w8 ⟨rfl, rfl⟩)
          | (go_at_call 118; (with_reducible refine (C2.out _).mono ?_); rintro e w8 ⟨rfl, rfl⟩)
          | (go_at_call 118; (with_reducible refine (C3.out _).mono ?_); rintro e w8 ⟨rfl, rfl⟩))
         go_ret
         exact ⟨ret_bool ((HY.out.trans HI.out)).symm, HQ.out⟩
        ·cases b4
         ·go_wp2_with (first
           | (go_at_call 118; (with_reducible refine (C1.out _).mono ?_); rintro e w8 ⟨rfl, rfl⟩)
           | (go_at_call 118; (with_reducible refine (C2.out _).mono ?_); rintro e w8 ⟨rfl, rfl⟩)
           | (go_at_call 118; (with_reducible refine (C3.out _).mono ?_); rintro e w8 ⟨rfl, rfl⟩))
          go_ret
          exact ⟨ret_bool ((HY.out.trans HI.out)).symm, HQ.out⟩
         ·go_wp2_with (first
           | (go_at_call 118; (with_reducible refine (C1.out _).mono ?_); rintro e w8 ⟨rfl, rfl⟩)
           | (go_at_call 118; (with_reducible refine (C2.out _).mono ?_); rintro e w8 ⟨rfl, rfl⟩)
           | (go_at_call 118; (with_reducible refine (C3.out _).mono ?_); rintro e w8 ⟨rfl, rfl⟩))
          go_ret
          exact ⟨ret_bool ((HY.out.trans HI.out)).symm, HQ.out⟩
   ·have hn1 : (x.k == 1) = false := by rw [beq_eq_false_iff_ne]; omega
    have hn2 : (x.k == 2) = false := by rw [beq_eq_false_iff_ne]; omega
    have hn3 : (x.k == 3) = false := by rw [beq_eq_false_iff_ne]; omega
    have hn4 : (x.k == 4) = false := by rw [beq_eq_false_iff_ne]; omega
    have hn5 : (x.k == 5) = false := by rw [beq_eq_false_iff_ne]; omega
    have hn6 : (x.k == 6) = false := by rw [beq_eq_false_iff_ne]; omega
    have hn7 : (x.k == 7) = false := by rw [beq_eq_false_iff_ne]; omega
    have HE := Lib.hid (show rightA x = false by unfold rightA; rw [decide_eq_false hk1]; rfl)
    clear hk1 hall
    generalize x.k = n at *
    go_wp2
    go_ret
    exact ⟨ret_bool HE.out.symm, HQ.out⟩
end Go.Proofs.YtgjifikahlmioaaGreatDoor
