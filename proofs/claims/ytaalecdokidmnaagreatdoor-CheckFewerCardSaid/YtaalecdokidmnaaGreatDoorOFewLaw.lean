/-
  CheckFewer: an image that may be used may be with fewer aliases, too. (Printed by wip/gen_ofew.py.)
-/
import Derived.Test.YtaalecdokidmnaaGreatDoorOAwake
import Derived.Deep.RegionLawGrows
import Derived.Deep.AppendLies
namespace Go.Proofs.YtaalecdokidmnaaGreatDoor
open Go Go.RowKit

/-! In plain words. -/
theorem hasN_sub {T T' : List Kn} (h : ∀ x ∈ T', x ∈ T) {k : Int} {p : ByteArray × ByteArray} (hf : hasN T k p = false) : hasN T' k p = false := by
  unfold hasN at hf ⊢
  rw [List.any_eq_false] at hf ⊢
  exact fun x hx => hf x (h x hx)
theorem finalN_sub {T T' : List Kn} (h : ∀ x ∈ T', x ∈ T) {k : Int} {a b : ByteArray} (hf : finalN T k a b = true) : finalN T' k a b = true := by
  unfold finalN at hf ⊢
  split at hf
  · rename_i h3
    rw [if_pos h3]
    rw [Bool.and_eq_true, Bool.not_eq_true', Bool.not_eq_true'] at hf ⊢
    exact ⟨hasN_sub h hf.1, hasN_sub h hf.2⟩
  · rename_i h3
    rw [if_neg h3]
    split at hf
    · rename_i h4
      rw [if_pos h4]
      rw [Bool.not_eq_true'] at hf ⊢
      exact hasN_sub h hf
    · rename_i h4
      rw [if_neg h4]
theorem fineN_sub {T T' : List Kn} (h : ∀ x ∈ T', x ∈ T) {k : Int} {s : ByteArray} (hf : fineN T k s = true) : fineN T' k s = true := by
  unfold fineN at hf ⊢
  rw [Bool.or_eq_true] at hf ⊢
  exact hf.imp id (finalN_sub h)
theorem endsN_sub {T T' : List Kn} (h : ∀ x ∈ T', x ∈ T) {x : Al} (hf : endsN T x = true) : endsN T' x = true := by
  unfold endsN at hf ⊢
  split at hf
  · rename_i h6
    rw [if_pos h6]
    exact fineN_sub h hf
  · rename_i h6
    rw [if_neg h6]
    split at hf
    · rename_i h7
      rw [if_pos h7]
      exact finalN_sub h hf
    · rename_i h7
      rw [if_neg h7]
      rw [Bool.and_eq_true, Bool.and_eq_true] at hf ⊢
      exact ⟨fineN_sub h hf.1, fineN_sub h hf.2.1, fineN_sub h hf.2.2⟩
theorem chk_fewer {im : Im} {L : List Al} (hL : L.Sublist im.als) (h : chkE im = none) : chkE { im with als := L } = none := by
  rw [chkE_none] at h ⊢
  obtain ⟨he, hm⟩ := h
  refine ⟨SubI.none (b := im) ⟨hL, List.Sublist.refl _, List.Sublist.refl _, List.Sublist.refl _, rfl, rfl⟩ he, fun j hj i hi => ?_⟩
  rcases four j hj with rfl | rfl | rfl | rfl
  · obtain ⟨x, hx⟩ : ∃ x, L[i]? = some x := ⟨_, List.getElem?_eq_getElem hi⟩
    have hx' : (show Im from { im with als := L }).als[i]? = some x := hx
    rw [holds_0 hx']
    obtain ⟨n, hn⟩ := List.getElem?_of_mem (hL.subset (List.mem_of_getElem? hx))
    have := hm 0 (by decide) n (List.getElem?_eq_some_iff.1 hn).1
    rw [holds_0 hn] at this
    exact endsN_sub (fun z hz => by obtain ⟨y, hy, rfl⟩ := List.mem_map.1 hz; exact List.mem_map.2 ⟨y, hL.subset hy, rfl⟩) this
  · exact hm 1 (by decide) i hi
  · exact hm 2 (by decide) i hi
  · exact hm 3 (by decide) i hi

/-! In memory: the image, and the one with fewer aliases. -/
structure FwI (w wr : World) (I X b : Nat) (im : Im) (va vl vr vm v0 : Value) (L : List Al) : Prop where
  i : wr.heap[I]? = some (.cells #[va, vl, vr, vm, .int .i64 im.th, .int .i64 im.de] 34 (0, 0))
  x : wr.heap[X]? = some (.cells #[v0, vl, vr, vm, .int .i64 im.th, .int .i64 im.de] 34 (0, 0))
  o : Own4 wr b im va vl vr vm
  a : wr.ownsRow (X + 1) 37 6 v0 L.length ((L.map alC).flatMap id)
  s : ∀ x ∈ L, AlS x
  bel : Below w.heap.size w wr
  lX : w.heap.size ≤ X
  ne : I < X
  lo : ∀ g, va.ownBlock = some g → g < X
theorem FwI.below {w wr w' : World} {I X b : Nat} {im : Im} {va vl vr vm v0 : Value} {L : List Al} (h : FwI w wr I X b im va vl vr vm v0 L) (hb : Below wr.heap.size wr w') : FwI w w' I X b im va vl vr vm v0 L :=
  { h with i := (hb.block _ (lt_of_block h.i)).trans h.i, x := (hb.block _ (lt_of_block h.x)).trans h.x, o := h.o.below hb, a := own_belowW h.a hb, bel := h.bel.trans (hb.mono h.bel.size) }
theorem FwI.grown {w wr w2 : World} {I X b : Nat} {im : Im} {va vl vr vm v0 : Value} {L : List Al} {o : Obj} (h : FwI w wr I X b im va vl vr vm v0 L) (hg : (wr.alloc o).grownBy w2 v0.ownBlock) :
    w2.heap[I]? = some (.cells #[va, vl, vr, vm, .int .i64 im.th, .int .i64 im.de] 34 (0, 0)) ∧ w2.heap[X]? = some (.cells #[v0, vl, vr, vm, .int .i64 im.th, .int .i64 im.de] 34 (0, 0)) ∧ Below w.heap.size w w2 ∧ Own4 w2 b im va vl vr vm := by
  have li := lt_of_block h.i
  have lx := lt_of_block h.x
  have hne := h.ne
  have hlX := h.lX
  have hlt : ∀ r, v0.ownBlock = some r → X + 1 ≤ r := fun r e => (h.a.lt r e).1
  refine ⟨(hg.block _ (by simp; omega) (fun e => by have := hlt I e.symm; omega)).trans ((Below.heap_alloc _ _ _ li).trans h.i), (hg.block _ (by simp; omega) (fun e => by have := hlt X e.symm; omega)).trans ((Below.heap_alloc _ _ _ lx).trans h.x),
    (h.bel.alloc h.bel.size o).grown hg (by have := h.bel.size; simp; omega) (fun r e => by have := hlt r e; omega), ?_⟩
  have ha : va.ownBlock = none ∨ va.ownBlock ≠ v0.ownBlock := by
    cases hv : va.ownBlock with
    | none => exact .inl rfl
    | some g => exact .inr fun e => by have := h.lo g hv; have := hlt g e.symm; omega
  exact ⟨(h.o.a.alloc o).kept hg ha, (h.o.l.alloc o).kept hg (own_typesZ (h.o.l.alloc o) (h.a.alloc o) (by decide)), (h.o.r.alloc o).kept hg (own_typesZ (h.o.r.alloc o) (h.a.alloc o) (by decide)), (h.o.m.alloc o).kept hg (own_typesZ (h.o.m.alloc o) (h.a.alloc o) (by decide)), h.o.s⟩
theorem FwI.push {w wr w2 : World} {I X b n : Nat} {im : Im} {va vl vr vm v0 v' : Value} {L : List Al} {y : Al} {o : Obj} (h : FwI w wr I X b im va vl vr vm v0 L) (hg : (wr.alloc o).grownBy w2 v0.ownBlock)
    (h1 : w2.ownsRow (X + 1) 37 6 v' n ((L.map alC).flatMap id ++ alC y)) (hn : n = L.length + 1) (hy : AlS y) : FwI w (w2.setCell ⟨X, 0, none⟩ v') I X b im va vl vr vm v' (L ++ [y]) := by
  obtain ⟨g1, g2, g3, g4⟩ := h.grown hg
  subst hn
  have hne := h.ne
  refine ⟨(heap_setCellZ (by omega)).trans g1, setY g2 v', g4.kept (gr_setZ gr_reflZ 0 v') g2, own_setZ ?_ _ _, fun x hx => ?_, g3.setCell (p := ⟨X, 0, none⟩) h.lX v', h.lX, h.ne, h.lo⟩
  · rw [List.length_append, List.map_append, List.flatMap_append]
    simpa using h1
  · rcases List.mem_append.1 hx with hx | hx
    · exact h.s x hx
    · obtain rfl := List.mem_singleton.1 hx
      exact hy
theorem FwI.two {w wr : World} {I X b : Nat} {im : Im} {va vl vr vm v0 : Value} {L : List Al} (h : FwI w wr I X b im va vl vr vm v0 L) : ImR wr va vl vr vm im ∧ ImR wr v0 vl vr vm { im with als := L } :=
  ⟨h.o.rows, rowC_own (by rw [List.length_map]; exact h.a) (alC_all L), h.o.rows.l, h.o.rows.r, h.o.rows.m⟩
/-- Which aliases are kept. -/
def keepL (bits : Int) : Nat → List Al → List Al
  | _, [] => []
  | n, x :: l => if Go.bits .and .i64 (bits / 2 ^ n) 1 = 0 then x :: keepL bits (n + 1) l else keepL bits (n + 1) l
theorem keep_sub (bits : Int) : ∀ (n : Nat) (l : List Al), (keepL bits n l).Sublist l
  | _, [] => List.Sublist.refl _
  | n, x :: l => by
    unfold keepL
    split
    · exact (keep_sub bits (n + 1) l).cons_cons x
    · exact (keep_sub bits (n + 1) l).cons x
theorem sub_snoc {l L : List Al} {n : Nat} {x : Al} (h : L.Sublist (l.take n)) (hx : l[n]? = some x) : (L ++ [x]).Sublist (l.take (n + 1)) ∧ L.Sublist (l.take (n + 1)) := by
  rw [List.take_add_one, hx]
  exact ⟨h.append (List.Sublist.refl _), h.trans (List.sublist_append_left _ _)⟩

set_option maxRecDepth 100000 in
set_option maxHeartbeats 16000000 in
theorem checkFewer_law (S : SeedZ) (va0 vl0 vr0 vm0 : Value) (bits : Int) (w : World) (hS : SdR w va0 vl0 vr0 vm0 S) (hL : TypeLaid w ∧ GL w) :
    Calls Tryz.prog 4 #[.agg #[va0, vl0, vr0, vm0, .int .i64 S.th, .int .i64 S.de, .int .i64 S.odd], .int .i64 bits] w fun e w' => e = .returned (.bool true) ∧ Below w.heap.size w w' := by
  obtain ⟨hT, hg⟩ := hL
  obtain ⟨W1, hW1⟩ : ∃ W1, w.alloc (.cells #[va0, vl0, vr0, vm0, .int .i64 S.th, .int .i64 S.de, .int .i64 S.odd] 25) = W1 := ⟨_, rfl⟩
  have hb1 : Below w.heap.size w W1 := by rw [← hW1]; exact (Below.refl _ w).alloc (Nat.le_refl _) _
  have hA : W1.heap[w.heap.size]? = some (.cells #[va0, vl0, vr0, vm0, .int .i64 S.th, .int .i64 S.de, .int .i64 S.odd] 25 (0, 0)) := by rw [← hW1]; exact World.alloc_heap_new w _
  have H7 := Lib.hid (fun w' (h : Below W1.heap.size W1 w') => cells7 ((h.block _ (lt_of_block hA)).trans hA))
  have HAW := Lib.hid (awake14_any W1 (hT.below hb1 hT.size) (hg.below hb1 hg.size))
  have HMD := Lib.hid (fun w' (h : Below W1.heap.size W1 w') => made13_any S va0 vl0 vr0 vm0 w' (hS.below (hb1.trans (h.mono hb1.size))))
  have HGL := Lib.hid (fun w' (h : Below w.heap.size w w') => hg.below h hg.size)
  have HB1 := Lib.hid hb1
  have HW1 := Lib.hid hW1
  clear hW1 hA hb1 hS hg hT
  go_enter Tryz.func4, Tryz.ntmps4
  go_upto_region 1 with fail
  rw [HW1.out]
  go_upto_region 2 with (go_at_call 7; (with_reducible refine HAW.out.mono ?_); rintro e w2 ⟨rfl, hb2⟩)
  obtain ⟨d0, d1, d2, d3, d4, d5, d6⟩ := H7.out _ hb2
  have HM2 := Lib.hid (HMD.out _ hb2)
  have HB2 := Lib.hid (HB1.out.trans (hb2.mono HB1.out.size))
  clear hb2
  go_upto_region 3 with (go_at_call 8; (with_reducible refine HM2.out.mono ?_); intro e w5 hE; unfold MdE ImO at hE; obtain ⟨im0, hBI, va, vl, vr, vm, rfl, hO5, hb5⟩ := hE; obtain ⟨a1, c1, a2, c2, a3, c3, a4, c4, h1, h2, h3, h4⟩ := hO5.rows.slices; subst h1 h2 h3 h4)
  have hFW := hBI.few (restV S.odd 12)
  generalize spI im0 (restV S.odd 12) = im at *
  obtain ⟨W6, hW6⟩ : ∃ W6, w5.alloc (.cells #[.slice a1 (cntN im 0) c1, .slice a2 (cntN im 1) c2, .slice a3 (cntN im 2) c3, .slice a4 (cntN im 3) c4, .int .i64 im.th, .int .i64 im.de] 34) = W6 := ⟨_, rfl⟩
  have hI6 : W6.heap[w5.heap.size]? = some (.cells #[.slice a1 (cntN im 0) c1, .slice a2 (cntN im 1) c2, .slice a3 (cntN im 2) c3, .slice a4 (cntN im 3) c4, .int .i64 im.th, .int .i64 im.de] 34 (0, 0)) := by rw [← hW6]; exact World.alloc_heap_new _ _
  have hs6 : W6.heap.size = w5.heap.size + 1 := by rw [← hW6]; simp
  have hb6 : Below w5.heap.size w5 W6 := by rw [← hW6]; exact (Below.refl _ _).alloc (Nat.le_refl _) _
  have hO6 := hO5.below hb6
  have hB6 : Below w.heap.size w W6 := (HB2.out.trans (hb5.mono HB2.out.size)).trans (hb6.mono (Nat.le_trans HB2.out.size hb5.size))
  have hlo : ∀ g, (Value.slice a1 (cntN im 0) c1).ownBlock = some g → g < w5.heap.size := fun g e => (hO5.a.lt g e).2
  have hBX : w.heap.size ≤ w5.heap.size := Nat.le_trans HB2.out.size hb5.size
  rw [hW6]
  have HS6 := Lib.hid hs6
  clear hs6 hW6 hb6 hO5 hBI d0 d1 d2 d3 d4 d5 d6 HM2 HMD HAW hb5
  obtain ⟨z0, z1, z2, z3, z4, z5⟩ := cells6 hI6
  go_upto_region 4 with fail
  obtain ⟨W7, hW7⟩ : ∃ W7, W6.alloc (.cells #[.slice a1 (cntN im 0) c1, .slice a2 (cntN im 1) c2, .slice a3 (cntN im 2) c3, .slice a4 (cntN im 3) c4, .int .i64 im.th, .int .i64 im.de] 34) = W7 := ⟨_, rfl⟩
  have hX7 : W7.heap[W6.heap.size]? = some (.cells #[.slice a1 (cntN im 0) c1, .slice a2 (cntN im 1) c2, .slice a3 (cntN im 2) c3, .slice a4 (cntN im 3) c4, .int .i64 im.th, .int .i64 im.de] 34 (0, 0)) := by rw [← hW7]; exact World.alloc_heap_new _ _
  have hb7 : Below W6.heap.size W6 W7 := by rw [← hW7]; exact (Below.refl _ _).alloc (Nat.le_refl _) _
  have hI7 := (hb7.block _ (lt_of_block hI6)).trans hI6
  have hO7 := hO6.below hb7
  have hB7 : Below w.heap.size w W7 := hB6.trans (hb7.mono hB6.size)
  rw [hW7]
  have f7 := frozenY hX7 0
  have hX8 := setY hX7 (k := 0) (.slice none 0 0)
  have HF0 := Lib.hid (show FwI w (W7.setCell ⟨W6.heap.size, 0, none⟩ (.slice none 0 0)) w5.heap.size W6.heap.size w2.heap.size im (.slice a1 (cntN im 0) c1) (.slice a2 (cntN im 1) c2) (.slice a3 (cntN im 2) c3) (.slice a4 (cntN im 3) c4) (.slice none 0 0) [] from
    ⟨(heap_setCellZ (by have := HS6.out; omega)).trans hI7, hX8, hO7.kept (gr_setZ gr_reflZ 0 _) hX7, World.ownsRow_nil _ _ _ _, (fun x hx => by cases hx), hB7.setCell (p := ⟨W6.heap.size, 0, none⟩) (show w.heap.size ≤ W6.heap.size by have := HS6.out; omega) _, by have := HS6.out; omega, by have := HS6.out; omega, fun g e => by have := hlo g e; have := HS6.out; omega⟩)
  clear z0 z1 z2 z3 z4 z5
  obtain ⟨z0, z1, z2, z3, z4, z5⟩ := cells6 hX7
  clear hW7 hX7 hb7 hI7 hO7 hB7 hX8 hI6 hO6 hB6 hlo HS6
  generalize w5.heap.size = nI at *
  generalize W6.heap.size = nX at *
  generalize w2.heap.size = b at *
  generalize (Value.slice a1 (cntN im 0) c1) = va at *
  generalize (Value.slice a2 (cntN im 1) c2) = vl at *
  generalize (Value.slice a3 (cntN im 2) c3) = vr at *
  generalize (Value.slice a4 (cntN im 3) c4) = vm at *
  go_upto_region 5 with fail
  generalize W7.setCell ⟨nX, 0, none⟩ (.slice none 0 0) = W8 at *
  clear z0 z1 z2 z3 z4 z5 f7 HB2 hBX
  go_wp2_with fail
  have HFW := Lib.hid hFW
  clear hFW
  go_loopw [8] (fun i wr => ∃ (n : Nat) (L : List Al) (v0 : Value), n ≤ im.als.length ∧ i = .int .i64 (n : Int) ∧ L.Sublist (im.als.take n) ∧ FwI w wr nI nX b im va vl vr vm v0 L) (fun i _ => im.als.length - (intOf i).toNat)
  case atStart => exact ⟨0, [], _, Nat.zero_le _, rfl, List.Sublist.refl _, HF0.out⟩
  case round =>
    obtain ⟨n, L, v0, hn, rfl, hsub, hF⟩ := hrel
    clear HF0
    obtain ⟨z0, z1, z2, z3, z4, z5⟩ := cells6 hF.i
    obtain ⟨a1, c1, hva, hcc⟩ := hF.o.rows.a.openO
    subst hva
    have hle := HFW.out.a
    by_cases hlt : n < im.als.length
    · have hlt' : (n : Int) < (im.als.length : Int) := by omega
      have hn0 : (0 : Int) ≤ (n : Int) := by omega
      obtain ⟨y, hy⟩ : ∃ y, im.als[n]? = some y := ⟨_, List.getElem?_eq_getElem hlt⟩
      have HSN := Lib.hid (sub_snoc hsub hy)
      have HYS := Lib.hid (hF.o.s.als y (List.mem_of_getElem? hy))
      have HLL := Lib.hid (show L.length ≤ n by have := hsub.length_le; rw [List.length_take] at this; omega)
      by_cases hz : Go.bits .and .i64 (bits / 2 ^ n) 1 = 0
      · obtain ⟨g, o, rfl, hc⟩ := hcc n y hy
        obtain ⟨w0a, w0n, w0c, rfl⟩ := own_sliceZ hF.a
        obtain ⟨-, hw0⟩ : True ∧ w0n = L.length := ⟨trivial, (own_lenZ hF.a).1⟩
        subst hw0
        have HM := Lib.hid hF
        have HD := Lib.hid (hF.below (Below.drew (Below.refl _ _)))
        have HA := Lib.hid ((hF.below ((Below.refl _ _).alloc (Nat.le_refl _) (.cells #[.int .i64 y.k, .string y.a, .string y.b, .string y.l, .string y.s, .string y.r] 37))).below (Below.drew (Below.refl _ _)))
        obtain ⟨x0, x1, x2, x3, x4, x5⟩ := cells6 HD.out.i
        obtain ⟨y0, y1, y2, y3, y4, y5⟩ := cells6 HD.out.x
        obtain ⟨t0, -, -, -, -, -⟩ := cells6 HA.out.x
        obtain ⟨s0, -, -, -, -, -⟩ := cells6 HA.out.i
        have e0 : wr.drew.cell? ⟨g, o + n * 6, none⟩ = some (.int .i64 y.k) := hc 0 _ rfl
        have e1 : wr.drew.cell? ⟨g, o + n * 6 + 1, none⟩ = some (.string y.a) := hc 1 _ rfl
        have e2 : wr.drew.cell? ⟨g, o + n * 6 + 2, none⟩ = some (.string y.b) := hc 2 _ rfl
        have e3 : wr.drew.cell? ⟨g, o + n * 6 + 3, none⟩ = some (.string y.l) := hc 3 _ rfl
        have e4 : wr.drew.cell? ⟨g, o + n * 6 + 4, none⟩ = some (.string y.s) := hc 4 _ rfl
        have e5 : wr.drew.cell? ⟨g, o + n * 6 + 5, none⟩ = some (.string y.r) := hc 5 _ rfl
        have hnb : (wr.alloc (.cells #[.int .i64 y.k, .string y.a, .string y.b, .string y.l, .string y.s, .string y.r] 37)).drew.heap[wr.heap.size]? = some (.cells #[.int .i64 y.k, .string y.a, .string y.b, .string y.l, .string y.s, .string y.r] 37 (0, 0)) := World.alloc_heap_new wr _
        have HNB := Lib.hid hnb
        have hlw := lt_of_block hF.x
        have hls : (wr.alloc (.cells #[.int .i64 y.k, .string y.a, .string y.b, .string y.l, .string y.s, .string y.r] 37)).drew.heap.size = wr.heap.size + 1 := by simp
        have HLSz := Lib.hid hls
        obtain ⟨i0, hi, hz0, hz1, hz2⟩ := info_parts alInfo
        clear hF hnb hls hc hcc hy hsub
        go_upto_region 9 with fail
        clear z0 z1 z2 z3 z4 z5
        go_region_law (refine step_append_lies _ rfl _ _ 29 rfl (nX + 1) 37 i0 (.agg #[.int .i64 0, .string ByteArray.empty, .string ByteArray.empty, .string ByteArray.empty, .string ByteArray.empty, .string ByteArray.empty]) 6 88 Tryz.underlying29 hi hz0 hz1 hz2 rfl (by decide) (.slice w0a L.length w0c) L.length ((L.map alC).flatMap id) rfl HA.out.a ⟨_, 0, none⟩ 1 1 [.int .i64 y.k, .string y.a, .string y.b, .string y.l, .string y.s, .string y.r] rfl rfl (World.news_of_block HNB.out) (fun u hu => List.all_eq_true.1 (show ([.int .i64 y.k, .string y.a, .string y.b, .string y.l, .string y.s, .string y.r] : List Value).all (·.oneCell') = true from rfl) u hu) (by decide) (by unfold maxLen; have := HLL.out; omega) (by have := HLL.out; omega) (by rw [HLSz.out]; omega) (wr.heap.size + 1) HLSz.out ?_; intro g7 cap7 w7 hown7 hgrow7 hor7 _; obtain ⟨g1, g2, -, -⟩ := HM.out.grown (o := (.cells #[.int .i64 y.k, .string y.a, .string y.b, .string y.l, .string y.s, .string y.r] 37)) ⟨hgrow7.os, hgrow7.tape, hgrow7.output, hgrow7.size, hgrow7.block⟩; obtain ⟨q0, q1, q2, q3, q4, q5⟩ := cells6 g2; have f7 := frozenY g2 0; have HX7 := Lib.hid (HM.out.push (y := y) (o := (.cells #[.int .i64 y.k, .string y.a, .string y.b, .string y.l, .string y.s, .string y.r] 37)) ⟨hgrow7.os, hgrow7.tape, hgrow7.output, hgrow7.size, hgrow7.block⟩ hown7 rfl HYS.out); clear g1 g2 hgrow7 hown7 hor7)
        all_goals (try go_wp2_with fail)
        all_goals go_roundw
        any_goals (simp [intOf]; omega)
        all_goals exact ⟨n + 1, L ++ [y], _, by omega, by go_num, HSN.out.1, HX7.out⟩
      · have HF := Lib.hid hF
        clear hF hcc hy hsub
        go_wp2_with fail
        go_roundw
        case rel => exact ⟨n + 1, L, v0, by omega, by go_num, HSN.out.2, HF.out⟩
        case measure => simp [intOf]; omega
    · obtain rfl : n = im.als.length := by omega
      have hki : ¬ (im.als.length : Int) < (im.als.length : Int) := by omega
      have hsub' : L.Sublist im.als := by rw [List.take_length] at hsub; exact hsub
      obtain ⟨l1, m1, hvl, -⟩ := hF.o.rows.l.openO
      obtain ⟨l2, m2, hvr, -⟩ := hF.o.rows.r.openO
      obtain ⟨l3, m3, hvm, -⟩ := hF.o.rows.m.openO
      subst hvl hvr hvm
      have h2 := hF.two
      obtain ⟨l0, m0, hv0, -⟩ := h2.2.a.openO
      dsimp only at hv0
      subst hv0
      have HC := Lib.hid (chkO_any a1 l1 l2 l3 c1 m1 m2 m3 im wr h2.1 hF.o.s (HGL.out _ hF.bel))
      have HD := Lib.hid (fun w' (hb : Below wr.heap.size wr w') (hc : chkE im = none) => show Calls Tryz.prog 10 #[.agg #[.slice l0 L.length m0, .slice l1 im.lks.length m1, .slice l2 im.rls.length m2, .slice l3 im.mbs.length m3, .int .i64 im.th, .int .i64 im.de]] w' (fun e w'' => e = .returned .nilIface ∧ Below w'.heap.size w' w'') from
        checkNil_any l0 l1 l2 l3 m0 m1 m2 m3 { im with als := L } w' (h2.2.below hb) { hF.o.s with als := hF.s } (HGL.out _ (hF.bel.trans (hb.mono hF.bel.size))) (chk_fewer hsub' hc))
      have HC := Lib.hid (show Calls Tryz.prog 10 #[.agg #[.slice a1 im.als.length c1, .slice l1 im.lks.length m1, .slice l2 im.rls.length m2, .slice l3 im.mbs.length m3, .int .i64 im.th, .int .i64 im.de]] wr (fun e w' => ∃ v, e = .returned v ∧ EncZ w' v (chkE im) ∧ Below wr.heap.size wr w') from HC.out)
      have HX := Lib.hid (fun w' (hb : Below wr.heap.size wr w') => cells6 ((hb.block _ (lt_of_block hF.x)).trans hF.x))
      have HBL := Lib.hid hF.bel
      clear hF h2 hcc hsub hsub'
      cases hc : chkE im with
      | some z =>
        obtain ⟨zk, zp, zs⟩ := z
        rw [hc] at HC
        clear hc HD
        go_wp2_with (go_at_call 10; (with_reducible refine HC.out.mono ?_); rintro e w5 ⟨v5, rfl, hz5, hb5⟩; obtain ⟨q5, rfl, hq5⟩ : FaultZ w5 v5 zk zp zs := hz5)
        go_ret
        exact ⟨rfl, HBL.out.trans (hb5.mono HBL.out.size)⟩
      | none =>
        have HD2 := Lib.hid (fun w' hb => HD.out w' hb hc)
        rw [hc] at HC
        clear hc HD
        go_wp2_with (first
          | (go_at_call 10; (with_reducible refine HC.out.mono ?_); rintro e w5 ⟨v5, rfl, hz5, hb5⟩; obtain rfl : v5 = .nilIface := hz5; obtain ⟨x0, x1, x2, x3, x4, x5⟩ := HX.out _ hb5)
          | (go_at_call 10; (with_reducible refine (HD2.out _ hb5).mono ?_); rintro e w6 ⟨rfl, hb6⟩))
        go_ret
        exact ⟨rfl, HBL.out.trans ((hb5.trans (hb6.mono hb5.size)).mono HBL.out.size)⟩
end Go.Proofs.YtaalecdokidmnaaGreatDoor
