/-
  ImageLess: an image with one thing less has bytes that are just so many fewer. (Printed by wip/gen_zless.py.)
-/
import Derived.Test.YtgjifikahlmioaaGreatDoorZRot
import Derived.Test.YtgjifikahlmioaaGreatDoorZLessM
import Derived.Test.YtgjifikahlmioaaGreatDoorWApp
import Derived.Test.YtgjifikahlmioaaGreatDoorZManyLaw
import Derived.Deep.QuietTactic
import Derived.BigQuiet
import Derived.Deep.CutRange
import Derived.Deep.CutBlock
namespace Go.Proofs.YtgjifikahlmioaaGreatDoor
open Go Go.RowKit

def cutZ {α : Type} (n : Nat) (l : List α) : List α := l.take n ++ l.drop (n + 1)
theorem flat_cutZ {α : Type} {C : α → List Value} {sz : Nat} (n : Nat) (l : List α) (hC : ∀ c ∈ l.map C, c.length = sz) : ((l.take n).map C).flatMap id = ((l.map C).flatMap id).take (n * sz) ∧ ((l.drop n).map C).flatMap id = ((l.map C).flatMap id).drop (n * sz) := by
  have hlen : ∀ (l : List α), (∀ c ∈ l.map C, c.length = sz) → ((l.map C).flatMap id).length = l.length * sz := fun l => by
    induction l with
    | nil => intro _; simp
    | cons x l ih =>
      intro h
      rw [List.map_cons, List.flatMap_cons, List.length_append, ih (fun c hc => h c (List.mem_cons_of_mem _ hc)), List.length_cons, Nat.succ_mul]
      have : (id (C x)).length = sz := h (C x) (by simp)
      omega
  have e : (l.map C).flatMap id = ((l.take n).map C).flatMap id ++ ((l.drop n).map C).flatMap id := by rw [← List.flatMap_append, ← List.map_append, List.take_append_drop]
  by_cases h : n ≤ l.length
  · have h1 : (((l.take n).map C).flatMap id).length = n * sz := by
      rw [hlen _ (fun c hc => by obtain ⟨x, hx, rfl⟩ := List.mem_map.1 hc; exact hC _ (List.mem_map.2 ⟨x, List.mem_of_mem_take hx, rfl⟩)), List.length_take, Nat.min_eq_left h]
    rw [e]
    exact ⟨(List.take_left' h1).symm, (List.drop_left' h1).symm⟩
  · have h1 : l.length ≤ n := by omega
    have h2 := hlen l hC
    have h3 : l.length * sz ≤ n * sz := Nat.mul_le_mul_right _ h1
    rw [List.take_of_length_le h1, List.drop_of_length_le h1, List.take_of_length_le (by omega), List.drop_of_length_le (by omega)]
    exact ⟨rfl, rfl⟩
theorem cut_cellsZ {α : Type} {C : α → List Value} {sz : Nat} (n : Nat) (l : List α) (hC : ∀ c ∈ l.map C, c.length = sz) : ((cutZ n l).map C).flatMap id = ((l.map C).flatMap id).take (n * sz) ++ ((l.map C).flatMap id).drop ((n + 1) * sz) := by
  unfold cutZ
  rw [List.map_append, List.flatMap_append, (flat_cutZ n l hC).1, (flat_cutZ (n + 1) l hC).2]
/-- The image less one thing, in memory. -/
structure LeO (w wr wx : World) (X b : Nat) (xi : Im) (v0 v1 v2 v3 : Value) : Prop where
  x : wx.heap[X]? = some (.cells #[v0, v1, v2, v3, .int .i64 xi.th, .int .i64 xi.de] 33 (0, 0))
  z : Own4 wx b xi v0 v1 v2 v3
  bel : Below w.heap.size w wx
  gr : ∀ i, i < wr.heap.size → i ≠ X → wx.heap[i]? = wr.heap[i]?
theorem TuI.leo {w wx : World} {I X b : Nat} {im : Im} {va vl vr vm : Value} (h : TuI w wx I X b im im va vl vr vm va vl vm) : LeO w wx wx X b im va vl vr vm := ⟨h.x, h.z, h.bel, fun _ _ _ => rfl⟩
theorem TuI.cutA {w wr w8 : World} {I X b n : Nat} {im : Im} {va vl vr vm v' : Value} {l : List Al} (h : TuI w wr I X b im im va vl vr vm va vl vm) (hb : Below wr.heap.size wr w8)
    (hown : w8.ownsRow wr.heap.size 47 6 v' n ((l.map alC).flatMap id)) (hn : n = l.length) (hs : ∀ y ∈ l, AlS y) : LeO w wr (w8.setCell ⟨X, 0, none⟩ v') X b { im with als := l } v' vl vr vm := by
  subst hn
  have h8 := h.below hb
  have hz : Own4 w8 b im va vl vr vm := h8.z
  have hz2 : Own4 w8 b { im with als := l } v' vl vr vm := { l := hz.l, r := hz.r, m := hz.m, a := own_lowW hown h.b0, s := { hz.s with als := hs } }
  exact ⟨setY h8.x v', hz2.kept (gr_setZ gr_reflZ 0 v') h8.x, h8.bel.setCell (p := ⟨X, 0, none⟩) h.lX v', fun i hi hne => (heap_setCellZ hne).trans (hb.block i hi)⟩
theorem TuI.cutL {w wr w8 : World} {I X b n : Nat} {im : Im} {va vl vr vm v' : Value} {l : List Lk} (h : TuI w wr I X b im im va vl vr vm va vl vm) (hb : Below wr.heap.size wr w8)
    (hown : w8.ownsRow wr.heap.size 49 6 v' n ((l.map lkC).flatMap id)) (hn : n = l.length) (hs : ∀ y ∈ l, LkS y) : LeO w wr (w8.setCell ⟨X, 1, none⟩ v') X b { im with lks := l } va v' vr vm := by
  subst hn
  have h8 := h.below hb
  have hz : Own4 w8 b im va vl vr vm := h8.z
  have hz2 : Own4 w8 b { im with lks := l } va v' vr vm := { a := hz.a, r := hz.r, m := hz.m, l := own_lowW hown h.b0, s := { hz.s with lks := hs } }
  exact ⟨setY h8.x v', hz2.kept (gr_setZ gr_reflZ 1 v') h8.x, h8.bel.setCell (p := ⟨X, 1, none⟩) h.lX v', fun i hi hne => (heap_setCellZ hne).trans (hb.block i hi)⟩
theorem TuI.cutR {w wr w8 : World} {I X b n : Nat} {im : Im} {va vl vr vm v' : Value} {l : List Rl} (h : TuI w wr I X b im im va vl vr vm va vl vm) (hb : Below wr.heap.size wr w8)
    (hown : w8.ownsRow wr.heap.size 52 9 v' n ((l.map rlC).flatMap id)) (hn : n = l.length) (hs : ∀ y ∈ l, RlS y) : LeO w wr (w8.setCell ⟨X, 2, none⟩ v') X b { im with rls := l } va vl v' vm := by
  subst hn
  have h8 := h.below hb
  have hz : Own4 w8 b im va vl vr vm := h8.z
  have hz2 : Own4 w8 b { im with rls := l } va vl v' vm := { a := hz.a, l := hz.l, m := hz.m, r := own_lowW hown h.b0, s := { hz.s with rls := hs } }
  exact ⟨setY h8.x v', hz2.kept (gr_setZ gr_reflZ 2 v') h8.x, h8.bel.setCell (p := ⟨X, 2, none⟩) h.lX v', fun i hi hne => (heap_setCellZ hne).trans (hb.block i hi)⟩
theorem TuI.cutM {w wr w8 : World} {I X b n : Nat} {im : Im} {va vl vr vm v' : Value} {l : List Mb} (h : TuI w wr I X b im im va vl vr vm va vl vm) (hb : Below wr.heap.size wr w8)
    (hown : w8.ownsRow wr.heap.size 54 2 v' n ((l.map mbC).flatMap id)) (hn : n = l.length) (hs : ∀ y ∈ l, MbS y) : LeO w wr (w8.setCell ⟨X, 3, none⟩ v') X b { im with mbs := l } va vl vr v' := by
  subst hn
  have h8 := h.below hb
  have hz : Own4 w8 b im va vl vr vm := h8.z
  have hz2 : Own4 w8 b { im with mbs := l } va vl vr v' := { a := hz.a, l := hz.l, r := hz.r, m := own_lowW hown h.b0, s := { hz.s with mbs := hs } }
  exact ⟨setY h8.x v', hz2.kept (gr_setZ gr_reflZ 3 v') h8.x, h8.bel.setCell (p := ⟨X, 3, none⟩) h.lX v', fun i hi hne => (heap_setCellZ hne).trans (hb.block i hi)⟩
def szI (im : Im) : Nat := cntN im 0 * 41 + cntN im 1 * 48 + cntN im 2 * 51 + cntN im 3 * 16
structure LessZ (im xi : Im) (fewer : Nat) : Prop where
  sub : SubI xi im
  sz : szI xi + fewer = szI im
theorem LessZ.refl (im : Im) : LessZ im im 0 := ⟨⟨List.Sublist.refl _, List.Sublist.refl _, List.Sublist.refl _, List.Sublist.refl _, rfl, rfl⟩, Nat.add_zero _⟩
theorem LessZ.cutA {im : Im} {n : Nat} (h : n < im.als.length) : LessZ im { im with als := cutZ n im.als } 41 := by
  refine ⟨⟨cut_subZ n im.als, List.Sublist.refl _, List.Sublist.refl _, List.Sublist.refl _, rfl, rfl⟩, ?_⟩
  have h1 : (cutZ n im.als).length + 1 = im.als.length := cut_lenZ h
  show (cutZ n im.als).length * 41 + im.lks.length * 48 + im.rls.length * 51 + im.mbs.length * 16 + 41 = im.als.length * 41 + im.lks.length * 48 + im.rls.length * 51 + im.mbs.length * 16
  omega
theorem LessZ.cutL {im : Im} {n : Nat} (h : n < im.lks.length) : LessZ im { im with lks := cutZ n im.lks } 48 := by
  refine ⟨⟨List.Sublist.refl _, cut_subZ n im.lks, List.Sublist.refl _, List.Sublist.refl _, rfl, rfl⟩, ?_⟩
  have h1 : (cutZ n im.lks).length + 1 = im.lks.length := cut_lenZ h
  show im.als.length * 41 + (cutZ n im.lks).length * 48 + im.rls.length * 51 + im.mbs.length * 16 + 48 = im.als.length * 41 + im.lks.length * 48 + im.rls.length * 51 + im.mbs.length * 16
  omega
theorem LessZ.cutR {im : Im} {n : Nat} (h : n < im.rls.length) : LessZ im { im with rls := cutZ n im.rls } 51 := by
  refine ⟨⟨List.Sublist.refl _, List.Sublist.refl _, cut_subZ n im.rls, List.Sublist.refl _, rfl, rfl⟩, ?_⟩
  have h1 : (cutZ n im.rls).length + 1 = im.rls.length := cut_lenZ h
  show im.als.length * 41 + im.lks.length * 48 + (cutZ n im.rls).length * 51 + im.mbs.length * 16 + 51 = im.als.length * 41 + im.lks.length * 48 + im.rls.length * 51 + im.mbs.length * 16
  omega
theorem LessZ.cutM {im : Im} {n : Nat} (h : n < im.mbs.length) : LessZ im { im with mbs := cutZ n im.mbs } 16 := by
  refine ⟨⟨List.Sublist.refl _, List.Sublist.refl _, List.Sublist.refl _, cut_subZ n im.mbs, rfl, rfl⟩, ?_⟩
  have h1 : (cutZ n im.mbs).length + 1 = im.mbs.length := cut_lenZ h
  show im.als.length * 41 + im.lks.length * 48 + im.rls.length * 51 + (cutZ n im.mbs).length * 16 + 16 = im.als.length * 41 + im.lks.length * 48 + im.rls.length * 51 + im.mbs.length * 16
  omega
theorem cells2L {W : World} {B : Nat} {a b : Value} {t : TypeId} (h : W.heap[B]? = some (.cells #[a, b] t (0, 0))) : W.cell? ⟨B, 0, none⟩ = some a ∧ W.cell? ⟨B, 1, none⟩ = some b := by simp [World.cell?, h]

set_option maxRecDepth 1000000 in
set_option maxHeartbeats 40000000 in
theorem imageLess_law (S : SeedZ) (va0 vl0 vr0 vm0 : Value) (q0 q1 : Int) (w : World) (hS : SdR w va0 vl0 vr0 vm0 S) (hL : TypeLaid w ∧ GL w) :
    Calls Tryz.prog 4 #[.agg #[va0, vl0, vr0, vm0, .int .i64 S.th, .int .i64 S.de, .int .i64 S.odd], .agg #[.int .i64 q0, .int .i64 q1]] w fun e w' => e = .returned (.bool true) ∧ Below w.heap.size w w' := by
  obtain ⟨hT, hg⟩ := hL
  obtain ⟨W0, hW0⟩ : ∃ W0, w.alloc (.cells #[va0, vl0, vr0, vm0, .int .i64 S.th, .int .i64 S.de, .int .i64 S.odd] 25) = W0 := ⟨_, rfl⟩
  obtain ⟨W1, hW1⟩ : ∃ W1, W0.alloc (.cells #[.int .i64 q0, .int .i64 q1] 26) = W1 := ⟨_, rfl⟩
  have hs0 : W0.heap.size = w.heap.size + 1 := by rw [← hW0]; simp
  have hb0 : Below w.heap.size w W0 := by rw [← hW0]; exact (Below.refl _ w).alloc (Nat.le_refl _) _
  have hb1 : Below w.heap.size w W1 := by rw [← hW1]; exact hb0.alloc hb0.size _
  have hA : W1.heap[w.heap.size]? = some (.cells #[va0, vl0, vr0, vm0, .int .i64 S.th, .int .i64 S.de, .int .i64 S.odd] 25 (0, 0)) := by rw [← hW1]; refine (Below.heap_alloc _ _ _ (by omega)).trans ?_; rw [← hW0]; exact World.alloc_heap_new w _
  have hQ : W1.heap[w.heap.size + 1]? = some (.cells #[.int .i64 q0, .int .i64 q1] 26 (0, 0)) := by rw [← hW1, ← hs0]; exact World.alloc_heap_new W0 _
  have HAW := Lib.hid (awake13_any W1 (hg.below hb1 hg.size))
  have HMD := Lib.hid (fun w' (h : Below w.heap.size w w') => show Calls Tryz.prog 7 #[.agg #[va0, vl0, vr0, vm0, .int .i64 S.th, .int .i64 S.de, .int .i64 0]] w' (MdE w' { S with odd := 0 }) from made13_any { S with odd := 0 } va0 vl0 vr0 vm0 w' ⟨hS.a.below h, hS.l.below h, hS.r.below h, hS.m.below h⟩)
  have HGL := Lib.hid (fun w' (h : Below w.heap.size w w') => hg.below h hg.size)
  have HTL := Lib.hid (fun w' (h : Below w.heap.size w w') => hT.below h hT.size)
  have HB1 := Lib.hid hb1
  have HW1 := Lib.hid (And.intro hW0 (And.intro hW1 hs0))
  have HA := Lib.hid hA
  have HQ := Lib.hid hQ
  clear hW0 hW1 hA hQ hb0 hb1 hS hg hT hs0
  go_enter Tryz.func4, Tryz.ntmps4
  go_upto_region 1 with fail
  try rw [HW1.out.1]
  try rw [HW1.out.2.1]
  try rw [HW1.out.2.2]
  go_upto_region 2 with (go_at_call 6; (with_reducible refine HAW.out.mono ?_); rintro e w2 ⟨rfl, hb2⟩)
  have hA2 := (hb2.block _ (lt_of_block HA.out)).trans HA.out
  have hQ2 := (hb2.block _ (lt_of_block HQ.out)).trans HQ.out
  have hB2 := HB1.out.trans (hb2.mono HB1.out.size)
  obtain ⟨d0, d1, d2, d3, d4, d5, d6⟩ := cells7 hA2
  have f6 := frozenY hA2 6
  have hA3 := setY (k := 6) hA2 (.int .i64 0)
  have hQ3 := (heap_setCellZ (W := w2) (g := w.heap.size) (k := 6) (v := .int .i64 0) (j := w.heap.size + 1) (by omega)).trans hQ2
  have hB3 : Below w.heap.size w (w2.setCell ⟨w.heap.size, 6, none⟩ (.int .i64 0)) := hB2.setCell (p := ⟨w.heap.size, 6, none⟩) (Nat.le_refl _) _
  have HA3 := Lib.hid (show (w2.setCell ⟨w.heap.size, 6, none⟩ (.int .i64 0)).heap[w.heap.size]? = some (.cells #[va0, vl0, vr0, vm0, .int .i64 S.th, .int .i64 S.de, .int .i64 0] 25 (0, 0)) from hA3)
  have HQ3 := Lib.hid hQ3
  have HB3 := Lib.hid hB3
  clear hA2 hQ2 hB2 hA3 hQ3 hB3 HA HQ HAW HB1 HW1 hb2
  go_upto_region 3 with fail
  clear d0 d1 d2 d3 d4 d5 d6 f6
  generalize w2.setCell ⟨w.heap.size, 6, none⟩ (.int .i64 0) = W3 at *
  obtain ⟨d0, d1, d2, d3, d4, d5, d6⟩ := cells7 HA3.out
  have HM3 := Lib.hid (HMD.out _ HB3.out)
  go_upto_region 4 with (go_at_call 7; (with_reducible refine HM3.out.mono ?_); intro e w5 hE; unfold MdE ImO at hE; obtain ⟨im0, hBI, va, vl, vr, vm, rfl, hO5, hb5⟩ := hE; obtain ⟨a1, c1, a2, c2, a3, c3, a4, c4, h1, h2, h3, h4⟩ := hO5.rows.slices; subst h1 h2 h3 h4)
  have hFW := hBI.few (restV 0 12)
  have HBI := Lib.hid (show ∀ e, encE (spI im0 (restV 0 12)) = some e → e.1 = 12 from fun e he => hBI.err he)
  generalize spI im0 (restV 0 12) = im at *
  obtain ⟨W6, hW6⟩ : ∃ W6, w5.alloc (.cells #[.slice a1 (cntN im 0) c1, .slice a2 (cntN im 1) c2, .slice a3 (cntN im 2) c3, .slice a4 (cntN im 3) c4, .int .i64 im.th, .int .i64 im.de] 33) = W6 := ⟨_, rfl⟩
  have hI6 : W6.heap[w5.heap.size]? = some (.cells #[.slice a1 (cntN im 0) c1, .slice a2 (cntN im 1) c2, .slice a3 (cntN im 2) c3, .slice a4 (cntN im 3) c4, .int .i64 im.th, .int .i64 im.de] 33 (0, 0)) := by rw [← hW6]; exact World.alloc_heap_new _ _
  have hb6 : Below w5.heap.size w5 W6 := by rw [← hW6]; exact (Below.refl _ _).alloc (Nat.le_refl _) _
  have hO6 := hO5.below hb6
  have hB6 : Below w.heap.size w W6 := (HB3.out.trans (hb5.mono HB3.out.size)).trans (hb6.mono (Nat.le_trans HB3.out.size hb5.size))
  have hB5 : w.heap.size ≤ W3.heap.size := HB3.out.size
  have hB56 : W3.heap.size ≤ w5.heap.size := hb5.size
  have hQ6 := (hb6.block _ (Nat.lt_of_lt_of_le (lt_of_block HQ3.out) hb5.size)).trans ((hb5.block _ (lt_of_block HQ3.out)).trans HQ3.out)
  rw [hW6]
  clear hW6 hb6 hO5 hBI d0 d1 d2 d3 d4 d5 d6 HM3 HMD HA3 HQ3
  have HE6 := Lib.hid (show Calls Tryz.prog 9 #[.agg #[.slice a1 (cntN im 0) c1, .slice a2 (cntN im 1) c2, .slice a3 (cntN im 2) c3, .slice a4 (cntN im 3) c4, .int .i64 im.th, .int .i64 im.de]] W6 (fun e w' => ∃ v, e = .returned (.tuple #[.string (encB im), v]) ∧ EncZ w' v (encE im) ∧ Below W6.heap.size W6 w') from encode_im a1 a2 a3 a4 c1 c2 c3 c4 im W6 hO6.rows hO6.s (HGL.out _ hB6))
  obtain ⟨z0, z1, z2, z3, z4, z5⟩ := cells6 hI6
  have HI6 := Lib.hid hI6
  have HO6 := Lib.hid hO6
  have HB6 := Lib.hid hB6
  have HQ6 := Lib.hid hQ6
  clear hI6 hO6 hB6 hQ6
  go_upto_region 5 with (go_at_call 9; (with_reducible refine HE6.out.mono ?_); rintro e w7 ⟨ev1, rfl, hev1, hb7⟩)
  have HEV := Lib.hid hev1
  have hI7 := (hb7.block _ (lt_of_block HI6.out)).trans HI6.out
  have hQ7 := (hb7.block _ (lt_of_block HQ6.out)).trans HQ6.out
  have hs7 : w5.heap.size < w7.heap.size := lt_of_block hI7
  clear z0 z1 z2 z3 z4 z5 hev1
  obtain ⟨z0, z1, z2, z3, z4, z5⟩ := cells6 hI7
  have HB7 := Lib.hid hb7
  have HI7 := Lib.hid hI7
  have HQ7 := Lib.hid hQ7
  clear hI7 hb7 hQ7
  go_upto_region 6 with fail
  obtain ⟨wr, hwr⟩ : ∃ W8, w7.alloc (.cells #[.slice a1 (cntN im 0) c1, .slice a2 (cntN im 1) c2, .slice a3 (cntN im 2) c3, .slice a4 (cntN im 3) c4, .int .i64 im.th, .int .i64 im.de] 33) = W8 := ⟨_, rfl⟩
  have hb8 : Below w7.heap.size w7 wr := by rw [← hwr]; exact (Below.refl _ _).alloc (Nat.le_refl _) _
  have hX8 : wr.heap[w7.heap.size]? = some (.cells #[.slice a1 (cntN im 0) c1, .slice a2 (cntN im 1) c2, .slice a3 (cntN im 2) c3, .slice a4 (cntN im 3) c4, .int .i64 im.th, .int .i64 im.de] 33 (0, 0)) := by rw [← hwr]; exact World.alloc_heap_new _ _
  have hO8 := (HO6.out.below HB7.out).below hb8
  have hbz := hb8.size
  have HTU0 : TuI w wr w5.heap.size w7.heap.size W3.heap.size im im _ _ _ _ _ _ _ := ⟨(hb8.block _ (lt_of_block HI7.out)).trans HI7.out, hX8, hO8, hO8, (HB6.out.trans (HB7.out.mono HB6.out.size)).trans (hb8.mono (Nat.le_trans HB6.out.size HB7.out.size)), by omega, by omega, by omega⟩
  have HQ8 := Lib.hid ((hb8.block _ (lt_of_block HQ7.out)).trans HQ7.out)
  have HEV7 := HEV.out.below hb8
  rw [hwr]
  clear hwr hb8 hX8 hO8 z0 z1 z2 z3 z4 z5
  generalize w5.heap.size = nI at *
  generalize w7.heap.size = nX at *
  generalize W3.heap.size = b at *
  generalize (Value.slice a1 (cntN im 0) c1) = va at *
  generalize (Value.slice a2 (cntN im 1) c2) = vl at *
  generalize (Value.slice a3 (cntN im 2) c3) = vr at *
  generalize (Value.slice a4 (cntN im 3) c4) = vm at *
  clear HI7 HI6 HO6 HB7 HB6 HE6 hs7 hbz hB5 hB56 HB3 HEV HQ6 HQ7
  have HTU := Lib.hid HTU0
  have HEV := Lib.hid HEV7
  have HFW := Lib.hid hFW
  clear HTU0 HEV7 hFW
  obtain ⟨d0, d1⟩ := cells2L HQ8.out
  obtain ⟨dI, hdI⟩ : ∃ d : Int, (restV q0 4 : Int) = d := ⟨_, rfl⟩
  have hd4 : dI = 0 ∨ dI = 1 ∨ dI = 2 ∨ dI = 3 := by have := restV_lt q0 4 (by decide); omega
  have R0 := Lib.hid (fun w5 => show Calls Tryz.prog 10 #[.int .i64 q0, .int .i64 4] w5 (fun e w' => e = .returned (.int .i64 dI) ∧ w5 = w') from hdI ▸ rest13_any q0 4 w5 (by decide) (by decide))
  clear hdI
  go_upto_block 0 with (go_at_call 10; (with_reducible refine (R0.out _).mono ?_); rintro e w' ⟨rfl, rfl⟩)
  go_cut [10, 11, 12, 13, 14] from 30 to 119 (fun u10 _ _ _ _ wx => ∃ (fewer : Nat) (xi : Im) (v0 v1 v2 v3 : Value), u10 = .int .i64 (fewer : Int) ∧ LeO w wr wx nX b xi v0 v1 v2 v3 ∧ LessZ im xi fewer)
  case first =>
    clear R0
    rcases hd4 with rfl | rfl | rfl | rfl
    · obtain ⟨z0, z1, z2, z3, z4, z5⟩ := cells6 HTU.out.i
      obtain ⟨i0, hi, hz0, hz1, hz2⟩ := info_parts alInfo
      by_cases hz : 0 < im.als.length
      · have hd : decide (0 < im.als.length) = true := decide_eq_true hz
        have hd2 : (0 : Int) < (im.als.length : Int) := by omega
        obtain ⟨n0, hn0⟩ : ∃ n, restV q1 im.als.length = n := ⟨_, rfl⟩
        have hnl : n0 < im.als.length := by rw [← hn0]; exact restV_lt q1 _ hz
        have RR := Lib.hid (fun w5 => show Calls Tryz.prog 10 #[.int .i64 q1, .int .i64 (im.als.length : Int)] w5 (fun e w' => e = .returned (.int .i64 (n0 : Int)) ∧ w5 = w') from hn0 ▸ rest13_any q1 im.als.length w5 hz (by have := HFW.out.a; omega))
        obtain ⟨n1, hn1⟩ : ∃ n, n0 + 1 = n := ⟨_, rfl⟩
        have HN01 := Lib.hid hn1
        have HLC := Lib.hid (show 0 + n0 + (im.als.length - n1) = (cutZ n0 im.als).length by have := cut_lenZ hnl; unfold cutZ; omega)
        have HLE := Lib.hid (LessZ.cutA hnl)
        obtain ⟨g, cap, hv, hle, hpos, hmax⟩ : ∃ g cap, va = .slice (some ⟨g, 0, none⟩) im.als.length cap ∧ im.als.length ≤ cap ∧ 0 < cap ∧ cap ≤ maxLen := by
          rcases slice_casesZ HTU.out.o.a with ⟨_, h0⟩ | ⟨g, _, h0⟩ | h
          · omega
          · omega
          · exact h
        subst hv
        have HBA := Lib.hid (show Below wr.heap.size wr (wr.drew.alloc (.cells #[] 47)) from (Below.drew (Below.refl wr.heap.size wr)).alloc (Nat.le_refl _) _)
        have HN1 := Lib.hid (own_emptyZ wr.drew 47 6)
        have hfl := HTU.out.o.a.1
        have HL1 := Lib.hid (show (((im.als.map alC).flatMap id).take (n0 * 6)).length = n0 * 6 by rw [List.length_take, hfl]; omega)
        have HL2 := Lib.hid (show (((im.als.map alC).flatMap id).drop (n1 * 6)).length = (im.als.length - n1) * 6 by rw [List.length_drop, hfl]; omega)
        have HOW := Lib.hid HTU.out.o.a
        have HOA := Lib.hid (own_belowW HTU.out.o.a HBA.out)
        have hsI := lt_of_block HTU.out.i
        have hp0 : (0 : Int) ≤ (n0 : Int) := by omega
        have hp1 : (n0 : Int) ≤ (im.als.length : Int) := by omega
        have hp2 : (n0 : Int) ≤ (cap : Int) := by omega
        have hp3 : (im.als.length : Int) ≤ (cap : Int) := by omega
        have hp4 : IntKind.i64.wrap ((n0 : Int) + 1) = (n1 : Int) := by rw [IntWalk.i64_in _ ⟨by omega, by have := HFW.out.a; omega⟩]; omega
        have hp5 : (0 : Int) ≤ (n1 : Int) := by omega
        have hp6 : (n1 : Int) ≤ (im.als.length : Int) := by omega
        have hp7 : (n1 : Int) ≤ (cap : Int) := by omega
        have hle60 := HFW.out.a
        unfold maxLen at hmax
        go_upto_region 14 with (go_at_call 10; (with_reducible refine (RR.out _).mono ?_); rintro e w' ⟨rfl, rfl⟩)
        clear z0 z1 z2 z3 z4 z5 hn0 hn1 hfl d0 d1 hz
        by_cases hcap : cap = n1
        · obtain rfl : cap = n1 := hcap
          have hn1 := HN01.out
          have HLC := Lib.hid (show 0 + n0 + 0 = (cutZ n0 im.als).length by have := HLC.out; omega)
          have HX0 := Lib.hid (show (((im.als.map alC).flatMap id).drop (cap * 6)) = [] from List.eq_nil_of_length_eq_zero (HL2.out.trans (by rw [show im.als.length - cap = 0 by omega, Nat.zero_mul])))
          clear hn1
          have HC := Lib.hid (fun w' (h : Below wr.heap.size wr w') => show w'.cell? ⟨nI, 0, none⟩ = some (.slice (some ⟨g, 0, none⟩) im.als.length cap) from (cells6 (HTU.out.below h).i).1)
          refine wp_region_held_drew (S := fun w' => w'.cell? ⟨nI, 0, none⟩ = some (.slice (some ⟨g, 0, none⟩) im.als.length cap)) (by kernel_rfl) (HC.out _ (Below.drew (Below.refl _ _))) (fun hHeld => ?_)
          apply held_shellV (R := fun (_ : Value) (a8 : Option Addr) (m8 c8 : Nat) (w' : World) => LeO w wr w' nX b { im with als := cutZ n0 im.als } (.slice a8 m8 c8) vl vr vm)
          exact fun _ _ d _ _ h => by cases d <;> exact h
          rotate_left 1
          intro KK hKp hfin
          refine wpAnyH_take (i := 1) (v := .pointer (some ⟨nI, 0, none⟩)) rfl (by kernel_rfl) (by kernel_rfl) (by kernel_rfl) (fun c a w h => hKp c a _ _ w h) (Or.inl ⟨by kernel_rfl, fun w hSw => by dsimp only at hSw; obtain g0 := hSw; go_simp⟩) (by assumption) ?_
          simp only [Act.put, List.getElem_toArray, List.getElem_cons_zero, List.getElem_cons_succ, List.setIfInBounds_toArray, List.set_cons_zero, List.set_cons_succ]
          refine wpAnyH_take (i := 2) (v := .slice (some ⟨g, 0, none⟩) im.als.length cap) rfl (by kernel_rfl) (by kernel_rfl) (by kernel_rfl) (fun c a w h => hKp c a _ _ w h) (Or.inl ⟨by kernel_rfl, fun w hSw => by dsimp only at hSw; obtain g0 := hSw; go_simp⟩) (by assumption) ?_
          simp only [Act.put, List.getElem_toArray, List.getElem_cons_zero, List.getElem_cons_succ, List.setIfInBounds_toArray, List.set_cons_zero, List.set_cons_succ]
          refine wpAnyH_take (i := 3) (v := .int .i64 (n0 : Int)) rfl (by kernel_rfl) (by kernel_rfl) (by kernel_rfl) (fun c a w h => hKp c a _ _ w h) (Or.inl ⟨by kernel_rfl, fun w hSw => by dsimp only at hSw; obtain g0 := hSw; go_simp⟩) (by assumption) ?_
          simp only [Act.put, List.getElem_toArray, List.getElem_cons_zero, List.getElem_cons_succ, List.setIfInBounds_toArray, List.set_cons_zero, List.set_cons_succ]
          refine wpAnyH_take (i := 4) (v := .slice (some ⟨g, 0, none⟩) n0 cap) rfl (by kernel_rfl) (by kernel_rfl) (by kernel_rfl) (fun c a w h => hKp c a _ _ w h) (Or.inl ⟨by kernel_rfl, fun w hSw => by dsimp only at hSw; obtain g0 := hSw; go_simp⟩) (by assumption) ?_
          simp only [Act.put, List.getElem_toArray, List.getElem_cons_zero, List.getElem_cons_succ, List.setIfInBounds_toArray, List.set_cons_zero, List.set_cons_succ]
          refine wpAnyH_take (i := 6) (v := .pointer (some ⟨nI, 0, none⟩)) rfl (by kernel_rfl) (by kernel_rfl) (by kernel_rfl) (fun c a w h => hKp c a _ _ w h) (Or.inl ⟨by kernel_rfl, fun w hSw => by dsimp only at hSw; obtain g0 := hSw; go_simp⟩) (by assumption) ?_
          simp only [Act.put, List.getElem_toArray, List.getElem_cons_zero, List.getElem_cons_succ, List.setIfInBounds_toArray, List.set_cons_zero, List.set_cons_succ]
          refine wpAnyH_take (i := 7) (v := .slice (some ⟨g, 0, none⟩) im.als.length cap) rfl (by kernel_rfl) (by kernel_rfl) (by kernel_rfl) (fun c a w h => hKp c a _ _ w h) (Or.inl ⟨by kernel_rfl, fun w hSw => by dsimp only at hSw; obtain g0 := hSw; go_simp⟩) (by assumption) ?_
          simp only [Act.put, List.getElem_toArray, List.getElem_cons_zero, List.getElem_cons_succ, List.setIfInBounds_toArray, List.set_cons_zero, List.set_cons_succ]
          refine wpAnyH_take (i := 8) (v := .int .i64 (n0 : Int)) rfl (by kernel_rfl) (by kernel_rfl) (by kernel_rfl) (fun c a w h => hKp c a _ _ w h) (Or.inl ⟨by kernel_rfl, fun w hSw => by dsimp only at hSw; obtain g0 := hSw; go_simp⟩) (by assumption) ?_
          simp only [Act.put, List.getElem_toArray, List.getElem_cons_zero, List.getElem_cons_succ, List.setIfInBounds_toArray, List.set_cons_zero, List.set_cons_succ]
          refine wpAnyH_take (i := 9) (v := .int .i64 (cap : Int)) rfl (by kernel_rfl) (by kernel_rfl) (by kernel_rfl) (fun c a w h => hKp c a _ _ w h) (Or.inl ⟨by kernel_rfl, fun w hSw => by dsimp only at hSw; obtain g0 := hSw; go_simp⟩) (by assumption) ?_
          simp only [Act.put, List.getElem_toArray, List.getElem_cons_zero, List.getElem_cons_succ, List.setIfInBounds_toArray, List.set_cons_zero, List.set_cons_succ]
          refine wpAnyH_take (i := 10) (v := .slice (some ⟨g, 0, none⟩) (im.als.length - cap) 0) rfl (by kernel_rfl) (by kernel_rfl) (by kernel_rfl) (fun c a w h => hKp c a _ _ w h) (Or.inl ⟨by kernel_rfl, fun w hSw => by dsimp only at hSw; obtain g0 := hSw; go_simp⟩) (by assumption) ?_
          simp only [Act.put, List.getElem_toArray, List.getElem_cons_zero, List.getElem_cons_succ, List.setIfInBounds_toArray, List.set_cons_zero, List.set_cons_succ]
          refine wpAnyH_ready (rs := [0]) (by kernel_rfl) (by simp) ?_
          refine AllReadyH.cons rfl (fun Kx hKx => ?_) AllReadyH.nil
          try rw [if_pos (by kernel_rfl)]
          go_simp
          refine hKx.out _ _ (HC.out _ HBA.out) (fun hHeld => ?_)
          clear hKx Kx
          try simp only [Act.put, List.getElem_toArray, List.getElem_cons_zero, List.getElem_cons_succ, List.setIfInBounds_toArray, List.set_cons_zero, List.set_cons_succ]
          refine wpAnyH_ready (rs := [5]) (by kernel_rfl) (by simp) ?_
          refine AllReadyH.cons rfl (fun Kx hKx => ?_) AllReadyH.nil
          refine step_append_anyW _ rfl _ _ 28 rfl wr.heap.size 47 i0 (.agg #[.int .i64 0, .string ByteArray.empty, .string ByteArray.empty, .string ByteArray.empty, .string ByteArray.empty, .string ByteArray.empty]) 6 88 Tryz.underlying28 hi hz0 hz1 hz2 rfl (by decide) _ 0 [] rfl HN1.out _ _ _ (((im.als.map alC).flatMap id).take (n0 * 6)) rfl (HL1.out.trans (by omega)) (fun h => by cases h) (fun ad ha j u hu => by cases ha; exact own_newsT HOA.out j u hu) (fun u hu => alC_oneZ _ u (List.mem_of_mem_take hu)) (by unfold maxLen; omega) (by omega) (by simp) ?_
          intro v6 w6 hown6 hgrow6
          have hb6 := HBA.out.grown hgrow6 (by simp) (fun r e => by cases e; exact Nat.le_refl _)
          have HO6 := own_belowW (HOW.out) hb6
          refine hKx.out _ _ (HC.out _ hb6) (fun hHeld => ?_)
          clear hKx Kx
          try simp only [Act.put, List.getElem_toArray, List.getElem_cons_zero, List.getElem_cons_succ, List.setIfInBounds_toArray, List.set_cons_zero, List.set_cons_succ]
          refine wpAnyH_ready (rs := [11]) (by kernel_rfl) (by simp) ?_
          refine AllReadyH.cons rfl (fun Kx hKx => ?_) AllReadyH.nil
          refine step_append_anyW _ rfl _ _ 28 rfl wr.heap.size 47 i0 (.agg #[.int .i64 0, .string ByteArray.empty, .string ByteArray.empty, .string ByteArray.empty, .string ByteArray.empty, .string ByteArray.empty]) 6 88 Tryz.underlying28 hi hz0 hz1 hz2 rfl (by decide) _ _ _ rfl hown6 _ _ _ (((im.als.map alC).flatMap id).drop (cap * 6)) rfl (HL2.out.trans (by omega)) (fun h => by cases h) (fun ad ha j u hu => by rw [HX0.out] at hu; simp at hu) (fun u hu => alC_oneZ _ u (List.mem_of_mem_drop hu)) (by unfold maxLen; omega) (by omega) hb6.size ?_
          intro v8 w8 hown8 hgrow8
          have hb8 := hb6.grown hgrow8 hb6.size (fun r e => (hown6.lt r e).1)
          refine hKx.out _ _ (HC.out _ hb8) (fun hHeld => ?_)
          clear hKx Kx
          try simp only [Act.put, List.getElem_toArray, List.getElem_cons_zero, List.getElem_cons_succ, List.setIfInBounds_toArray, List.set_cons_zero, List.set_cons_succ]
          have hx8 := (HTU.out.below hb8).x
          obtain ⟨q0, q1, q2, q3, q4, q5⟩ := cells6 hx8
          have f7 := frozenY hx8 0
          have hT8 := HTU.out.cutA hb8 (l := cutZ n0 im.als) (by rw [cut_cellsZ n0 im.als (alC_all _), HN01.out]; rw [List.nil_append] at hown8; exact hown8) HLC.out (fun y hy => HTU.out.o.s.als y ((cut_subZ n0 im.als).subset hy))
          have hC8 := HC.out _ hb8
          obtain ⟨va8, vn8, vc8, rfl⟩ := own_sliceZ hown8
          refine wpAnyH_take (i := 12) (v := .pointer (some ⟨nX, 0, none⟩)) rfl (by kernel_rfl) (by kernel_rfl) (by kernel_rfl) (fun c a w h => hKp c a _ _ w h) (Or.inl ⟨by kernel_rfl, fun w hSw => by dsimp only at hSw; obtain g0 := hSw; go_simp⟩) (by assumption) ?_
          simp only [Act.put, List.getElem_toArray, List.getElem_cons_zero, List.getElem_cons_succ, List.setIfInBounds_toArray, List.set_cons_zero, List.set_cons_succ]
          have HT8 := Lib.hid hT8
          have HC9 := Lib.hid ((World.cell?_of_block (a := ⟨nI, 0, none⟩) (heap_setCellZ (W := w8) (k := 0) (v := .slice va8 vn8 vc8) HTU.out.ne)).trans hC8)
          clear hT8 hx8 hC8
          refine wpAnyH_ready (rs := [13]) (by kernel_rfl) (by simp) ?_
          refine AllReadyH.cons rfl (fun Kx hKx => ?_) AllReadyH.nil
          try rw [if_pos (by kernel_rfl)]
          go_simp
          refine hKx.out _ _ HC9.out (fun hHeld => ?_)
          clear hKx Kx
          try simp only [Act.put, List.getElem_toArray, List.getElem_cons_zero, List.getElem_cons_succ, List.setIfInBounds_toArray, List.set_cons_zero, List.set_cons_succ]
          refine wpAnyH_done (by kernel_rfl) ?_ _
          exact hfin v6 va8 vn8 vc8 _ HT8.out
          rintro u1 a8 m8 c8 W9 hT9
          have HT9 := Lib.hid hT9
          clear hT9
          go_wp2_with fail
          go_meet
          case rel => exact ⟨41, _, _, _, _, _, rfl, HT9.out, HLE.out⟩
        · have hn1 := HN01.out
          have hq1 : ¬ cap = n1 := hcap
          clear hn1 hcap
          have HC := Lib.hid (fun w' (h : Below wr.heap.size wr w') => show w'.cell? ⟨nI, 0, none⟩ = some (.slice (some ⟨g, 0, none⟩) im.als.length cap) from (cells6 (HTU.out.below h).i).1)
          refine wp_region_held_drew (S := fun w' => w'.cell? ⟨nI, 0, none⟩ = some (.slice (some ⟨g, 0, none⟩) im.als.length cap)) (by kernel_rfl) (HC.out _ (Below.drew (Below.refl _ _))) (fun hHeld => ?_)
          apply held_shellV (R := fun (_ : Value) (a8 : Option Addr) (m8 c8 : Nat) (w' : World) => LeO w wr w' nX b { im with als := cutZ n0 im.als } (.slice a8 m8 c8) vl vr vm)
          exact fun _ _ d _ _ h => by cases d <;> exact h
          rotate_left 1
          intro KK hKp hfin
          refine wpAnyH_take (i := 1) (v := .pointer (some ⟨nI, 0, none⟩)) rfl (by kernel_rfl) (by kernel_rfl) (by kernel_rfl) (fun c a w h => hKp c a _ _ w h) (Or.inl ⟨by kernel_rfl, fun w hSw => by dsimp only at hSw; obtain g0 := hSw; go_simp⟩) (by assumption) ?_
          simp only [Act.put, List.getElem_toArray, List.getElem_cons_zero, List.getElem_cons_succ, List.setIfInBounds_toArray, List.set_cons_zero, List.set_cons_succ]
          refine wpAnyH_take (i := 2) (v := .slice (some ⟨g, 0, none⟩) im.als.length cap) rfl (by kernel_rfl) (by kernel_rfl) (by kernel_rfl) (fun c a w h => hKp c a _ _ w h) (Or.inl ⟨by kernel_rfl, fun w hSw => by dsimp only at hSw; obtain g0 := hSw; go_simp⟩) (by assumption) ?_
          simp only [Act.put, List.getElem_toArray, List.getElem_cons_zero, List.getElem_cons_succ, List.setIfInBounds_toArray, List.set_cons_zero, List.set_cons_succ]
          refine wpAnyH_take (i := 3) (v := .int .i64 (n0 : Int)) rfl (by kernel_rfl) (by kernel_rfl) (by kernel_rfl) (fun c a w h => hKp c a _ _ w h) (Or.inl ⟨by kernel_rfl, fun w hSw => by dsimp only at hSw; obtain g0 := hSw; go_simp⟩) (by assumption) ?_
          simp only [Act.put, List.getElem_toArray, List.getElem_cons_zero, List.getElem_cons_succ, List.setIfInBounds_toArray, List.set_cons_zero, List.set_cons_succ]
          refine wpAnyH_take (i := 4) (v := .slice (some ⟨g, 0, none⟩) n0 cap) rfl (by kernel_rfl) (by kernel_rfl) (by kernel_rfl) (fun c a w h => hKp c a _ _ w h) (Or.inl ⟨by kernel_rfl, fun w hSw => by dsimp only at hSw; obtain g0 := hSw; go_simp⟩) (by assumption) ?_
          simp only [Act.put, List.getElem_toArray, List.getElem_cons_zero, List.getElem_cons_succ, List.setIfInBounds_toArray, List.set_cons_zero, List.set_cons_succ]
          refine wpAnyH_take (i := 6) (v := .pointer (some ⟨nI, 0, none⟩)) rfl (by kernel_rfl) (by kernel_rfl) (by kernel_rfl) (fun c a w h => hKp c a _ _ w h) (Or.inl ⟨by kernel_rfl, fun w hSw => by dsimp only at hSw; obtain g0 := hSw; go_simp⟩) (by assumption) ?_
          simp only [Act.put, List.getElem_toArray, List.getElem_cons_zero, List.getElem_cons_succ, List.setIfInBounds_toArray, List.set_cons_zero, List.set_cons_succ]
          refine wpAnyH_take (i := 7) (v := .slice (some ⟨g, 0, none⟩) im.als.length cap) rfl (by kernel_rfl) (by kernel_rfl) (by kernel_rfl) (fun c a w h => hKp c a _ _ w h) (Or.inl ⟨by kernel_rfl, fun w hSw => by dsimp only at hSw; obtain g0 := hSw; go_simp⟩) (by assumption) ?_
          simp only [Act.put, List.getElem_toArray, List.getElem_cons_zero, List.getElem_cons_succ, List.setIfInBounds_toArray, List.set_cons_zero, List.set_cons_succ]
          refine wpAnyH_take (i := 8) (v := .int .i64 (n0 : Int)) rfl (by kernel_rfl) (by kernel_rfl) (by kernel_rfl) (fun c a w h => hKp c a _ _ w h) (Or.inl ⟨by kernel_rfl, fun w hSw => by dsimp only at hSw; obtain g0 := hSw; go_simp⟩) (by assumption) ?_
          simp only [Act.put, List.getElem_toArray, List.getElem_cons_zero, List.getElem_cons_succ, List.setIfInBounds_toArray, List.set_cons_zero, List.set_cons_succ]
          refine wpAnyH_take (i := 9) (v := .int .i64 (n1 : Int)) rfl (by kernel_rfl) (by kernel_rfl) (by kernel_rfl) (fun c a w h => hKp c a _ _ w h) (Or.inl ⟨by kernel_rfl, fun w hSw => by dsimp only at hSw; obtain g0 := hSw; go_simp⟩) (by assumption) ?_
          simp only [Act.put, List.getElem_toArray, List.getElem_cons_zero, List.getElem_cons_succ, List.setIfInBounds_toArray, List.set_cons_zero, List.set_cons_succ]
          refine wpAnyH_take (i := 10) (v := .slice (some ⟨g, n1 * 6, none⟩) (im.als.length - n1) (cap - n1)) rfl (by kernel_rfl) (by kernel_rfl) (by kernel_rfl) (fun c a w h => hKp c a _ _ w h) (Or.inl ⟨by kernel_rfl, fun w hSw => by dsimp only at hSw; obtain g0 := hSw; go_simp⟩) (by assumption) ?_
          simp only [Act.put, List.getElem_toArray, List.getElem_cons_zero, List.getElem_cons_succ, List.setIfInBounds_toArray, List.set_cons_zero, List.set_cons_succ]
          refine wpAnyH_ready (rs := [0]) (by kernel_rfl) (by simp) ?_
          refine AllReadyH.cons rfl (fun Kx hKx => ?_) AllReadyH.nil
          try rw [if_pos (by kernel_rfl)]
          go_simp
          refine hKx.out _ _ (HC.out _ HBA.out) (fun hHeld => ?_)
          clear hKx Kx
          try simp only [Act.put, List.getElem_toArray, List.getElem_cons_zero, List.getElem_cons_succ, List.setIfInBounds_toArray, List.set_cons_zero, List.set_cons_succ]
          refine wpAnyH_ready (rs := [5]) (by kernel_rfl) (by simp) ?_
          refine AllReadyH.cons rfl (fun Kx hKx => ?_) AllReadyH.nil
          refine step_append_anyW _ rfl _ _ 28 rfl wr.heap.size 47 i0 (.agg #[.int .i64 0, .string ByteArray.empty, .string ByteArray.empty, .string ByteArray.empty, .string ByteArray.empty, .string ByteArray.empty]) 6 88 Tryz.underlying28 hi hz0 hz1 hz2 rfl (by decide) _ 0 [] rfl HN1.out _ _ _ (((im.als.map alC).flatMap id).take (n0 * 6)) rfl (HL1.out.trans (by omega)) (fun h => by cases h) (fun ad ha j u hu => by cases ha; exact own_newsT HOA.out j u hu) (fun u hu => alC_oneZ _ u (List.mem_of_mem_take hu)) (by unfold maxLen; omega) (by omega) (by simp) ?_
          intro v6 w6 hown6 hgrow6
          have hb6 := HBA.out.grown hgrow6 (by simp) (fun r e => by cases e; exact Nat.le_refl _)
          have HO6 := own_belowW (HOW.out) hb6
          refine hKx.out _ _ (HC.out _ hb6) (fun hHeld => ?_)
          clear hKx Kx
          try simp only [Act.put, List.getElem_toArray, List.getElem_cons_zero, List.getElem_cons_succ, List.setIfInBounds_toArray, List.set_cons_zero, List.set_cons_succ]
          refine wpAnyH_ready (rs := [11]) (by kernel_rfl) (by simp) ?_
          refine AllReadyH.cons rfl (fun Kx hKx => ?_) AllReadyH.nil
          refine step_append_anyW _ rfl _ _ 28 rfl wr.heap.size 47 i0 (.agg #[.int .i64 0, .string ByteArray.empty, .string ByteArray.empty, .string ByteArray.empty, .string ByteArray.empty, .string ByteArray.empty]) 6 88 Tryz.underlying28 hi hz0 hz1 hz2 rfl (by decide) _ _ _ rfl hown6 _ _ _ (((im.als.map alC).flatMap id).drop (n1 * 6)) rfl (HL2.out.trans (by omega)) (fun h => by cases h) (fun ad ha j u hu => by cases ha; exact own_newsZ HO6 j u hu) (fun u hu => alC_oneZ _ u (List.mem_of_mem_drop hu)) (by unfold maxLen; omega) (by omega) hb6.size ?_
          intro v8 w8 hown8 hgrow8
          have hb8 := hb6.grown hgrow8 hb6.size (fun r e => (hown6.lt r e).1)
          refine hKx.out _ _ (HC.out _ hb8) (fun hHeld => ?_)
          clear hKx Kx
          try simp only [Act.put, List.getElem_toArray, List.getElem_cons_zero, List.getElem_cons_succ, List.setIfInBounds_toArray, List.set_cons_zero, List.set_cons_succ]
          have hx8 := (HTU.out.below hb8).x
          obtain ⟨q0, q1, q2, q3, q4, q5⟩ := cells6 hx8
          have f7 := frozenY hx8 0
          have hT8 := HTU.out.cutA hb8 (l := cutZ n0 im.als) (by rw [cut_cellsZ n0 im.als (alC_all _), HN01.out]; rw [List.nil_append] at hown8; exact hown8) HLC.out (fun y hy => HTU.out.o.s.als y ((cut_subZ n0 im.als).subset hy))
          have hC8 := HC.out _ hb8
          obtain ⟨va8, vn8, vc8, rfl⟩ := own_sliceZ hown8
          refine wpAnyH_take (i := 12) (v := .pointer (some ⟨nX, 0, none⟩)) rfl (by kernel_rfl) (by kernel_rfl) (by kernel_rfl) (fun c a w h => hKp c a _ _ w h) (Or.inl ⟨by kernel_rfl, fun w hSw => by dsimp only at hSw; obtain g0 := hSw; go_simp⟩) (by assumption) ?_
          simp only [Act.put, List.getElem_toArray, List.getElem_cons_zero, List.getElem_cons_succ, List.setIfInBounds_toArray, List.set_cons_zero, List.set_cons_succ]
          have HT8 := Lib.hid hT8
          have HC9 := Lib.hid ((World.cell?_of_block (a := ⟨nI, 0, none⟩) (heap_setCellZ (W := w8) (k := 0) (v := .slice va8 vn8 vc8) HTU.out.ne)).trans hC8)
          clear hT8 hx8 hC8
          refine wpAnyH_ready (rs := [13]) (by kernel_rfl) (by simp) ?_
          refine AllReadyH.cons rfl (fun Kx hKx => ?_) AllReadyH.nil
          try rw [if_pos (by kernel_rfl)]
          go_simp
          refine hKx.out _ _ HC9.out (fun hHeld => ?_)
          clear hKx Kx
          try simp only [Act.put, List.getElem_toArray, List.getElem_cons_zero, List.getElem_cons_succ, List.setIfInBounds_toArray, List.set_cons_zero, List.set_cons_succ]
          refine wpAnyH_done (by kernel_rfl) ?_ _
          exact hfin v6 va8 vn8 vc8 _ HT8.out
          rintro u1 a8 m8 c8 W9 hT9
          have HT9 := Lib.hid hT9
          clear hT9
          go_wp2_with fail
          go_meet
          case rel => exact ⟨41, _, _, _, _, _, rfl, HT9.out, HLE.out⟩
      · have hd : decide (0 < im.als.length) = false := decide_eq_false hz
        have hd2 : ¬ (0 : Int) < (im.als.length : Int) := by omega
        obtain ⟨sa, sn, sc, hv0⟩ := own_sliceZ HTU.out.o.a
        obtain ⟨hs0, -⟩ := own_lenZ (hv0 ▸ HTU.out.o.a)
        subst hv0
        rw [hs0] at z0
        clear hz hs0
        go_wp2_with fail
        go_meet
        case rel => exact ⟨0, im, _, _, _, _, rfl, HTU.out.leo, LessZ.refl im⟩
    · obtain ⟨z0, z1, z2, z3, z4, z5⟩ := cells6 HTU.out.i
      obtain ⟨i0, hi, hz0, hz1, hz2⟩ := info_parts lkInfo
      by_cases hz : 0 < im.lks.length
      · have hd : decide (0 < im.lks.length) = true := decide_eq_true hz
        have hd2 : (0 : Int) < (im.lks.length : Int) := by omega
        obtain ⟨n0, hn0⟩ : ∃ n, restV q1 im.lks.length = n := ⟨_, rfl⟩
        have hnl : n0 < im.lks.length := by rw [← hn0]; exact restV_lt q1 _ hz
        have RR := Lib.hid (fun w5 => show Calls Tryz.prog 10 #[.int .i64 q1, .int .i64 (im.lks.length : Int)] w5 (fun e w' => e = .returned (.int .i64 (n0 : Int)) ∧ w5 = w') from hn0 ▸ rest13_any q1 im.lks.length w5 hz (by have := HFW.out.l; omega))
        obtain ⟨n1, hn1⟩ : ∃ n, n0 + 1 = n := ⟨_, rfl⟩
        have HN01 := Lib.hid hn1
        have HLC := Lib.hid (show 0 + n0 + (im.lks.length - n1) = (cutZ n0 im.lks).length by have := cut_lenZ hnl; unfold cutZ; omega)
        have HLE := Lib.hid (LessZ.cutL hnl)
        obtain ⟨g, cap, hv, hle, hpos, hmax⟩ : ∃ g cap, vl = .slice (some ⟨g, 0, none⟩) im.lks.length cap ∧ im.lks.length ≤ cap ∧ 0 < cap ∧ cap ≤ maxLen := by
          rcases slice_casesZ HTU.out.o.l with ⟨_, h0⟩ | ⟨g, _, h0⟩ | h
          · omega
          · omega
          · exact h
        subst hv
        have HBA := Lib.hid (show Below wr.heap.size wr (wr.drew.alloc (.cells #[] 49)) from (Below.drew (Below.refl wr.heap.size wr)).alloc (Nat.le_refl _) _)
        have HN1 := Lib.hid (own_emptyZ wr.drew 49 6)
        have hfl := HTU.out.o.l.1
        have HL1 := Lib.hid (show (((im.lks.map lkC).flatMap id).take (n0 * 6)).length = n0 * 6 by rw [List.length_take, hfl]; omega)
        have HL2 := Lib.hid (show (((im.lks.map lkC).flatMap id).drop (n1 * 6)).length = (im.lks.length - n1) * 6 by rw [List.length_drop, hfl]; omega)
        have HOW := Lib.hid HTU.out.o.l
        have HOA := Lib.hid (own_belowW HTU.out.o.l HBA.out)
        have hsI := lt_of_block HTU.out.i
        have hp0 : (0 : Int) ≤ (n0 : Int) := by omega
        have hp1 : (n0 : Int) ≤ (im.lks.length : Int) := by omega
        have hp2 : (n0 : Int) ≤ (cap : Int) := by omega
        have hp3 : (im.lks.length : Int) ≤ (cap : Int) := by omega
        have hp4 : IntKind.i64.wrap ((n0 : Int) + 1) = (n1 : Int) := by rw [IntWalk.i64_in _ ⟨by omega, by have := HFW.out.l; omega⟩]; omega
        have hp5 : (0 : Int) ≤ (n1 : Int) := by omega
        have hp6 : (n1 : Int) ≤ (im.lks.length : Int) := by omega
        have hp7 : (n1 : Int) ≤ (cap : Int) := by omega
        have hle60 := HFW.out.l
        unfold maxLen at hmax
        go_upto_region 19 with (go_at_call 10; (with_reducible refine (RR.out _).mono ?_); rintro e w' ⟨rfl, rfl⟩)
        clear z0 z1 z2 z3 z4 z5 hn0 hn1 hfl d0 d1 hz
        by_cases hcap : cap = n1
        · obtain rfl : cap = n1 := hcap
          have hn1 := HN01.out
          have HLC := Lib.hid (show 0 + n0 + 0 = (cutZ n0 im.lks).length by have := HLC.out; omega)
          have HX0 := Lib.hid (show (((im.lks.map lkC).flatMap id).drop (cap * 6)) = [] from List.eq_nil_of_length_eq_zero (HL2.out.trans (by rw [show im.lks.length - cap = 0 by omega, Nat.zero_mul])))
          clear hn1
          have HC := Lib.hid (fun w' (h : Below wr.heap.size wr w') => show w'.cell? ⟨nI, 1, none⟩ = some (.slice (some ⟨g, 0, none⟩) im.lks.length cap) from (cells6 (HTU.out.below h).i).2.1)
          refine wp_region_held_drew (S := fun w' => w'.cell? ⟨nI, 1, none⟩ = some (.slice (some ⟨g, 0, none⟩) im.lks.length cap)) (by kernel_rfl) (HC.out _ (Below.drew (Below.refl _ _))) (fun hHeld => ?_)
          apply held_shellV (R := fun (_ : Value) (a8 : Option Addr) (m8 c8 : Nat) (w' : World) => LeO w wr w' nX b { im with lks := cutZ n0 im.lks } va (.slice a8 m8 c8) vr vm)
          exact fun _ _ d _ _ h => by cases d <;> exact h
          rotate_left 1
          intro KK hKp hfin
          refine wpAnyH_take (i := 1) (v := .pointer (some ⟨nI, 1, none⟩)) rfl (by kernel_rfl) (by kernel_rfl) (by kernel_rfl) (fun c a w h => hKp c a _ _ w h) (Or.inl ⟨by kernel_rfl, fun w hSw => by dsimp only at hSw; obtain g0 := hSw; go_simp⟩) (by assumption) ?_
          simp only [Act.put, List.getElem_toArray, List.getElem_cons_zero, List.getElem_cons_succ, List.setIfInBounds_toArray, List.set_cons_zero, List.set_cons_succ]
          refine wpAnyH_take (i := 2) (v := .slice (some ⟨g, 0, none⟩) im.lks.length cap) rfl (by kernel_rfl) (by kernel_rfl) (by kernel_rfl) (fun c a w h => hKp c a _ _ w h) (Or.inl ⟨by kernel_rfl, fun w hSw => by dsimp only at hSw; obtain g0 := hSw; go_simp⟩) (by assumption) ?_
          simp only [Act.put, List.getElem_toArray, List.getElem_cons_zero, List.getElem_cons_succ, List.setIfInBounds_toArray, List.set_cons_zero, List.set_cons_succ]
          refine wpAnyH_take (i := 3) (v := .int .i64 (n0 : Int)) rfl (by kernel_rfl) (by kernel_rfl) (by kernel_rfl) (fun c a w h => hKp c a _ _ w h) (Or.inl ⟨by kernel_rfl, fun w hSw => by dsimp only at hSw; obtain g0 := hSw; go_simp⟩) (by assumption) ?_
          simp only [Act.put, List.getElem_toArray, List.getElem_cons_zero, List.getElem_cons_succ, List.setIfInBounds_toArray, List.set_cons_zero, List.set_cons_succ]
          refine wpAnyH_take (i := 4) (v := .slice (some ⟨g, 0, none⟩) n0 cap) rfl (by kernel_rfl) (by kernel_rfl) (by kernel_rfl) (fun c a w h => hKp c a _ _ w h) (Or.inl ⟨by kernel_rfl, fun w hSw => by dsimp only at hSw; obtain g0 := hSw; go_simp⟩) (by assumption) ?_
          simp only [Act.put, List.getElem_toArray, List.getElem_cons_zero, List.getElem_cons_succ, List.setIfInBounds_toArray, List.set_cons_zero, List.set_cons_succ]
          refine wpAnyH_take (i := 6) (v := .pointer (some ⟨nI, 1, none⟩)) rfl (by kernel_rfl) (by kernel_rfl) (by kernel_rfl) (fun c a w h => hKp c a _ _ w h) (Or.inl ⟨by kernel_rfl, fun w hSw => by dsimp only at hSw; obtain g0 := hSw; go_simp⟩) (by assumption) ?_
          simp only [Act.put, List.getElem_toArray, List.getElem_cons_zero, List.getElem_cons_succ, List.setIfInBounds_toArray, List.set_cons_zero, List.set_cons_succ]
          refine wpAnyH_take (i := 7) (v := .slice (some ⟨g, 0, none⟩) im.lks.length cap) rfl (by kernel_rfl) (by kernel_rfl) (by kernel_rfl) (fun c a w h => hKp c a _ _ w h) (Or.inl ⟨by kernel_rfl, fun w hSw => by dsimp only at hSw; obtain g0 := hSw; go_simp⟩) (by assumption) ?_
          simp only [Act.put, List.getElem_toArray, List.getElem_cons_zero, List.getElem_cons_succ, List.setIfInBounds_toArray, List.set_cons_zero, List.set_cons_succ]
          refine wpAnyH_take (i := 8) (v := .int .i64 (n0 : Int)) rfl (by kernel_rfl) (by kernel_rfl) (by kernel_rfl) (fun c a w h => hKp c a _ _ w h) (Or.inl ⟨by kernel_rfl, fun w hSw => by dsimp only at hSw; obtain g0 := hSw; go_simp⟩) (by assumption) ?_
          simp only [Act.put, List.getElem_toArray, List.getElem_cons_zero, List.getElem_cons_succ, List.setIfInBounds_toArray, List.set_cons_zero, List.set_cons_succ]
          refine wpAnyH_take (i := 9) (v := .int .i64 (cap : Int)) rfl (by kernel_rfl) (by kernel_rfl) (by kernel_rfl) (fun c a w h => hKp c a _ _ w h) (Or.inl ⟨by kernel_rfl, fun w hSw => by dsimp only at hSw; obtain g0 := hSw; go_simp⟩) (by assumption) ?_
          simp only [Act.put, List.getElem_toArray, List.getElem_cons_zero, List.getElem_cons_succ, List.setIfInBounds_toArray, List.set_cons_zero, List.set_cons_succ]
          refine wpAnyH_take (i := 10) (v := .slice (some ⟨g, 0, none⟩) (im.lks.length - cap) 0) rfl (by kernel_rfl) (by kernel_rfl) (by kernel_rfl) (fun c a w h => hKp c a _ _ w h) (Or.inl ⟨by kernel_rfl, fun w hSw => by dsimp only at hSw; obtain g0 := hSw; go_simp⟩) (by assumption) ?_
          simp only [Act.put, List.getElem_toArray, List.getElem_cons_zero, List.getElem_cons_succ, List.setIfInBounds_toArray, List.set_cons_zero, List.set_cons_succ]
          refine wpAnyH_ready (rs := [0]) (by kernel_rfl) (by simp) ?_
          refine AllReadyH.cons rfl (fun Kx hKx => ?_) AllReadyH.nil
          try rw [if_pos (by kernel_rfl)]
          go_simp
          refine hKx.out _ _ (HC.out _ HBA.out) (fun hHeld => ?_)
          clear hKx Kx
          try simp only [Act.put, List.getElem_toArray, List.getElem_cons_zero, List.getElem_cons_succ, List.setIfInBounds_toArray, List.set_cons_zero, List.set_cons_succ]
          refine wpAnyH_ready (rs := [5]) (by kernel_rfl) (by simp) ?_
          refine AllReadyH.cons rfl (fun Kx hKx => ?_) AllReadyH.nil
          refine step_append_anyW _ rfl _ _ 29 rfl wr.heap.size 49 i0 (.agg #[.string ByteArray.empty, .string ByteArray.empty, .string ByteArray.empty, .string ByteArray.empty, .string ByteArray.empty, .string ByteArray.empty]) 6 96 Tryz.underlying29 hi hz0 hz1 hz2 rfl (by decide) _ 0 [] rfl HN1.out _ _ _ (((im.lks.map lkC).flatMap id).take (n0 * 6)) rfl (HL1.out.trans (by omega)) (fun h => by cases h) (fun ad ha j u hu => by cases ha; exact own_newsT HOA.out j u hu) (fun u hu => lkC_oneZ _ u (List.mem_of_mem_take hu)) (by unfold maxLen; omega) (by omega) (by simp) ?_
          intro v6 w6 hown6 hgrow6
          have hb6 := HBA.out.grown hgrow6 (by simp) (fun r e => by cases e; exact Nat.le_refl _)
          have HO6 := own_belowW (HOW.out) hb6
          refine hKx.out _ _ (HC.out _ hb6) (fun hHeld => ?_)
          clear hKx Kx
          try simp only [Act.put, List.getElem_toArray, List.getElem_cons_zero, List.getElem_cons_succ, List.setIfInBounds_toArray, List.set_cons_zero, List.set_cons_succ]
          refine wpAnyH_ready (rs := [11]) (by kernel_rfl) (by simp) ?_
          refine AllReadyH.cons rfl (fun Kx hKx => ?_) AllReadyH.nil
          refine step_append_anyW _ rfl _ _ 29 rfl wr.heap.size 49 i0 (.agg #[.string ByteArray.empty, .string ByteArray.empty, .string ByteArray.empty, .string ByteArray.empty, .string ByteArray.empty, .string ByteArray.empty]) 6 96 Tryz.underlying29 hi hz0 hz1 hz2 rfl (by decide) _ _ _ rfl hown6 _ _ _ (((im.lks.map lkC).flatMap id).drop (cap * 6)) rfl (HL2.out.trans (by omega)) (fun h => by cases h) (fun ad ha j u hu => by rw [HX0.out] at hu; simp at hu) (fun u hu => lkC_oneZ _ u (List.mem_of_mem_drop hu)) (by unfold maxLen; omega) (by omega) hb6.size ?_
          intro v8 w8 hown8 hgrow8
          have hb8 := hb6.grown hgrow8 hb6.size (fun r e => (hown6.lt r e).1)
          refine hKx.out _ _ (HC.out _ hb8) (fun hHeld => ?_)
          clear hKx Kx
          try simp only [Act.put, List.getElem_toArray, List.getElem_cons_zero, List.getElem_cons_succ, List.setIfInBounds_toArray, List.set_cons_zero, List.set_cons_succ]
          have hx8 := (HTU.out.below hb8).x
          obtain ⟨q0, q1, q2, q3, q4, q5⟩ := cells6 hx8
          have f7 := frozenY hx8 1
          have hT8 := HTU.out.cutL hb8 (l := cutZ n0 im.lks) (by rw [cut_cellsZ n0 im.lks (lkC_all _), HN01.out]; rw [List.nil_append] at hown8; exact hown8) HLC.out (fun y hy => HTU.out.o.s.lks y ((cut_subZ n0 im.lks).subset hy))
          have hC8 := HC.out _ hb8
          obtain ⟨va8, vn8, vc8, rfl⟩ := own_sliceZ hown8
          refine wpAnyH_take (i := 12) (v := .pointer (some ⟨nX, 1, none⟩)) rfl (by kernel_rfl) (by kernel_rfl) (by kernel_rfl) (fun c a w h => hKp c a _ _ w h) (Or.inl ⟨by kernel_rfl, fun w hSw => by dsimp only at hSw; obtain g0 := hSw; go_simp⟩) (by assumption) ?_
          simp only [Act.put, List.getElem_toArray, List.getElem_cons_zero, List.getElem_cons_succ, List.setIfInBounds_toArray, List.set_cons_zero, List.set_cons_succ]
          have HT8 := Lib.hid hT8
          have HC9 := Lib.hid ((World.cell?_of_block (a := ⟨nI, 1, none⟩) (heap_setCellZ (W := w8) (k := 1) (v := .slice va8 vn8 vc8) HTU.out.ne)).trans hC8)
          clear hT8 hx8 hC8
          refine wpAnyH_ready (rs := [13]) (by kernel_rfl) (by simp) ?_
          refine AllReadyH.cons rfl (fun Kx hKx => ?_) AllReadyH.nil
          try rw [if_pos (by kernel_rfl)]
          go_simp
          refine hKx.out _ _ HC9.out (fun hHeld => ?_)
          clear hKx Kx
          try simp only [Act.put, List.getElem_toArray, List.getElem_cons_zero, List.getElem_cons_succ, List.setIfInBounds_toArray, List.set_cons_zero, List.set_cons_succ]
          refine wpAnyH_done (by kernel_rfl) ?_ _
          exact hfin v6 va8 vn8 vc8 _ HT8.out
          rintro u1 a8 m8 c8 W9 hT9
          have HT9 := Lib.hid hT9
          clear hT9
          go_wp2_with fail
          go_meet
          case rel => exact ⟨48, _, _, _, _, _, rfl, HT9.out, HLE.out⟩
        · have hn1 := HN01.out
          have hq1 : ¬ cap = n1 := hcap
          clear hn1 hcap
          have HC := Lib.hid (fun w' (h : Below wr.heap.size wr w') => show w'.cell? ⟨nI, 1, none⟩ = some (.slice (some ⟨g, 0, none⟩) im.lks.length cap) from (cells6 (HTU.out.below h).i).2.1)
          refine wp_region_held_drew (S := fun w' => w'.cell? ⟨nI, 1, none⟩ = some (.slice (some ⟨g, 0, none⟩) im.lks.length cap)) (by kernel_rfl) (HC.out _ (Below.drew (Below.refl _ _))) (fun hHeld => ?_)
          apply held_shellV (R := fun (_ : Value) (a8 : Option Addr) (m8 c8 : Nat) (w' : World) => LeO w wr w' nX b { im with lks := cutZ n0 im.lks } va (.slice a8 m8 c8) vr vm)
          exact fun _ _ d _ _ h => by cases d <;> exact h
          rotate_left 1
          intro KK hKp hfin
          refine wpAnyH_take (i := 1) (v := .pointer (some ⟨nI, 1, none⟩)) rfl (by kernel_rfl) (by kernel_rfl) (by kernel_rfl) (fun c a w h => hKp c a _ _ w h) (Or.inl ⟨by kernel_rfl, fun w hSw => by dsimp only at hSw; obtain g0 := hSw; go_simp⟩) (by assumption) ?_
          simp only [Act.put, List.getElem_toArray, List.getElem_cons_zero, List.getElem_cons_succ, List.setIfInBounds_toArray, List.set_cons_zero, List.set_cons_succ]
          refine wpAnyH_take (i := 2) (v := .slice (some ⟨g, 0, none⟩) im.lks.length cap) rfl (by kernel_rfl) (by kernel_rfl) (by kernel_rfl) (fun c a w h => hKp c a _ _ w h) (Or.inl ⟨by kernel_rfl, fun w hSw => by dsimp only at hSw; obtain g0 := hSw; go_simp⟩) (by assumption) ?_
          simp only [Act.put, List.getElem_toArray, List.getElem_cons_zero, List.getElem_cons_succ, List.setIfInBounds_toArray, List.set_cons_zero, List.set_cons_succ]
          refine wpAnyH_take (i := 3) (v := .int .i64 (n0 : Int)) rfl (by kernel_rfl) (by kernel_rfl) (by kernel_rfl) (fun c a w h => hKp c a _ _ w h) (Or.inl ⟨by kernel_rfl, fun w hSw => by dsimp only at hSw; obtain g0 := hSw; go_simp⟩) (by assumption) ?_
          simp only [Act.put, List.getElem_toArray, List.getElem_cons_zero, List.getElem_cons_succ, List.setIfInBounds_toArray, List.set_cons_zero, List.set_cons_succ]
          refine wpAnyH_take (i := 4) (v := .slice (some ⟨g, 0, none⟩) n0 cap) rfl (by kernel_rfl) (by kernel_rfl) (by kernel_rfl) (fun c a w h => hKp c a _ _ w h) (Or.inl ⟨by kernel_rfl, fun w hSw => by dsimp only at hSw; obtain g0 := hSw; go_simp⟩) (by assumption) ?_
          simp only [Act.put, List.getElem_toArray, List.getElem_cons_zero, List.getElem_cons_succ, List.setIfInBounds_toArray, List.set_cons_zero, List.set_cons_succ]
          refine wpAnyH_take (i := 6) (v := .pointer (some ⟨nI, 1, none⟩)) rfl (by kernel_rfl) (by kernel_rfl) (by kernel_rfl) (fun c a w h => hKp c a _ _ w h) (Or.inl ⟨by kernel_rfl, fun w hSw => by dsimp only at hSw; obtain g0 := hSw; go_simp⟩) (by assumption) ?_
          simp only [Act.put, List.getElem_toArray, List.getElem_cons_zero, List.getElem_cons_succ, List.setIfInBounds_toArray, List.set_cons_zero, List.set_cons_succ]
          refine wpAnyH_take (i := 7) (v := .slice (some ⟨g, 0, none⟩) im.lks.length cap) rfl (by kernel_rfl) (by kernel_rfl) (by kernel_rfl) (fun c a w h => hKp c a _ _ w h) (Or.inl ⟨by kernel_rfl, fun w hSw => by dsimp only at hSw; obtain g0 := hSw; go_simp⟩) (by assumption) ?_
          simp only [Act.put, List.getElem_toArray, List.getElem_cons_zero, List.getElem_cons_succ, List.setIfInBounds_toArray, List.set_cons_zero, List.set_cons_succ]
          refine wpAnyH_take (i := 8) (v := .int .i64 (n0 : Int)) rfl (by kernel_rfl) (by kernel_rfl) (by kernel_rfl) (fun c a w h => hKp c a _ _ w h) (Or.inl ⟨by kernel_rfl, fun w hSw => by dsimp only at hSw; obtain g0 := hSw; go_simp⟩) (by assumption) ?_
          simp only [Act.put, List.getElem_toArray, List.getElem_cons_zero, List.getElem_cons_succ, List.setIfInBounds_toArray, List.set_cons_zero, List.set_cons_succ]
          refine wpAnyH_take (i := 9) (v := .int .i64 (n1 : Int)) rfl (by kernel_rfl) (by kernel_rfl) (by kernel_rfl) (fun c a w h => hKp c a _ _ w h) (Or.inl ⟨by kernel_rfl, fun w hSw => by dsimp only at hSw; obtain g0 := hSw; go_simp⟩) (by assumption) ?_
          simp only [Act.put, List.getElem_toArray, List.getElem_cons_zero, List.getElem_cons_succ, List.setIfInBounds_toArray, List.set_cons_zero, List.set_cons_succ]
          refine wpAnyH_take (i := 10) (v := .slice (some ⟨g, n1 * 6, none⟩) (im.lks.length - n1) (cap - n1)) rfl (by kernel_rfl) (by kernel_rfl) (by kernel_rfl) (fun c a w h => hKp c a _ _ w h) (Or.inl ⟨by kernel_rfl, fun w hSw => by dsimp only at hSw; obtain g0 := hSw; go_simp⟩) (by assumption) ?_
          simp only [Act.put, List.getElem_toArray, List.getElem_cons_zero, List.getElem_cons_succ, List.setIfInBounds_toArray, List.set_cons_zero, List.set_cons_succ]
          refine wpAnyH_ready (rs := [0]) (by kernel_rfl) (by simp) ?_
          refine AllReadyH.cons rfl (fun Kx hKx => ?_) AllReadyH.nil
          try rw [if_pos (by kernel_rfl)]
          go_simp
          refine hKx.out _ _ (HC.out _ HBA.out) (fun hHeld => ?_)
          clear hKx Kx
          try simp only [Act.put, List.getElem_toArray, List.getElem_cons_zero, List.getElem_cons_succ, List.setIfInBounds_toArray, List.set_cons_zero, List.set_cons_succ]
          refine wpAnyH_ready (rs := [5]) (by kernel_rfl) (by simp) ?_
          refine AllReadyH.cons rfl (fun Kx hKx => ?_) AllReadyH.nil
          refine step_append_anyW _ rfl _ _ 29 rfl wr.heap.size 49 i0 (.agg #[.string ByteArray.empty, .string ByteArray.empty, .string ByteArray.empty, .string ByteArray.empty, .string ByteArray.empty, .string ByteArray.empty]) 6 96 Tryz.underlying29 hi hz0 hz1 hz2 rfl (by decide) _ 0 [] rfl HN1.out _ _ _ (((im.lks.map lkC).flatMap id).take (n0 * 6)) rfl (HL1.out.trans (by omega)) (fun h => by cases h) (fun ad ha j u hu => by cases ha; exact own_newsT HOA.out j u hu) (fun u hu => lkC_oneZ _ u (List.mem_of_mem_take hu)) (by unfold maxLen; omega) (by omega) (by simp) ?_
          intro v6 w6 hown6 hgrow6
          have hb6 := HBA.out.grown hgrow6 (by simp) (fun r e => by cases e; exact Nat.le_refl _)
          have HO6 := own_belowW (HOW.out) hb6
          refine hKx.out _ _ (HC.out _ hb6) (fun hHeld => ?_)
          clear hKx Kx
          try simp only [Act.put, List.getElem_toArray, List.getElem_cons_zero, List.getElem_cons_succ, List.setIfInBounds_toArray, List.set_cons_zero, List.set_cons_succ]
          refine wpAnyH_ready (rs := [11]) (by kernel_rfl) (by simp) ?_
          refine AllReadyH.cons rfl (fun Kx hKx => ?_) AllReadyH.nil
          refine step_append_anyW _ rfl _ _ 29 rfl wr.heap.size 49 i0 (.agg #[.string ByteArray.empty, .string ByteArray.empty, .string ByteArray.empty, .string ByteArray.empty, .string ByteArray.empty, .string ByteArray.empty]) 6 96 Tryz.underlying29 hi hz0 hz1 hz2 rfl (by decide) _ _ _ rfl hown6 _ _ _ (((im.lks.map lkC).flatMap id).drop (n1 * 6)) rfl (HL2.out.trans (by omega)) (fun h => by cases h) (fun ad ha j u hu => by cases ha; exact own_newsZ HO6 j u hu) (fun u hu => lkC_oneZ _ u (List.mem_of_mem_drop hu)) (by unfold maxLen; omega) (by omega) hb6.size ?_
          intro v8 w8 hown8 hgrow8
          have hb8 := hb6.grown hgrow8 hb6.size (fun r e => (hown6.lt r e).1)
          refine hKx.out _ _ (HC.out _ hb8) (fun hHeld => ?_)
          clear hKx Kx
          try simp only [Act.put, List.getElem_toArray, List.getElem_cons_zero, List.getElem_cons_succ, List.setIfInBounds_toArray, List.set_cons_zero, List.set_cons_succ]
          have hx8 := (HTU.out.below hb8).x
          obtain ⟨q0, q1, q2, q3, q4, q5⟩ := cells6 hx8
          have f7 := frozenY hx8 1
          have hT8 := HTU.out.cutL hb8 (l := cutZ n0 im.lks) (by rw [cut_cellsZ n0 im.lks (lkC_all _), HN01.out]; rw [List.nil_append] at hown8; exact hown8) HLC.out (fun y hy => HTU.out.o.s.lks y ((cut_subZ n0 im.lks).subset hy))
          have hC8 := HC.out _ hb8
          obtain ⟨va8, vn8, vc8, rfl⟩ := own_sliceZ hown8
          refine wpAnyH_take (i := 12) (v := .pointer (some ⟨nX, 1, none⟩)) rfl (by kernel_rfl) (by kernel_rfl) (by kernel_rfl) (fun c a w h => hKp c a _ _ w h) (Or.inl ⟨by kernel_rfl, fun w hSw => by dsimp only at hSw; obtain g0 := hSw; go_simp⟩) (by assumption) ?_
          simp only [Act.put, List.getElem_toArray, List.getElem_cons_zero, List.getElem_cons_succ, List.setIfInBounds_toArray, List.set_cons_zero, List.set_cons_succ]
          have HT8 := Lib.hid hT8
          have HC9 := Lib.hid ((World.cell?_of_block (a := ⟨nI, 1, none⟩) (heap_setCellZ (W := w8) (k := 1) (v := .slice va8 vn8 vc8) HTU.out.ne)).trans hC8)
          clear hT8 hx8 hC8
          refine wpAnyH_ready (rs := [13]) (by kernel_rfl) (by simp) ?_
          refine AllReadyH.cons rfl (fun Kx hKx => ?_) AllReadyH.nil
          try rw [if_pos (by kernel_rfl)]
          go_simp
          refine hKx.out _ _ HC9.out (fun hHeld => ?_)
          clear hKx Kx
          try simp only [Act.put, List.getElem_toArray, List.getElem_cons_zero, List.getElem_cons_succ, List.setIfInBounds_toArray, List.set_cons_zero, List.set_cons_succ]
          refine wpAnyH_done (by kernel_rfl) ?_ _
          exact hfin v6 va8 vn8 vc8 _ HT8.out
          rintro u1 a8 m8 c8 W9 hT9
          have HT9 := Lib.hid hT9
          clear hT9
          go_wp2_with fail
          go_meet
          case rel => exact ⟨48, _, _, _, _, _, rfl, HT9.out, HLE.out⟩
      · have hd : decide (0 < im.lks.length) = false := decide_eq_false hz
        have hd2 : ¬ (0 : Int) < (im.lks.length : Int) := by omega
        obtain ⟨sa, sn, sc, hv0⟩ := own_sliceZ HTU.out.o.l
        obtain ⟨hs0, -⟩ := own_lenZ (hv0 ▸ HTU.out.o.l)
        subst hv0
        rw [hs0] at z1
        clear hz hs0
        go_wp2_with fail
        go_meet
        case rel => exact ⟨0, im, _, _, _, _, rfl, HTU.out.leo, LessZ.refl im⟩
    · obtain ⟨z0, z1, z2, z3, z4, z5⟩ := cells6 HTU.out.i
      obtain ⟨i0, hi, hz0, hz1, hz2⟩ := info_parts rlInfo
      have hz : 0 < im.rls.length := by have := HFW.out.r1; omega
      obtain ⟨n0, hn0⟩ : ∃ n, restV q1 im.rls.length = n := ⟨_, rfl⟩
      have hnl : n0 < im.rls.length := by rw [← hn0]; exact restV_lt q1 _ hz
      have RR := Lib.hid (fun w5 => show Calls Tryz.prog 10 #[.int .i64 q1, .int .i64 (im.rls.length : Int)] w5 (fun e w' => e = .returned (.int .i64 (n0 : Int)) ∧ w5 = w') from hn0 ▸ rest13_any q1 im.rls.length w5 hz (by have := HFW.out.r; omega))
      obtain ⟨n1, hn1⟩ : ∃ n, n0 + 1 = n := ⟨_, rfl⟩
      have HN01 := Lib.hid hn1
      have HLC := Lib.hid (show 0 + n0 + (im.rls.length - n1) = (cutZ n0 im.rls).length by have := cut_lenZ hnl; unfold cutZ; omega)
      have HLE := Lib.hid (LessZ.cutR hnl)
      obtain ⟨g, cap, hv, hle, hpos, hmax⟩ : ∃ g cap, vr = .slice (some ⟨g, 0, none⟩) im.rls.length cap ∧ im.rls.length ≤ cap ∧ 0 < cap ∧ cap ≤ maxLen := by
        rcases slice_casesZ HTU.out.o.r with ⟨_, h0⟩ | ⟨g, _, h0⟩ | h
        · omega
        · omega
        · exact h
      subst hv
      have HBA := Lib.hid (show Below wr.heap.size wr (wr.drew.alloc (.cells #[] 52)) from (Below.drew (Below.refl wr.heap.size wr)).alloc (Nat.le_refl _) _)
      have HN1 := Lib.hid (own_emptyZ wr.drew 52 9)
      have hfl := HTU.out.o.r.1
      have HL1 := Lib.hid (show (((im.rls.map rlC).flatMap id).take (n0 * 9)).length = n0 * 9 by rw [List.length_take, hfl]; omega)
      have HL2 := Lib.hid (show (((im.rls.map rlC).flatMap id).drop (n1 * 9)).length = (im.rls.length - n1) * 9 by rw [List.length_drop, hfl]; omega)
      have HOW := Lib.hid HTU.out.o.r
      have HOA := Lib.hid (own_belowW HTU.out.o.r HBA.out)
      have hsI := lt_of_block HTU.out.i
      have hp0 : (0 : Int) ≤ (n0 : Int) := by omega
      have hp1 : (n0 : Int) ≤ (im.rls.length : Int) := by omega
      have hp2 : (n0 : Int) ≤ (cap : Int) := by omega
      have hp3 : (im.rls.length : Int) ≤ (cap : Int) := by omega
      have hp4 : IntKind.i64.wrap ((n0 : Int) + 1) = (n1 : Int) := by rw [IntWalk.i64_in _ ⟨by omega, by have := HFW.out.r; omega⟩]; omega
      have hp5 : (0 : Int) ≤ (n1 : Int) := by omega
      have hp6 : (n1 : Int) ≤ (im.rls.length : Int) := by omega
      have hp7 : (n1 : Int) ≤ (cap : Int) := by omega
      have hle60 := HFW.out.r
      unfold maxLen at hmax
      go_upto_region 23 with (go_at_call 10; (with_reducible refine (RR.out _).mono ?_); rintro e w' ⟨rfl, rfl⟩)
      clear z0 z1 z2 z3 z4 z5 hn0 hn1 hfl d0 d1 hz
      by_cases hcap : cap = n1
      · obtain rfl : cap = n1 := hcap
        have hn1 := HN01.out
        have HLC := Lib.hid (show 0 + n0 + 0 = (cutZ n0 im.rls).length by have := HLC.out; omega)
        have HX0 := Lib.hid (show (((im.rls.map rlC).flatMap id).drop (cap * 9)) = [] from List.eq_nil_of_length_eq_zero (HL2.out.trans (by rw [show im.rls.length - cap = 0 by omega, Nat.zero_mul])))
        clear hn1
        have HC := Lib.hid (fun w' (h : Below wr.heap.size wr w') => show w'.cell? ⟨nI, 2, none⟩ = some (.slice (some ⟨g, 0, none⟩) im.rls.length cap) from (cells6 (HTU.out.below h).i).2.2.1)
        refine wp_region_held_drew (S := fun w' => w'.cell? ⟨nI, 2, none⟩ = some (.slice (some ⟨g, 0, none⟩) im.rls.length cap)) (by kernel_rfl) (HC.out _ (Below.drew (Below.refl _ _))) (fun hHeld => ?_)
        apply held_shellV (R := fun (_ : Value) (a8 : Option Addr) (m8 c8 : Nat) (w' : World) => LeO w wr w' nX b { im with rls := cutZ n0 im.rls } va vl (.slice a8 m8 c8) vm)
        exact fun _ _ d _ _ h => by cases d <;> exact h
        rotate_left 1
        intro KK hKp hfin
        refine wpAnyH_take (i := 1) (v := .pointer (some ⟨nI, 2, none⟩)) rfl (by kernel_rfl) (by kernel_rfl) (by kernel_rfl) (fun c a w h => hKp c a _ _ w h) (Or.inl ⟨by kernel_rfl, fun w hSw => by dsimp only at hSw; obtain g0 := hSw; go_simp⟩) (by assumption) ?_
        simp only [Act.put, List.getElem_toArray, List.getElem_cons_zero, List.getElem_cons_succ, List.setIfInBounds_toArray, List.set_cons_zero, List.set_cons_succ]
        refine wpAnyH_take (i := 2) (v := .slice (some ⟨g, 0, none⟩) im.rls.length cap) rfl (by kernel_rfl) (by kernel_rfl) (by kernel_rfl) (fun c a w h => hKp c a _ _ w h) (Or.inl ⟨by kernel_rfl, fun w hSw => by dsimp only at hSw; obtain g0 := hSw; go_simp⟩) (by assumption) ?_
        simp only [Act.put, List.getElem_toArray, List.getElem_cons_zero, List.getElem_cons_succ, List.setIfInBounds_toArray, List.set_cons_zero, List.set_cons_succ]
        refine wpAnyH_take (i := 3) (v := .int .i64 (n0 : Int)) rfl (by kernel_rfl) (by kernel_rfl) (by kernel_rfl) (fun c a w h => hKp c a _ _ w h) (Or.inl ⟨by kernel_rfl, fun w hSw => by dsimp only at hSw; obtain g0 := hSw; go_simp⟩) (by assumption) ?_
        simp only [Act.put, List.getElem_toArray, List.getElem_cons_zero, List.getElem_cons_succ, List.setIfInBounds_toArray, List.set_cons_zero, List.set_cons_succ]
        refine wpAnyH_take (i := 4) (v := .slice (some ⟨g, 0, none⟩) n0 cap) rfl (by kernel_rfl) (by kernel_rfl) (by kernel_rfl) (fun c a w h => hKp c a _ _ w h) (Or.inl ⟨by kernel_rfl, fun w hSw => by dsimp only at hSw; obtain g0 := hSw; go_simp⟩) (by assumption) ?_
        simp only [Act.put, List.getElem_toArray, List.getElem_cons_zero, List.getElem_cons_succ, List.setIfInBounds_toArray, List.set_cons_zero, List.set_cons_succ]
        refine wpAnyH_take (i := 6) (v := .pointer (some ⟨nI, 2, none⟩)) rfl (by kernel_rfl) (by kernel_rfl) (by kernel_rfl) (fun c a w h => hKp c a _ _ w h) (Or.inl ⟨by kernel_rfl, fun w hSw => by dsimp only at hSw; obtain g0 := hSw; go_simp⟩) (by assumption) ?_
        simp only [Act.put, List.getElem_toArray, List.getElem_cons_zero, List.getElem_cons_succ, List.setIfInBounds_toArray, List.set_cons_zero, List.set_cons_succ]
        refine wpAnyH_take (i := 7) (v := .slice (some ⟨g, 0, none⟩) im.rls.length cap) rfl (by kernel_rfl) (by kernel_rfl) (by kernel_rfl) (fun c a w h => hKp c a _ _ w h) (Or.inl ⟨by kernel_rfl, fun w hSw => by dsimp only at hSw; obtain g0 := hSw; go_simp⟩) (by assumption) ?_
        simp only [Act.put, List.getElem_toArray, List.getElem_cons_zero, List.getElem_cons_succ, List.setIfInBounds_toArray, List.set_cons_zero, List.set_cons_succ]
        refine wpAnyH_take (i := 8) (v := .int .i64 (n0 : Int)) rfl (by kernel_rfl) (by kernel_rfl) (by kernel_rfl) (fun c a w h => hKp c a _ _ w h) (Or.inl ⟨by kernel_rfl, fun w hSw => by dsimp only at hSw; obtain g0 := hSw; go_simp⟩) (by assumption) ?_
        simp only [Act.put, List.getElem_toArray, List.getElem_cons_zero, List.getElem_cons_succ, List.setIfInBounds_toArray, List.set_cons_zero, List.set_cons_succ]
        refine wpAnyH_take (i := 9) (v := .int .i64 (cap : Int)) rfl (by kernel_rfl) (by kernel_rfl) (by kernel_rfl) (fun c a w h => hKp c a _ _ w h) (Or.inl ⟨by kernel_rfl, fun w hSw => by dsimp only at hSw; obtain g0 := hSw; go_simp⟩) (by assumption) ?_
        simp only [Act.put, List.getElem_toArray, List.getElem_cons_zero, List.getElem_cons_succ, List.setIfInBounds_toArray, List.set_cons_zero, List.set_cons_succ]
        refine wpAnyH_take (i := 10) (v := .slice (some ⟨g, 0, none⟩) (im.rls.length - cap) 0) rfl (by kernel_rfl) (by kernel_rfl) (by kernel_rfl) (fun c a w h => hKp c a _ _ w h) (Or.inl ⟨by kernel_rfl, fun w hSw => by dsimp only at hSw; obtain g0 := hSw; go_simp⟩) (by assumption) ?_
        simp only [Act.put, List.getElem_toArray, List.getElem_cons_zero, List.getElem_cons_succ, List.setIfInBounds_toArray, List.set_cons_zero, List.set_cons_succ]
        refine wpAnyH_ready (rs := [0]) (by kernel_rfl) (by simp) ?_
        refine AllReadyH.cons rfl (fun Kx hKx => ?_) AllReadyH.nil
        try rw [if_pos (by kernel_rfl)]
        go_simp
        refine hKx.out _ _ (HC.out _ HBA.out) (fun hHeld => ?_)
        clear hKx Kx
        try simp only [Act.put, List.getElem_toArray, List.getElem_cons_zero, List.getElem_cons_succ, List.setIfInBounds_toArray, List.set_cons_zero, List.set_cons_succ]
        refine wpAnyH_ready (rs := [5]) (by kernel_rfl) (by simp) ?_
        refine AllReadyH.cons rfl (fun Kx hKx => ?_) AllReadyH.nil
        refine step_append_anyW _ rfl _ _ 30 rfl wr.heap.size 52 i0 (.agg #[.int .i64 0, .int .i64 0, .bool false, .string ByteArray.empty, .string ByteArray.empty, .string ByteArray.empty, .string ByteArray.empty, .string ByteArray.empty, .string ByteArray.empty]) 9 120 Tryz.underlying30 hi hz0 hz1 hz2 rfl (by decide) _ 0 [] rfl HN1.out _ _ _ (((im.rls.map rlC).flatMap id).take (n0 * 9)) rfl (HL1.out.trans (by omega)) (fun h => by cases h) (fun ad ha j u hu => by cases ha; exact own_newsT HOA.out j u hu) (fun u hu => flat_oneZ _ u (List.mem_of_mem_take hu)) (by unfold maxLen; omega) (by omega) (by simp) ?_
        intro v6 w6 hown6 hgrow6
        have hb6 := HBA.out.grown hgrow6 (by simp) (fun r e => by cases e; exact Nat.le_refl _)
        have HO6 := own_belowW (HOW.out) hb6
        refine hKx.out _ _ (HC.out _ hb6) (fun hHeld => ?_)
        clear hKx Kx
        try simp only [Act.put, List.getElem_toArray, List.getElem_cons_zero, List.getElem_cons_succ, List.setIfInBounds_toArray, List.set_cons_zero, List.set_cons_succ]
        refine wpAnyH_ready (rs := [11]) (by kernel_rfl) (by simp) ?_
        refine AllReadyH.cons rfl (fun Kx hKx => ?_) AllReadyH.nil
        refine step_append_anyW _ rfl _ _ 30 rfl wr.heap.size 52 i0 (.agg #[.int .i64 0, .int .i64 0, .bool false, .string ByteArray.empty, .string ByteArray.empty, .string ByteArray.empty, .string ByteArray.empty, .string ByteArray.empty, .string ByteArray.empty]) 9 120 Tryz.underlying30 hi hz0 hz1 hz2 rfl (by decide) _ _ _ rfl hown6 _ _ _ (((im.rls.map rlC).flatMap id).drop (cap * 9)) rfl (HL2.out.trans (by omega)) (fun h => by cases h) (fun ad ha j u hu => by rw [HX0.out] at hu; simp at hu) (fun u hu => flat_oneZ _ u (List.mem_of_mem_drop hu)) (by unfold maxLen; omega) (by omega) hb6.size ?_
        intro v8 w8 hown8 hgrow8
        have hb8 := hb6.grown hgrow8 hb6.size (fun r e => (hown6.lt r e).1)
        refine hKx.out _ _ (HC.out _ hb8) (fun hHeld => ?_)
        clear hKx Kx
        try simp only [Act.put, List.getElem_toArray, List.getElem_cons_zero, List.getElem_cons_succ, List.setIfInBounds_toArray, List.set_cons_zero, List.set_cons_succ]
        have hx8 := (HTU.out.below hb8).x
        obtain ⟨q0, q1, q2, q3, q4, q5⟩ := cells6 hx8
        have f7 := frozenY hx8 2
        have hT8 := HTU.out.cutR hb8 (l := cutZ n0 im.rls) (by rw [cut_cellsZ n0 im.rls (rlC_all _), HN01.out]; rw [List.nil_append] at hown8; exact hown8) HLC.out (fun y hy => HTU.out.o.s.rls y ((cut_subZ n0 im.rls).subset hy))
        have hC8 := HC.out _ hb8
        obtain ⟨va8, vn8, vc8, rfl⟩ := own_sliceZ hown8
        refine wpAnyH_take (i := 12) (v := .pointer (some ⟨nX, 2, none⟩)) rfl (by kernel_rfl) (by kernel_rfl) (by kernel_rfl) (fun c a w h => hKp c a _ _ w h) (Or.inl ⟨by kernel_rfl, fun w hSw => by dsimp only at hSw; obtain g0 := hSw; go_simp⟩) (by assumption) ?_
        simp only [Act.put, List.getElem_toArray, List.getElem_cons_zero, List.getElem_cons_succ, List.setIfInBounds_toArray, List.set_cons_zero, List.set_cons_succ]
        have HT8 := Lib.hid hT8
        have HC9 := Lib.hid ((World.cell?_of_block (a := ⟨nI, 2, none⟩) (heap_setCellZ (W := w8) (k := 2) (v := .slice va8 vn8 vc8) HTU.out.ne)).trans hC8)
        clear hT8 hx8 hC8
        refine wpAnyH_ready (rs := [13]) (by kernel_rfl) (by simp) ?_
        refine AllReadyH.cons rfl (fun Kx hKx => ?_) AllReadyH.nil
        try rw [if_pos (by kernel_rfl)]
        go_simp
        refine hKx.out _ _ HC9.out (fun hHeld => ?_)
        clear hKx Kx
        try simp only [Act.put, List.getElem_toArray, List.getElem_cons_zero, List.getElem_cons_succ, List.setIfInBounds_toArray, List.set_cons_zero, List.set_cons_succ]
        refine wpAnyH_done (by kernel_rfl) ?_ _
        exact hfin v6 va8 vn8 vc8 _ HT8.out
        rintro u1 a8 m8 c8 W9 hT9
        have HT9 := Lib.hid hT9
        clear hT9
        go_wp2_with fail
        go_meet
        case rel => exact ⟨51, _, _, _, _, _, rfl, HT9.out, HLE.out⟩
      · have hn1 := HN01.out
        have hq1 : ¬ cap = n1 := hcap
        clear hn1 hcap
        have HC := Lib.hid (fun w' (h : Below wr.heap.size wr w') => show w'.cell? ⟨nI, 2, none⟩ = some (.slice (some ⟨g, 0, none⟩) im.rls.length cap) from (cells6 (HTU.out.below h).i).2.2.1)
        refine wp_region_held_drew (S := fun w' => w'.cell? ⟨nI, 2, none⟩ = some (.slice (some ⟨g, 0, none⟩) im.rls.length cap)) (by kernel_rfl) (HC.out _ (Below.drew (Below.refl _ _))) (fun hHeld => ?_)
        apply held_shellV (R := fun (_ : Value) (a8 : Option Addr) (m8 c8 : Nat) (w' : World) => LeO w wr w' nX b { im with rls := cutZ n0 im.rls } va vl (.slice a8 m8 c8) vm)
        exact fun _ _ d _ _ h => by cases d <;> exact h
        rotate_left 1
        intro KK hKp hfin
        refine wpAnyH_take (i := 1) (v := .pointer (some ⟨nI, 2, none⟩)) rfl (by kernel_rfl) (by kernel_rfl) (by kernel_rfl) (fun c a w h => hKp c a _ _ w h) (Or.inl ⟨by kernel_rfl, fun w hSw => by dsimp only at hSw; obtain g0 := hSw; go_simp⟩) (by assumption) ?_
        simp only [Act.put, List.getElem_toArray, List.getElem_cons_zero, List.getElem_cons_succ, List.setIfInBounds_toArray, List.set_cons_zero, List.set_cons_succ]
        refine wpAnyH_take (i := 2) (v := .slice (some ⟨g, 0, none⟩) im.rls.length cap) rfl (by kernel_rfl) (by kernel_rfl) (by kernel_rfl) (fun c a w h => hKp c a _ _ w h) (Or.inl ⟨by kernel_rfl, fun w hSw => by dsimp only at hSw; obtain g0 := hSw; go_simp⟩) (by assumption) ?_
        simp only [Act.put, List.getElem_toArray, List.getElem_cons_zero, List.getElem_cons_succ, List.setIfInBounds_toArray, List.set_cons_zero, List.set_cons_succ]
        refine wpAnyH_take (i := 3) (v := .int .i64 (n0 : Int)) rfl (by kernel_rfl) (by kernel_rfl) (by kernel_rfl) (fun c a w h => hKp c a _ _ w h) (Or.inl ⟨by kernel_rfl, fun w hSw => by dsimp only at hSw; obtain g0 := hSw; go_simp⟩) (by assumption) ?_
        simp only [Act.put, List.getElem_toArray, List.getElem_cons_zero, List.getElem_cons_succ, List.setIfInBounds_toArray, List.set_cons_zero, List.set_cons_succ]
        refine wpAnyH_take (i := 4) (v := .slice (some ⟨g, 0, none⟩) n0 cap) rfl (by kernel_rfl) (by kernel_rfl) (by kernel_rfl) (fun c a w h => hKp c a _ _ w h) (Or.inl ⟨by kernel_rfl, fun w hSw => by dsimp only at hSw; obtain g0 := hSw; go_simp⟩) (by assumption) ?_
        simp only [Act.put, List.getElem_toArray, List.getElem_cons_zero, List.getElem_cons_succ, List.setIfInBounds_toArray, List.set_cons_zero, List.set_cons_succ]
        refine wpAnyH_take (i := 6) (v := .pointer (some ⟨nI, 2, none⟩)) rfl (by kernel_rfl) (by kernel_rfl) (by kernel_rfl) (fun c a w h => hKp c a _ _ w h) (Or.inl ⟨by kernel_rfl, fun w hSw => by dsimp only at hSw; obtain g0 := hSw; go_simp⟩) (by assumption) ?_
        simp only [Act.put, List.getElem_toArray, List.getElem_cons_zero, List.getElem_cons_succ, List.setIfInBounds_toArray, List.set_cons_zero, List.set_cons_succ]
        refine wpAnyH_take (i := 7) (v := .slice (some ⟨g, 0, none⟩) im.rls.length cap) rfl (by kernel_rfl) (by kernel_rfl) (by kernel_rfl) (fun c a w h => hKp c a _ _ w h) (Or.inl ⟨by kernel_rfl, fun w hSw => by dsimp only at hSw; obtain g0 := hSw; go_simp⟩) (by assumption) ?_
        simp only [Act.put, List.getElem_toArray, List.getElem_cons_zero, List.getElem_cons_succ, List.setIfInBounds_toArray, List.set_cons_zero, List.set_cons_succ]
        refine wpAnyH_take (i := 8) (v := .int .i64 (n0 : Int)) rfl (by kernel_rfl) (by kernel_rfl) (by kernel_rfl) (fun c a w h => hKp c a _ _ w h) (Or.inl ⟨by kernel_rfl, fun w hSw => by dsimp only at hSw; obtain g0 := hSw; go_simp⟩) (by assumption) ?_
        simp only [Act.put, List.getElem_toArray, List.getElem_cons_zero, List.getElem_cons_succ, List.setIfInBounds_toArray, List.set_cons_zero, List.set_cons_succ]
        refine wpAnyH_take (i := 9) (v := .int .i64 (n1 : Int)) rfl (by kernel_rfl) (by kernel_rfl) (by kernel_rfl) (fun c a w h => hKp c a _ _ w h) (Or.inl ⟨by kernel_rfl, fun w hSw => by dsimp only at hSw; obtain g0 := hSw; go_simp⟩) (by assumption) ?_
        simp only [Act.put, List.getElem_toArray, List.getElem_cons_zero, List.getElem_cons_succ, List.setIfInBounds_toArray, List.set_cons_zero, List.set_cons_succ]
        refine wpAnyH_take (i := 10) (v := .slice (some ⟨g, n1 * 9, none⟩) (im.rls.length - n1) (cap - n1)) rfl (by kernel_rfl) (by kernel_rfl) (by kernel_rfl) (fun c a w h => hKp c a _ _ w h) (Or.inl ⟨by kernel_rfl, fun w hSw => by dsimp only at hSw; obtain g0 := hSw; go_simp⟩) (by assumption) ?_
        simp only [Act.put, List.getElem_toArray, List.getElem_cons_zero, List.getElem_cons_succ, List.setIfInBounds_toArray, List.set_cons_zero, List.set_cons_succ]
        refine wpAnyH_ready (rs := [0]) (by kernel_rfl) (by simp) ?_
        refine AllReadyH.cons rfl (fun Kx hKx => ?_) AllReadyH.nil
        try rw [if_pos (by kernel_rfl)]
        go_simp
        refine hKx.out _ _ (HC.out _ HBA.out) (fun hHeld => ?_)
        clear hKx Kx
        try simp only [Act.put, List.getElem_toArray, List.getElem_cons_zero, List.getElem_cons_succ, List.setIfInBounds_toArray, List.set_cons_zero, List.set_cons_succ]
        refine wpAnyH_ready (rs := [5]) (by kernel_rfl) (by simp) ?_
        refine AllReadyH.cons rfl (fun Kx hKx => ?_) AllReadyH.nil
        refine step_append_anyW _ rfl _ _ 30 rfl wr.heap.size 52 i0 (.agg #[.int .i64 0, .int .i64 0, .bool false, .string ByteArray.empty, .string ByteArray.empty, .string ByteArray.empty, .string ByteArray.empty, .string ByteArray.empty, .string ByteArray.empty]) 9 120 Tryz.underlying30 hi hz0 hz1 hz2 rfl (by decide) _ 0 [] rfl HN1.out _ _ _ (((im.rls.map rlC).flatMap id).take (n0 * 9)) rfl (HL1.out.trans (by omega)) (fun h => by cases h) (fun ad ha j u hu => by cases ha; exact own_newsT HOA.out j u hu) (fun u hu => flat_oneZ _ u (List.mem_of_mem_take hu)) (by unfold maxLen; omega) (by omega) (by simp) ?_
        intro v6 w6 hown6 hgrow6
        have hb6 := HBA.out.grown hgrow6 (by simp) (fun r e => by cases e; exact Nat.le_refl _)
        have HO6 := own_belowW (HOW.out) hb6
        refine hKx.out _ _ (HC.out _ hb6) (fun hHeld => ?_)
        clear hKx Kx
        try simp only [Act.put, List.getElem_toArray, List.getElem_cons_zero, List.getElem_cons_succ, List.setIfInBounds_toArray, List.set_cons_zero, List.set_cons_succ]
        refine wpAnyH_ready (rs := [11]) (by kernel_rfl) (by simp) ?_
        refine AllReadyH.cons rfl (fun Kx hKx => ?_) AllReadyH.nil
        refine step_append_anyW _ rfl _ _ 30 rfl wr.heap.size 52 i0 (.agg #[.int .i64 0, .int .i64 0, .bool false, .string ByteArray.empty, .string ByteArray.empty, .string ByteArray.empty, .string ByteArray.empty, .string ByteArray.empty, .string ByteArray.empty]) 9 120 Tryz.underlying30 hi hz0 hz1 hz2 rfl (by decide) _ _ _ rfl hown6 _ _ _ (((im.rls.map rlC).flatMap id).drop (n1 * 9)) rfl (HL2.out.trans (by omega)) (fun h => by cases h) (fun ad ha j u hu => by cases ha; exact own_newsZ HO6 j u hu) (fun u hu => flat_oneZ _ u (List.mem_of_mem_drop hu)) (by unfold maxLen; omega) (by omega) hb6.size ?_
        intro v8 w8 hown8 hgrow8
        have hb8 := hb6.grown hgrow8 hb6.size (fun r e => (hown6.lt r e).1)
        refine hKx.out _ _ (HC.out _ hb8) (fun hHeld => ?_)
        clear hKx Kx
        try simp only [Act.put, List.getElem_toArray, List.getElem_cons_zero, List.getElem_cons_succ, List.setIfInBounds_toArray, List.set_cons_zero, List.set_cons_succ]
        have hx8 := (HTU.out.below hb8).x
        obtain ⟨q0, q1, q2, q3, q4, q5⟩ := cells6 hx8
        have f7 := frozenY hx8 2
        have hT8 := HTU.out.cutR hb8 (l := cutZ n0 im.rls) (by rw [cut_cellsZ n0 im.rls (rlC_all _), HN01.out]; rw [List.nil_append] at hown8; exact hown8) HLC.out (fun y hy => HTU.out.o.s.rls y ((cut_subZ n0 im.rls).subset hy))
        have hC8 := HC.out _ hb8
        obtain ⟨va8, vn8, vc8, rfl⟩ := own_sliceZ hown8
        refine wpAnyH_take (i := 12) (v := .pointer (some ⟨nX, 2, none⟩)) rfl (by kernel_rfl) (by kernel_rfl) (by kernel_rfl) (fun c a w h => hKp c a _ _ w h) (Or.inl ⟨by kernel_rfl, fun w hSw => by dsimp only at hSw; obtain g0 := hSw; go_simp⟩) (by assumption) ?_
        simp only [Act.put, List.getElem_toArray, List.getElem_cons_zero, List.getElem_cons_succ, List.setIfInBounds_toArray, List.set_cons_zero, List.set_cons_succ]
        have HT8 := Lib.hid hT8
        have HC9 := Lib.hid ((World.cell?_of_block (a := ⟨nI, 2, none⟩) (heap_setCellZ (W := w8) (k := 2) (v := .slice va8 vn8 vc8) HTU.out.ne)).trans hC8)
        clear hT8 hx8 hC8
        refine wpAnyH_ready (rs := [13]) (by kernel_rfl) (by simp) ?_
        refine AllReadyH.cons rfl (fun Kx hKx => ?_) AllReadyH.nil
        try rw [if_pos (by kernel_rfl)]
        go_simp
        refine hKx.out _ _ HC9.out (fun hHeld => ?_)
        clear hKx Kx
        try simp only [Act.put, List.getElem_toArray, List.getElem_cons_zero, List.getElem_cons_succ, List.setIfInBounds_toArray, List.set_cons_zero, List.set_cons_succ]
        refine wpAnyH_done (by kernel_rfl) ?_ _
        exact hfin v6 va8 vn8 vc8 _ HT8.out
        rintro u1 a8 m8 c8 W9 hT9
        have HT9 := Lib.hid hT9
        clear hT9
        go_wp2_with fail
        go_meet
        case rel => exact ⟨51, _, _, _, _, _, rfl, HT9.out, HLE.out⟩
    · obtain ⟨z0, z1, z2, z3, z4, z5⟩ := cells6 HTU.out.i
      obtain ⟨i0, hi, hz0, hz1, hz2⟩ := info_parts mbInfo
      have hz : 0 < im.mbs.length := by have := HFW.out.m1; omega
      obtain ⟨n0, hn0⟩ : ∃ n, restV q1 im.mbs.length = n := ⟨_, rfl⟩
      have hnl : n0 < im.mbs.length := by rw [← hn0]; exact restV_lt q1 _ hz
      have RR := Lib.hid (fun w5 => show Calls Tryz.prog 10 #[.int .i64 q1, .int .i64 (im.mbs.length : Int)] w5 (fun e w' => e = .returned (.int .i64 (n0 : Int)) ∧ w5 = w') from hn0 ▸ rest13_any q1 im.mbs.length w5 hz (by have := HFW.out.m; omega))
      obtain ⟨n1, hn1⟩ : ∃ n, n0 + 1 = n := ⟨_, rfl⟩
      have HN01 := Lib.hid hn1
      have HLC := Lib.hid (show 0 + n0 + (im.mbs.length - n1) = (cutZ n0 im.mbs).length by have := cut_lenZ hnl; unfold cutZ; omega)
      have HLE := Lib.hid (LessZ.cutM hnl)
      obtain ⟨g, cap, hv, hle, hpos, hmax⟩ : ∃ g cap, vm = .slice (some ⟨g, 0, none⟩) im.mbs.length cap ∧ im.mbs.length ≤ cap ∧ 0 < cap ∧ cap ≤ maxLen := by
        rcases slice_casesZ HTU.out.o.m with ⟨_, h0⟩ | ⟨g, _, h0⟩ | h
        · omega
        · omega
        · exact h
      subst hv
      have HBA := Lib.hid (show Below wr.heap.size wr (wr.drew.alloc (.cells #[] 54)) from (Below.drew (Below.refl wr.heap.size wr)).alloc (Nat.le_refl _) _)
      have HN1 := Lib.hid (own_emptyZ wr.drew 54 2)
      have hfl := HTU.out.o.m.1
      have HL1 := Lib.hid (show (((im.mbs.map mbC).flatMap id).take (n0 * 2)).length = n0 * 2 by rw [List.length_take, hfl]; omega)
      have HL2 := Lib.hid (show (((im.mbs.map mbC).flatMap id).drop (n1 * 2)).length = (im.mbs.length - n1) * 2 by rw [List.length_drop, hfl]; omega)
      have HOW := Lib.hid HTU.out.o.m
      have HOA := Lib.hid (own_belowW HTU.out.o.m HBA.out)
      have hsI := lt_of_block HTU.out.i
      have hp0 : (0 : Int) ≤ (n0 : Int) := by omega
      have hp1 : (n0 : Int) ≤ (im.mbs.length : Int) := by omega
      have hp2 : (n0 : Int) ≤ (cap : Int) := by omega
      have hp3 : (im.mbs.length : Int) ≤ (cap : Int) := by omega
      have hp4 : IntKind.i64.wrap ((n0 : Int) + 1) = (n1 : Int) := by rw [IntWalk.i64_in _ ⟨by omega, by have := HFW.out.m; omega⟩]; omega
      have hp5 : (0 : Int) ≤ (n1 : Int) := by omega
      have hp6 : (n1 : Int) ≤ (im.mbs.length : Int) := by omega
      have hp7 : (n1 : Int) ≤ (cap : Int) := by omega
      have hle60 := HFW.out.m
      unfold maxLen at hmax
      go_upto_region 9 with (go_at_call 10; (with_reducible refine (RR.out _).mono ?_); rintro e w' ⟨rfl, rfl⟩)
      clear z0 z1 z2 z3 z4 z5 hn0 hn1 hfl d0 d1 hz
      by_cases hcap : cap = n1
      · obtain rfl : cap = n1 := hcap
        have hn1 := HN01.out
        have HLC := Lib.hid (show 0 + n0 + 0 = (cutZ n0 im.mbs).length by have := HLC.out; omega)
        have HX0 := Lib.hid (show (((im.mbs.map mbC).flatMap id).drop (cap * 2)) = [] from List.eq_nil_of_length_eq_zero (HL2.out.trans (by rw [show im.mbs.length - cap = 0 by omega, Nat.zero_mul])))
        clear hn1
        have HC := Lib.hid (fun w' (h : Below wr.heap.size wr w') => show w'.cell? ⟨nI, 3, none⟩ = some (.slice (some ⟨g, 0, none⟩) im.mbs.length cap) from (cells6 (HTU.out.below h).i).2.2.2.1)
        refine wp_region_held_drew (S := fun w' => w'.cell? ⟨nI, 3, none⟩ = some (.slice (some ⟨g, 0, none⟩) im.mbs.length cap)) (by kernel_rfl) (HC.out _ (Below.drew (Below.refl _ _))) (fun hHeld => ?_)
        apply held_shellV (R := fun (_ : Value) (a8 : Option Addr) (m8 c8 : Nat) (w' : World) => LeO w wr w' nX b { im with mbs := cutZ n0 im.mbs } va vl vr (.slice a8 m8 c8))
        exact fun _ _ d _ _ h => by cases d <;> exact h
        rotate_left 1
        intro KK hKp hfin
        refine wpAnyH_take (i := 1) (v := .pointer (some ⟨nI, 3, none⟩)) rfl (by kernel_rfl) (by kernel_rfl) (by kernel_rfl) (fun c a w h => hKp c a _ _ w h) (Or.inl ⟨by kernel_rfl, fun w hSw => by dsimp only at hSw; obtain g0 := hSw; go_simp⟩) (by assumption) ?_
        simp only [Act.put, List.getElem_toArray, List.getElem_cons_zero, List.getElem_cons_succ, List.setIfInBounds_toArray, List.set_cons_zero, List.set_cons_succ]
        refine wpAnyH_take (i := 2) (v := .slice (some ⟨g, 0, none⟩) im.mbs.length cap) rfl (by kernel_rfl) (by kernel_rfl) (by kernel_rfl) (fun c a w h => hKp c a _ _ w h) (Or.inl ⟨by kernel_rfl, fun w hSw => by dsimp only at hSw; obtain g0 := hSw; go_simp⟩) (by assumption) ?_
        simp only [Act.put, List.getElem_toArray, List.getElem_cons_zero, List.getElem_cons_succ, List.setIfInBounds_toArray, List.set_cons_zero, List.set_cons_succ]
        refine wpAnyH_take (i := 3) (v := .int .i64 (n0 : Int)) rfl (by kernel_rfl) (by kernel_rfl) (by kernel_rfl) (fun c a w h => hKp c a _ _ w h) (Or.inl ⟨by kernel_rfl, fun w hSw => by dsimp only at hSw; obtain g0 := hSw; go_simp⟩) (by assumption) ?_
        simp only [Act.put, List.getElem_toArray, List.getElem_cons_zero, List.getElem_cons_succ, List.setIfInBounds_toArray, List.set_cons_zero, List.set_cons_succ]
        refine wpAnyH_take (i := 4) (v := .slice (some ⟨g, 0, none⟩) n0 cap) rfl (by kernel_rfl) (by kernel_rfl) (by kernel_rfl) (fun c a w h => hKp c a _ _ w h) (Or.inl ⟨by kernel_rfl, fun w hSw => by dsimp only at hSw; obtain g0 := hSw; go_simp⟩) (by assumption) ?_
        simp only [Act.put, List.getElem_toArray, List.getElem_cons_zero, List.getElem_cons_succ, List.setIfInBounds_toArray, List.set_cons_zero, List.set_cons_succ]
        refine wpAnyH_take (i := 6) (v := .pointer (some ⟨nI, 3, none⟩)) rfl (by kernel_rfl) (by kernel_rfl) (by kernel_rfl) (fun c a w h => hKp c a _ _ w h) (Or.inl ⟨by kernel_rfl, fun w hSw => by dsimp only at hSw; obtain g0 := hSw; go_simp⟩) (by assumption) ?_
        simp only [Act.put, List.getElem_toArray, List.getElem_cons_zero, List.getElem_cons_succ, List.setIfInBounds_toArray, List.set_cons_zero, List.set_cons_succ]
        refine wpAnyH_take (i := 7) (v := .slice (some ⟨g, 0, none⟩) im.mbs.length cap) rfl (by kernel_rfl) (by kernel_rfl) (by kernel_rfl) (fun c a w h => hKp c a _ _ w h) (Or.inl ⟨by kernel_rfl, fun w hSw => by dsimp only at hSw; obtain g0 := hSw; go_simp⟩) (by assumption) ?_
        simp only [Act.put, List.getElem_toArray, List.getElem_cons_zero, List.getElem_cons_succ, List.setIfInBounds_toArray, List.set_cons_zero, List.set_cons_succ]
        refine wpAnyH_take (i := 8) (v := .int .i64 (n0 : Int)) rfl (by kernel_rfl) (by kernel_rfl) (by kernel_rfl) (fun c a w h => hKp c a _ _ w h) (Or.inl ⟨by kernel_rfl, fun w hSw => by dsimp only at hSw; obtain g0 := hSw; go_simp⟩) (by assumption) ?_
        simp only [Act.put, List.getElem_toArray, List.getElem_cons_zero, List.getElem_cons_succ, List.setIfInBounds_toArray, List.set_cons_zero, List.set_cons_succ]
        refine wpAnyH_take (i := 9) (v := .int .i64 (cap : Int)) rfl (by kernel_rfl) (by kernel_rfl) (by kernel_rfl) (fun c a w h => hKp c a _ _ w h) (Or.inl ⟨by kernel_rfl, fun w hSw => by dsimp only at hSw; obtain g0 := hSw; go_simp⟩) (by assumption) ?_
        simp only [Act.put, List.getElem_toArray, List.getElem_cons_zero, List.getElem_cons_succ, List.setIfInBounds_toArray, List.set_cons_zero, List.set_cons_succ]
        refine wpAnyH_take (i := 10) (v := .slice (some ⟨g, 0, none⟩) (im.mbs.length - cap) 0) rfl (by kernel_rfl) (by kernel_rfl) (by kernel_rfl) (fun c a w h => hKp c a _ _ w h) (Or.inl ⟨by kernel_rfl, fun w hSw => by dsimp only at hSw; obtain g0 := hSw; go_simp⟩) (by assumption) ?_
        simp only [Act.put, List.getElem_toArray, List.getElem_cons_zero, List.getElem_cons_succ, List.setIfInBounds_toArray, List.set_cons_zero, List.set_cons_succ]
        refine wpAnyH_ready (rs := [0]) (by kernel_rfl) (by simp) ?_
        refine AllReadyH.cons rfl (fun Kx hKx => ?_) AllReadyH.nil
        try rw [if_pos (by kernel_rfl)]
        go_simp
        refine hKx.out _ _ (HC.out _ HBA.out) (fun hHeld => ?_)
        clear hKx Kx
        try simp only [Act.put, List.getElem_toArray, List.getElem_cons_zero, List.getElem_cons_succ, List.setIfInBounds_toArray, List.set_cons_zero, List.set_cons_succ]
        refine wpAnyH_ready (rs := [5]) (by kernel_rfl) (by simp) ?_
        refine AllReadyH.cons rfl (fun Kx hKx => ?_) AllReadyH.nil
        refine step_append_anyW _ rfl _ _ 31 rfl wr.heap.size 54 i0 (.agg #[.string ByteArray.empty, .string ByteArray.empty]) 2 32 Tryz.underlying31 hi hz0 hz1 hz2 rfl (by decide) _ 0 [] rfl HN1.out _ _ _ (((im.mbs.map mbC).flatMap id).take (n0 * 2)) rfl (HL1.out.trans (by omega)) (fun h => by cases h) (fun ad ha j u hu => by cases ha; exact own_newsT HOA.out j u hu) (fun u hu => mbC_oneZ _ u (List.mem_of_mem_take hu)) (by unfold maxLen; omega) (by omega) (by simp) ?_
        intro v6 w6 hown6 hgrow6
        have hb6 := HBA.out.grown hgrow6 (by simp) (fun r e => by cases e; exact Nat.le_refl _)
        have HO6 := own_belowW (HOW.out) hb6
        refine hKx.out _ _ (HC.out _ hb6) (fun hHeld => ?_)
        clear hKx Kx
        try simp only [Act.put, List.getElem_toArray, List.getElem_cons_zero, List.getElem_cons_succ, List.setIfInBounds_toArray, List.set_cons_zero, List.set_cons_succ]
        refine wpAnyH_ready (rs := [11]) (by kernel_rfl) (by simp) ?_
        refine AllReadyH.cons rfl (fun Kx hKx => ?_) AllReadyH.nil
        refine step_append_anyW _ rfl _ _ 31 rfl wr.heap.size 54 i0 (.agg #[.string ByteArray.empty, .string ByteArray.empty]) 2 32 Tryz.underlying31 hi hz0 hz1 hz2 rfl (by decide) _ _ _ rfl hown6 _ _ _ (((im.mbs.map mbC).flatMap id).drop (cap * 2)) rfl (HL2.out.trans (by omega)) (fun h => by cases h) (fun ad ha j u hu => by rw [HX0.out] at hu; simp at hu) (fun u hu => mbC_oneZ _ u (List.mem_of_mem_drop hu)) (by unfold maxLen; omega) (by omega) hb6.size ?_
        intro v8 w8 hown8 hgrow8
        have hb8 := hb6.grown hgrow8 hb6.size (fun r e => (hown6.lt r e).1)
        refine hKx.out _ _ (HC.out _ hb8) (fun hHeld => ?_)
        clear hKx Kx
        try simp only [Act.put, List.getElem_toArray, List.getElem_cons_zero, List.getElem_cons_succ, List.setIfInBounds_toArray, List.set_cons_zero, List.set_cons_succ]
        have hx8 := (HTU.out.below hb8).x
        obtain ⟨q0, q1, q2, q3, q4, q5⟩ := cells6 hx8
        have f7 := frozenY hx8 3
        have hT8 := HTU.out.cutM hb8 (l := cutZ n0 im.mbs) (by rw [cut_cellsZ n0 im.mbs (mbC_all _), HN01.out]; rw [List.nil_append] at hown8; exact hown8) HLC.out (fun y hy => HTU.out.o.s.mbs y ((cut_subZ n0 im.mbs).subset hy))
        have hC8 := HC.out _ hb8
        obtain ⟨va8, vn8, vc8, rfl⟩ := own_sliceZ hown8
        refine wpAnyH_take (i := 12) (v := .pointer (some ⟨nX, 3, none⟩)) rfl (by kernel_rfl) (by kernel_rfl) (by kernel_rfl) (fun c a w h => hKp c a _ _ w h) (Or.inl ⟨by kernel_rfl, fun w hSw => by dsimp only at hSw; obtain g0 := hSw; go_simp⟩) (by assumption) ?_
        simp only [Act.put, List.getElem_toArray, List.getElem_cons_zero, List.getElem_cons_succ, List.setIfInBounds_toArray, List.set_cons_zero, List.set_cons_succ]
        have HT8 := Lib.hid hT8
        have HC9 := Lib.hid ((World.cell?_of_block (a := ⟨nI, 3, none⟩) (heap_setCellZ (W := w8) (k := 3) (v := .slice va8 vn8 vc8) HTU.out.ne)).trans hC8)
        clear hT8 hx8 hC8
        refine wpAnyH_ready (rs := [13]) (by kernel_rfl) (by simp) ?_
        refine AllReadyH.cons rfl (fun Kx hKx => ?_) AllReadyH.nil
        try rw [if_pos (by kernel_rfl)]
        go_simp
        refine hKx.out _ _ HC9.out (fun hHeld => ?_)
        clear hKx Kx
        try simp only [Act.put, List.getElem_toArray, List.getElem_cons_zero, List.getElem_cons_succ, List.setIfInBounds_toArray, List.set_cons_zero, List.set_cons_succ]
        refine wpAnyH_done (by kernel_rfl) ?_ _
        exact hfin v6 va8 vn8 vc8 _ HT8.out
        rintro u1 a8 m8 c8 W9 hT9
        have HT9 := Lib.hid hT9
        clear hT9
        go_wp2_with fail
        go_meet
        case rel => exact ⟨16, _, _, _, _, _, rfl, HT9.out, HLE.out⟩
      · have hn1 := HN01.out
        have hq1 : ¬ cap = n1 := hcap
        clear hn1 hcap
        have HC := Lib.hid (fun w' (h : Below wr.heap.size wr w') => show w'.cell? ⟨nI, 3, none⟩ = some (.slice (some ⟨g, 0, none⟩) im.mbs.length cap) from (cells6 (HTU.out.below h).i).2.2.2.1)
        refine wp_region_held_drew (S := fun w' => w'.cell? ⟨nI, 3, none⟩ = some (.slice (some ⟨g, 0, none⟩) im.mbs.length cap)) (by kernel_rfl) (HC.out _ (Below.drew (Below.refl _ _))) (fun hHeld => ?_)
        apply held_shellV (R := fun (_ : Value) (a8 : Option Addr) (m8 c8 : Nat) (w' : World) => LeO w wr w' nX b { im with mbs := cutZ n0 im.mbs } va vl vr (.slice a8 m8 c8))
        exact fun _ _ d _ _ h => by cases d <;> exact h
        rotate_left 1
        intro KK hKp hfin
        refine wpAnyH_take (i := 1) (v := .pointer (some ⟨nI, 3, none⟩)) rfl (by kernel_rfl) (by kernel_rfl) (by kernel_rfl) (fun c a w h => hKp c a _ _ w h) (Or.inl ⟨by kernel_rfl, fun w hSw => by dsimp only at hSw; obtain g0 := hSw; go_simp⟩) (by assumption) ?_
        simp only [Act.put, List.getElem_toArray, List.getElem_cons_zero, List.getElem_cons_succ, List.setIfInBounds_toArray, List.set_cons_zero, List.set_cons_succ]
        refine wpAnyH_take (i := 2) (v := .slice (some ⟨g, 0, none⟩) im.mbs.length cap) rfl (by kernel_rfl) (by kernel_rfl) (by kernel_rfl) (fun c a w h => hKp c a _ _ w h) (Or.inl ⟨by kernel_rfl, fun w hSw => by dsimp only at hSw; obtain g0 := hSw; go_simp⟩) (by assumption) ?_
        simp only [Act.put, List.getElem_toArray, List.getElem_cons_zero, List.getElem_cons_succ, List.setIfInBounds_toArray, List.set_cons_zero, List.set_cons_succ]
        refine wpAnyH_take (i := 3) (v := .int .i64 (n0 : Int)) rfl (by kernel_rfl) (by kernel_rfl) (by kernel_rfl) (fun c a w h => hKp c a _ _ w h) (Or.inl ⟨by kernel_rfl, fun w hSw => by dsimp only at hSw; obtain g0 := hSw; go_simp⟩) (by assumption) ?_
        simp only [Act.put, List.getElem_toArray, List.getElem_cons_zero, List.getElem_cons_succ, List.setIfInBounds_toArray, List.set_cons_zero, List.set_cons_succ]
        refine wpAnyH_take (i := 4) (v := .slice (some ⟨g, 0, none⟩) n0 cap) rfl (by kernel_rfl) (by kernel_rfl) (by kernel_rfl) (fun c a w h => hKp c a _ _ w h) (Or.inl ⟨by kernel_rfl, fun w hSw => by dsimp only at hSw; obtain g0 := hSw; go_simp⟩) (by assumption) ?_
        simp only [Act.put, List.getElem_toArray, List.getElem_cons_zero, List.getElem_cons_succ, List.setIfInBounds_toArray, List.set_cons_zero, List.set_cons_succ]
        refine wpAnyH_take (i := 6) (v := .pointer (some ⟨nI, 3, none⟩)) rfl (by kernel_rfl) (by kernel_rfl) (by kernel_rfl) (fun c a w h => hKp c a _ _ w h) (Or.inl ⟨by kernel_rfl, fun w hSw => by dsimp only at hSw; obtain g0 := hSw; go_simp⟩) (by assumption) ?_
        simp only [Act.put, List.getElem_toArray, List.getElem_cons_zero, List.getElem_cons_succ, List.setIfInBounds_toArray, List.set_cons_zero, List.set_cons_succ]
        refine wpAnyH_take (i := 7) (v := .slice (some ⟨g, 0, none⟩) im.mbs.length cap) rfl (by kernel_rfl) (by kernel_rfl) (by kernel_rfl) (fun c a w h => hKp c a _ _ w h) (Or.inl ⟨by kernel_rfl, fun w hSw => by dsimp only at hSw; obtain g0 := hSw; go_simp⟩) (by assumption) ?_
        simp only [Act.put, List.getElem_toArray, List.getElem_cons_zero, List.getElem_cons_succ, List.setIfInBounds_toArray, List.set_cons_zero, List.set_cons_succ]
        refine wpAnyH_take (i := 8) (v := .int .i64 (n0 : Int)) rfl (by kernel_rfl) (by kernel_rfl) (by kernel_rfl) (fun c a w h => hKp c a _ _ w h) (Or.inl ⟨by kernel_rfl, fun w hSw => by dsimp only at hSw; obtain g0 := hSw; go_simp⟩) (by assumption) ?_
        simp only [Act.put, List.getElem_toArray, List.getElem_cons_zero, List.getElem_cons_succ, List.setIfInBounds_toArray, List.set_cons_zero, List.set_cons_succ]
        refine wpAnyH_take (i := 9) (v := .int .i64 (n1 : Int)) rfl (by kernel_rfl) (by kernel_rfl) (by kernel_rfl) (fun c a w h => hKp c a _ _ w h) (Or.inl ⟨by kernel_rfl, fun w hSw => by dsimp only at hSw; obtain g0 := hSw; go_simp⟩) (by assumption) ?_
        simp only [Act.put, List.getElem_toArray, List.getElem_cons_zero, List.getElem_cons_succ, List.setIfInBounds_toArray, List.set_cons_zero, List.set_cons_succ]
        refine wpAnyH_take (i := 10) (v := .slice (some ⟨g, n1 * 2, none⟩) (im.mbs.length - n1) (cap - n1)) rfl (by kernel_rfl) (by kernel_rfl) (by kernel_rfl) (fun c a w h => hKp c a _ _ w h) (Or.inl ⟨by kernel_rfl, fun w hSw => by dsimp only at hSw; obtain g0 := hSw; go_simp⟩) (by assumption) ?_
        simp only [Act.put, List.getElem_toArray, List.getElem_cons_zero, List.getElem_cons_succ, List.setIfInBounds_toArray, List.set_cons_zero, List.set_cons_succ]
        refine wpAnyH_ready (rs := [0]) (by kernel_rfl) (by simp) ?_
        refine AllReadyH.cons rfl (fun Kx hKx => ?_) AllReadyH.nil
        try rw [if_pos (by kernel_rfl)]
        go_simp
        refine hKx.out _ _ (HC.out _ HBA.out) (fun hHeld => ?_)
        clear hKx Kx
        try simp only [Act.put, List.getElem_toArray, List.getElem_cons_zero, List.getElem_cons_succ, List.setIfInBounds_toArray, List.set_cons_zero, List.set_cons_succ]
        refine wpAnyH_ready (rs := [5]) (by kernel_rfl) (by simp) ?_
        refine AllReadyH.cons rfl (fun Kx hKx => ?_) AllReadyH.nil
        refine step_append_anyW _ rfl _ _ 31 rfl wr.heap.size 54 i0 (.agg #[.string ByteArray.empty, .string ByteArray.empty]) 2 32 Tryz.underlying31 hi hz0 hz1 hz2 rfl (by decide) _ 0 [] rfl HN1.out _ _ _ (((im.mbs.map mbC).flatMap id).take (n0 * 2)) rfl (HL1.out.trans (by omega)) (fun h => by cases h) (fun ad ha j u hu => by cases ha; exact own_newsT HOA.out j u hu) (fun u hu => mbC_oneZ _ u (List.mem_of_mem_take hu)) (by unfold maxLen; omega) (by omega) (by simp) ?_
        intro v6 w6 hown6 hgrow6
        have hb6 := HBA.out.grown hgrow6 (by simp) (fun r e => by cases e; exact Nat.le_refl _)
        have HO6 := own_belowW (HOW.out) hb6
        refine hKx.out _ _ (HC.out _ hb6) (fun hHeld => ?_)
        clear hKx Kx
        try simp only [Act.put, List.getElem_toArray, List.getElem_cons_zero, List.getElem_cons_succ, List.setIfInBounds_toArray, List.set_cons_zero, List.set_cons_succ]
        refine wpAnyH_ready (rs := [11]) (by kernel_rfl) (by simp) ?_
        refine AllReadyH.cons rfl (fun Kx hKx => ?_) AllReadyH.nil
        refine step_append_anyW _ rfl _ _ 31 rfl wr.heap.size 54 i0 (.agg #[.string ByteArray.empty, .string ByteArray.empty]) 2 32 Tryz.underlying31 hi hz0 hz1 hz2 rfl (by decide) _ _ _ rfl hown6 _ _ _ (((im.mbs.map mbC).flatMap id).drop (n1 * 2)) rfl (HL2.out.trans (by omega)) (fun h => by cases h) (fun ad ha j u hu => by cases ha; exact own_newsZ HO6 j u hu) (fun u hu => mbC_oneZ _ u (List.mem_of_mem_drop hu)) (by unfold maxLen; omega) (by omega) hb6.size ?_
        intro v8 w8 hown8 hgrow8
        have hb8 := hb6.grown hgrow8 hb6.size (fun r e => (hown6.lt r e).1)
        refine hKx.out _ _ (HC.out _ hb8) (fun hHeld => ?_)
        clear hKx Kx
        try simp only [Act.put, List.getElem_toArray, List.getElem_cons_zero, List.getElem_cons_succ, List.setIfInBounds_toArray, List.set_cons_zero, List.set_cons_succ]
        have hx8 := (HTU.out.below hb8).x
        obtain ⟨q0, q1, q2, q3, q4, q5⟩ := cells6 hx8
        have f7 := frozenY hx8 3
        have hT8 := HTU.out.cutM hb8 (l := cutZ n0 im.mbs) (by rw [cut_cellsZ n0 im.mbs (mbC_all _), HN01.out]; rw [List.nil_append] at hown8; exact hown8) HLC.out (fun y hy => HTU.out.o.s.mbs y ((cut_subZ n0 im.mbs).subset hy))
        have hC8 := HC.out _ hb8
        obtain ⟨va8, vn8, vc8, rfl⟩ := own_sliceZ hown8
        refine wpAnyH_take (i := 12) (v := .pointer (some ⟨nX, 3, none⟩)) rfl (by kernel_rfl) (by kernel_rfl) (by kernel_rfl) (fun c a w h => hKp c a _ _ w h) (Or.inl ⟨by kernel_rfl, fun w hSw => by dsimp only at hSw; obtain g0 := hSw; go_simp⟩) (by assumption) ?_
        simp only [Act.put, List.getElem_toArray, List.getElem_cons_zero, List.getElem_cons_succ, List.setIfInBounds_toArray, List.set_cons_zero, List.set_cons_succ]
        have HT8 := Lib.hid hT8
        have HC9 := Lib.hid ((World.cell?_of_block (a := ⟨nI, 3, none⟩) (heap_setCellZ (W := w8) (k := 3) (v := .slice va8 vn8 vc8) HTU.out.ne)).trans hC8)
        clear hT8 hx8 hC8
        refine wpAnyH_ready (rs := [13]) (by kernel_rfl) (by simp) ?_
        refine AllReadyH.cons rfl (fun Kx hKx => ?_) AllReadyH.nil
        try rw [if_pos (by kernel_rfl)]
        go_simp
        refine hKx.out _ _ HC9.out (fun hHeld => ?_)
        clear hKx Kx
        try simp only [Act.put, List.getElem_toArray, List.getElem_cons_zero, List.getElem_cons_succ, List.setIfInBounds_toArray, List.set_cons_zero, List.set_cons_succ]
        refine wpAnyH_done (by kernel_rfl) ?_ _
        exact hfin v6 va8 vn8 vc8 _ HT8.out
        rintro u1 a8 m8 c8 W9 hT9
        have HT9 := Lib.hid hT9
        clear hT9
        go_wp2_with fail
        go_meet
        case rel => exact ⟨16, _, _, _, _, _, rfl, HT9.out, HLE.out⟩
  case rest =>
    obtain ⟨fewer, xi, v0, v1, v2, v3, rfl, hO, hLz⟩ := hcut
    clear R0 hd4 d0 d1
    obtain ⟨y1, e1, y2, e2, y3, e3, y4, e4, h1, h2, h3, h4⟩ := hO.z.rows.slices
    subst h1 h2 h3 h4
    have hcx := hO.x
    obtain ⟨z0, z1, z2, z3, z4, z5⟩ := cells6 hcx
    have HG9 := HGL.out _ hO.bel
    have HE9 := Lib.hid (encode_im y1 y2 y3 y4 e1 e2 e3 e4 xi wc hO.z.rows hO.z.s HG9)
    have HB9 := Lib.hid (fun w' (h : Below wc.heap.size wc w') => hO.bel.trans (h.mono hO.bel.size))
    cases hx : encE im with
    | some er =>
      obtain ⟨k, p, s⟩ := er
      obtain rfl : k = 12 := HBI.out _ hx
      obtain ⟨bf, hbv, hbf⟩ := (show FaultZ wr ev1 12 p s by have := HEV.out; rw [hx] at this; exact this)
      subst hbv
      have hne : bf ≠ nX := fun e => by
        have h := hbf.symm.trans (e ▸ HTU.out.x)
        unfold faultObj at h
        simp at h
      have hbf9 := (hO.gr bf (lt_of_block hbf) hne).trans hbf
      have HK := Lib.hid (fun w' (h : Below wc.heap.size wc w') => show Calls Tryz.prog 11 #[.iface 104 (.pointer (some ⟨bf, 0, none⟩))] w' (fun e w'' => e = .returned (.int .i64 12) ∧ Below w'.heap.size w' w'') from
        kind_chain w' (by simp) (lt_of_block ((h.block _ (lt_of_block hbf9)).trans hbf9)) (chainZ ((h.block _ (lt_of_block hbf9)).trans hbf9)) (HTL.out _ (HB9.out _ h)))
      clear hbf hbf9 hne hO hLz hx HEV HTU HG9 HBI hcx HGL HTL HFW HQ8
      go_wp2_with (first
        | (go_at_call 9; (with_reducible refine HE9.out.mono ?_); rintro e w9 ⟨v9, rfl, hv9, hb9⟩; have HK9 := Lib.hid (HK.out _ hb9))
        | (go_at_call 11; refine HK9.out.mono ?_; rintro e w10 ⟨rfl, hb10⟩))
      go_ret
      exact ⟨rfl, HB9.out _ (hb9.trans (hb10.mono hb9.size))⟩
    | none =>
      obtain rfl : ev1 = .nilIface := by have := HEV.out; rw [hx] at this; exact this
      have hxi : encE xi = none := hLz.sub.none hx
      have hs1 := encB_lenZ hx
      have hs2 := encB_lenZ hxi
      have hsz := hLz.sz
      unfold szI at hsz
      have hf0 := HFW.out.a
      have hf1 := HFW.out.l
      have hf2 := HFW.out.r
      have hf3 := HFW.out.m
      have hc0 : cntN im 0 ≤ 60 := hf0
      have hc1 : cntN im 1 ≤ 60 := hf1
      have hc2 : cntN im 2 ≤ 60 := hf2
      have hc3 : cntN im 3 ≤ 60 := hf3
      have hw : IntKind.i64.wrap (((encB im).size : Int) - (fewer : Int)) = ((encB xi).size : Int) := by
        rw [IntWalk.i64_in _ ⟨by omega, by omega⟩]; omega
      have HE10 := Lib.hid (HE9.out.mono (R' := fun e w' => e = .returned (.tuple #[.string (encB xi), .nilIface]) ∧ Below wc.heap.size wc w') fun e w' ⟨v, p, q, r⟩ => ⟨by rw [hxi] at q; rw [p, show v = .nilIface from q], r⟩)
      clear hxi hs1 hs2 hsz hf0 hf1 hf2 hf3 hc0 hc1 hc2 hc3 hO hLz hx HEV HTU HG9 HBI hcx HGL HTL HFW HQ8 HE9
      generalize encB xi = bx at *
      generalize encB im = bi at *
      go_wp2_with (go_at_call 9; (with_reducible refine HE10.out.mono ?_); rintro e w9 ⟨rfl, hb9⟩)
      go_ret
      exact ⟨rfl, HB9.out _ hb9⟩
end Go.Proofs.YtgjifikahlmioaaGreatDoor
