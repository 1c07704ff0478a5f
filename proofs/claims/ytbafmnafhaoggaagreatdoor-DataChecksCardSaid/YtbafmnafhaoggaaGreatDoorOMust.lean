/-
  Package check: what must hold, one after the other, and Check. (Printed by wip/gen_omust.py.)
-/
import Derived.Test.YtbafmnafhaoggaaGreatDoorOEnds
import Derived.Test.YtbafmnafhaoggaaGreatDoorZEnc

import Derived.WalkMore
namespace Go.Proofs.YtbafmnafhaoggaaGreatDoor
open Go Go.RowKit Go.Maps

theorem cell_oneO {W : World} {b : Nat} {v : Value} {t : TypeId} (h : W.heap[b]? = some (.cells #[v] t (0, 0))) : W.cell? ⟨b, 0, none⟩ = some v := by simp [World.cell?, h]
/-- What must hold of an image, in memory: the names, rows and sets that were laid aside, and the image's box. -/
structure MusI (W : World) (bo br bs bi M1 M2 M3 : Nat) (a1 a2 a3 a4 : Option Addr) (c1 c2 c3 c4 : Nat) (im : Im) : Prop where
  o : W.heap[bo]? = some (.cells #[.map (some M1)] 68 (0, 0))
  r : W.heap[br]? = some (.cells #[.map (some M2)] 70 (0, 0))
  s : W.heap[bs]? = some (.cells #[.map (some M3)] 72 (0, 0))
  i : W.heap[bi]? = some (.cells #[.slice a1 (cntN im 0) c1, .slice a2 (cntN im 1) c2, .slice a3 (cntN im 2) c3, .slice a4 (cntN im 3) c4, .int .i64 im.th, .int .i64 im.de] 29 (0, 0))
  on : OldN W M1 (kns im.als)
  rn : SetO W M2 76 (rowsK im.lks)
  sn : SetO W M3 9 (setsK im.mbs)
  im : ImR W (.slice a1 (cntN im 0) c1) (.slice a2 (cntN im 1) c2) (.slice a3 (cntN im 2) c3) (.slice a4 (cntN im 3) c4) im
theorem MusI.below {W W' : World} {bo br bs bi M1 M2 M3 : Nat} {a1 a2 a3 a4 : Option Addr} {c1 c2 c3 c4 : Nat} {im : Im} (h : MusI W bo br bs bi M1 M2 M3 a1 a2 a3 a4 c1 c2 c3 c4 im) (hb : Below W.heap.size W W') : MusI W' bo br bs bi M1 M2 M3 a1 a2 a3 a4 c1 c2 c3 c4 im :=
  ⟨(hb.block _ (lt_of_block h.o)).trans h.o, (hb.block _ (lt_of_block h.r)).trans h.r, (hb.block _ (lt_of_block h.s)).trans h.s, (hb.block _ (lt_of_block h.i)).trans h.i, h.on.below hb, h.rn.below hb, h.sn.below hb, h.im.below hb⟩
set_option maxRecDepth 100000 in
set_option maxHeartbeats 4000000 in
theorem musA1_any (bo br bs bi M1 M2 M3 : Nat) (a1 a2 a3 a4 : Option Addr) (c1 c2 c3 c4 : Nat) (im : Im) (i : Nat) (w : World) (h : MusI w bo br bs bi M1 M2 M3 a1 a2 a3 a4 c1 c2 c3 c4 im) (hs : ImS im) (hn : ∀ k, cntN im k ≤ 4001) (hi : i < mustN im 0) :
    Calls Tryz.prog 30 #[.int .i64 (i : Int), .pointer (some ⟨bo, 0, none⟩), .pointer (some ⟨bi, 0, none⟩)] w fun e w' => e = .returned (.bool (holdsB im 0 i)) ∧ Below w.heap.size w w' := by
  have hi1 : (i : Int) < (cntN im 0 : Int) := by have : i < cntN im 0 := hi; omega
  have hi0 : (0 : Int) ≤ (i : Int) := by omega
  have hle := hn 0
  obtain ⟨x, hx⟩ : ∃ x, im.als[i]? = some x := ⟨_, List.getElem?_eq_getElem hi⟩
  have HX := Lib.hid (show holdsB im 0 i = endsN (kns im.als) x from holds_0 hx)
  rw [HX.out]
  have hxs := hs.als x (List.mem_of_getElem? hx)
  obtain ⟨g, o, rfl, hcc⟩ := h.im.a.openM i x hx
  have HC := Lib.hid (fun w' (hb : Below w.heap.size w w') => show Below w.heap.size w w' ∧ w'.cell? ⟨bo, 0, none⟩ = some (.map (some M1)) ∧ w'.cell? ⟨bi, 0, none⟩ = some (.slice (some ⟨g, o, none⟩) (cntN im 0) c1) ∧ w'.cell? ⟨g, o + i * 6, none⟩ = some (.int .i64 x.k) ∧ w'.cell? ⟨g, o + i * 6 + 1, none⟩ = some (.string x.a) ∧ w'.cell? ⟨g, o + i * 6 + 2, none⟩ = some (.string x.b) ∧ w'.cell? ⟨g, o + i * 6 + 3, none⟩ = some (.string x.l) ∧ w'.cell? ⟨g, o + i * 6 + 4, none⟩ = some (.string x.s) ∧ w'.cell? ⟨g, o + i * 6 + 5, none⟩ = some (.string x.r) from
    ⟨hb, cell_oneO ((hb.block _ (lt_of_block h.o)).trans h.o), (cells6 ((hb.block _ (lt_of_block h.i)).trans h.i)).1, hcc _ hb 0 _ rfl, hcc _ hb 1 _ rfl, hcc _ hb 2 _ rfl, hcc _ hb 3 _ rfl, hcc _ hb 4 _ rfl, hcc _ hb 5 _ rfl⟩)
  have HE := Lib.hid (fun w' (hb : Below w.heap.size w w') => (ends_any (kns im.als) M1 x w' hxs (h.on.below hb)).mono (R' := fun e w'' => e = .returned (.bool (endsN (kns im.als) x)) ∧ Below w.heap.size w w'') fun e w'' ⟨p, q⟩ => ⟨p, hb.trans (q.mono hb.size)⟩)
  generalize endsN (kns im.als) x = z at *
  clear h hs hn hi hcc hxs hx HX
  go_enter Tryz.func30, Tryz.ntmps30
  go_upto_region 1 with fail
  have hd : Below w.heap.size w w.drew := Below.drew (Below.refl _ _)
  obtain ⟨-, d0, d1, d2, d3, d4, d5, d6, d7⟩ := HC.out _ hd
  go_region_held3 (fun w' => Below w.heap.size w w' ∧ w'.cell? ⟨bo, 0, none⟩ = some (.map (some M1)) ∧ w'.cell? ⟨bi, 0, none⟩ = some (.slice (some ⟨g, o, none⟩) (cntN im 0) c1) ∧ w'.cell? ⟨g, o + i * 6, none⟩ = some (.int .i64 x.k) ∧ w'.cell? ⟨g, o + i * 6 + 1, none⟩ = some (.string x.a) ∧ w'.cell? ⟨g, o + i * 6 + 2, none⟩ = some (.string x.b) ∧ w'.cell? ⟨g, o + i * 6 + 3, none⟩ = some (.string x.l) ∧ w'.cell? ⟨g, o + i * 6 + 4, none⟩ = some (.string x.s) ∧ w'.cell? ⟨g, o + i * 6 + 5, none⟩ = some (.string x.r))
    (first | (exact HC.out _ (by assumption)))
    (first | (go_at_call 31; (with_reducible refine (HE.out _ (by assumption)).mono ?_); rintro e w5 ⟨rfl, hb5⟩))
  all_goals first
    | (go_wp2; go_ret; exact ⟨rfl, by assumption⟩)
    | (go_ret; exact ⟨rfl, by assumption⟩)
set_option maxRecDepth 100000 in
set_option maxHeartbeats 4000000 in
theorem musA2_any (bo br bs bi M1 M2 M3 : Nat) (a1 a2 a3 a4 : Option Addr) (c1 c2 c3 c4 : Nat) (im : Im) (i : Nat) (w : World) (h : MusI w bo br bs bi M1 M2 M3 a1 a2 a3 a4 c1 c2 c3 c4 im) (hs : ImS im) (hn : ∀ k, cntN im k ≤ 4001) (hi : i < mustN im 1) :
    Calls Tryz.prog 32 #[.int .i64 (i : Int), .pointer (some ⟨br, 0, none⟩), .pointer (some ⟨bi, 0, none⟩)] w fun e w' => e = .returned (.bool (holdsB im 1 i)) ∧ Below w.heap.size w w' := by
  have hi1 : (i : Int) < (cntN im 1 : Int) := by have : i < cntN im 1 := hi; omega
  have hi0 : (0 : Int) ≤ (i : Int) := by omega
  have hle := hn 1
  obtain ⟨x, hx⟩ : ∃ x, im.lks[i]? = some x := ⟨_, List.getElem?_eq_getElem hi⟩
  have HX := Lib.hid (show holdsB im 1 i = rowsB im.lks x.tl from holds_1 hx)
  rw [HX.out]
  have hxs := hs.lks x (List.mem_of_getElem? hx) x.tl (by simp [lkT])
  obtain ⟨g, o, rfl, hcc⟩ := h.im.l.openM i x hx
  have hbr := Below.refl w.heap.size w
  have d0 := cell_oneO h.r
  have d1 := (cells6 h.i).2.1
  have d5 := show World.cell? _ ⟨g, o + i * 6 + 3, none⟩ = some (.string x.tl) from hcc _ hbr 3 _ rfl
  have hlk := fun n => rows_look (W := w.drewN n) (SetO.below h.rn (below_drewN (Below.refl _ _) n)) hs.lks hxs
  have hl0 := hlk 0
  have hl1 := hlk 1
  have hl2 := show (Instr.lookup 70 (.map (some M2)) (.agg #[.string x.tl, .string ⟨#[]⟩, .string ⟨#[]⟩]) false).run Tryz.prog w.drew = .ok (.bool (rowsB im.lks x.tl)) w.drew from hlk 1
  have hl3 := show (Instr.lookup 70 (.map (some M2)) (.agg #[.string x.tl, .string ⟨#[]⟩, .string ⟨#[]⟩]) false).run Tryz.prog w = .ok (.bool (rowsB im.lks x.tl)) w from hlk 0
  generalize rowsB im.lks x.tl = z at *
  clear h hs hn hi hcc hxs hx HX
  go_enter Tryz.func32, Tryz.ntmps32
  go_upto_region 1 with fail
  go_quiet (fail)
  go_wp2
  go_ret
  exact ⟨rfl, below_drewN (Below.refl _ _) _⟩
set_option maxRecDepth 100000 in
set_option maxHeartbeats 4000000 in
theorem musA3_any (bo br bs bi M1 M2 M3 : Nat) (a1 a2 a3 a4 : Option Addr) (c1 c2 c3 c4 : Nat) (im : Im) (i : Nat) (w : World) (h : MusI w bo br bs bi M1 M2 M3 a1 a2 a3 a4 c1 c2 c3 c4 im) (hs : ImS im) (hn : ∀ k, cntN im k ≤ 4001) (hi : i < mustN im 2) :
    Calls Tryz.prog 33 #[.int .i64 (i : Int), .pointer (some ⟨bs, 0, none⟩), .pointer (some ⟨bi, 0, none⟩)] w fun e w' => e = .returned (.bool (holdsB im 2 i)) ∧ Below w.heap.size w w' := by
  have hi1 : (i : Int) < (cntN im 2 : Int) := by have : i < cntN im 2 := hi; omega
  have hi0 : (0 : Int) ≤ (i : Int) := by omega
  have hle := hn 2
  obtain ⟨x, hx⟩ : ∃ x, im.rls[i]? = some x := ⟨_, List.getElem?_eq_getElem hi⟩
  have HX := Lib.hid (show holdsB im 2 i = (knownB im.mbs x.d2 && knownB im.mbs x.s2) from holds_2 hx)
  rw [HX.out]
  have hz1 := (hs.rls x (List.mem_of_getElem? hx)).z x.d2 (by simp [rlT])
  have hz2 := (hs.rls x (List.mem_of_getElem? hx)).z x.s2 (by simp [rlT])
  obtain ⟨g, o, rfl, hcc⟩ := h.im.r.openM i x hx
  have hbr := Below.refl w.heap.size w
  have d0 := cell_oneO h.s
  have d1 := (cells6 h.i).2.2.1
  have d5 := show World.cell? _ ⟨g, o + i * 9 + 5, none⟩ = some (.string x.d2) from hcc _ hbr 5 _ rfl
  have d8 := show World.cell? _ ⟨g, o + i * 9 + 8, none⟩ = some (.string x.s2) from hcc _ hbr 8 _ rfl
  have d5' := show World.cell? _ ⟨g, o + i * 9 + 3 + 2, none⟩ = some (.string x.d2) from d5
  have d8' := show World.cell? _ ⟨g, o + i * 9 + 6 + 2, none⟩ = some (.string x.s2) from d8
  have K1 := Lib.hid (fun n => known_any M3 im.mbs x.d2 (w.drewN n) (by omega) (SetO.below h.sn (below_drewN (Below.refl _ _) n)))
  have K2 := Lib.hid (fun n => known_any M3 im.mbs x.s2 (w.drewN n) (by omega) (SetO.below h.sn (below_drewN (Below.refl _ _) n)))
  generalize x.d2 = s1 at *
  generalize x.s2 = s2 at *
  generalize knownB im.mbs s1 = z1 at *
  generalize knownB im.mbs s2 = z2 at *
  clear h hs hn hi hcc hz1 hz2 hx HX
  cases z1 with
  | false =>
    go_enter Tryz.func33, Tryz.ntmps33
    go_upto_region 1 with fail
    go_quiet (first | (go_at_call 34; with_reducible exact Calls.quiet_of_same (K1.out _)) | (go_at_call 34; with_reducible exact Calls.quiet_of_same (K2.out _)))
    go_wp2
    go_ret
    exact ⟨rfl, below_drewN (Below.refl _ _) _⟩
  | true =>
    go_enter Tryz.func33, Tryz.ntmps33
    go_upto_region 1 with fail
    go_quiet (first | (go_at_call 34; with_reducible exact Calls.quiet_of_same (K1.out _)) | (go_at_call 34; with_reducible exact Calls.quiet_of_same (K2.out _)))
    go_wp2
    go_ret
    exact ⟨rfl, below_drewN (Below.refl _ _) _⟩
set_option maxRecDepth 100000 in
set_option maxHeartbeats 4000000 in
theorem musA4_any (bo br bs bi M1 M2 M3 : Nat) (a1 a2 a3 a4 : Option Addr) (c1 c2 c3 c4 : Nat) (im : Im) (i : Nat) (w : World) (h : MusI w bo br bs bi M1 M2 M3 a1 a2 a3 a4 c1 c2 c3 c4 im) (_ : ImS im) (hn : ∀ k, cntN im k ≤ 4001) (_ : i < mustN im 3) :
    Calls Tryz.prog 35 #[.int .i64 (i : Int), .pointer (some ⟨bi, 0, none⟩)] w fun e w' => e = .returned (.bool (holdsB im 3 i)) ∧ Below w.heap.size w w' := by
  have hle := hn 2
  have d1 := (cells6 h.i).2.2.1
  have HE := Lib.hid (everyL_any _ im.rls w h.im.r (show im.rls.length ≤ 4001 from hn 2))
  clear h hn hle
  have HX := Lib.hid (show holdsB im 3 i = everyB im.rls from rfl)
  rw [HX.out]
  generalize everyB im.rls = z at *
  go_enter Tryz.func35, Tryz.ntmps35
  go_wp2_with (go_at_call 36; (with_reducible refine HE.out.mono ?_); rintro e w5 ⟨rfl, hb5⟩)
  go_ret
  exact ⟨rfl, hb5⟩
theorem sizeMust : (Tryz.prog.info? 66).map (·.size) = some 5 := by kernel_rfl
set_option maxRecDepth 100000 in
set_option maxHeartbeats 8000000 in
theorem musts_any (a1 a2 a3 a4 : Option Addr) (c1 c2 c3 c4 : Nat) (im : Im) (w : World) (hi : ImR w (.slice a1 (cntN im 0) c1) (.slice a2 (cntN im 1) c2) (.slice a3 (cntN im 2) c3) (.slice a4 (cntN im 3) c4) im) (hs : ImS im) (hn : ∀ k, cntN im k ≤ 4000) :
    Calls Tryz.prog 14 #[.agg #[.slice a1 (cntN im 0) c1, .slice a2 (cntN im 1) c2, .slice a3 (cntN im 2) c3, .slice a4 (cntN im 3) c4, .int .i64 im.th, .int .i64 im.de]] w fun e w' => ∃ g bo br bs bi M1 M2 M3, e = .returned (.slice (some ⟨g, 0, none⟩) 4 4) ∧ w'.heap[g]? = some (.cells #[.int .i64 14, .string { data := #[97, 108, 105, 97, 115] }, .int .i64 0, .int .i64 (cntN im 0 : Int), .func (.func 30) #[] #[.pointer (some ⟨bo, 0, none⟩), .pointer (some ⟨bi, 0, none⟩)], .int .i64 15, .string { data := #[108, 105, 107, 101, 108, 121] }, .int .i64 0, .int .i64 (cntN im 1 : Int), .func (.func 32) #[] #[.pointer (some ⟨br, 0, none⟩), .pointer (some ⟨bi, 0, none⟩)], .int .i64 15, .string { data := #[114, 117, 108, 101] }, .int .i64 0, .int .i64 (cntN im 2 : Int), .func (.func 33) #[] #[.pointer (some ⟨bs, 0, none⟩), .pointer (some ⟨bi, 0, none⟩)], .int .i64 15, .string { data := #[114, 117, 108, 101] }, .int .i64 (cntN im 2 : Int), .int .i64 1, .func (.func 35) #[] #[.pointer (some ⟨bi, 0, none⟩)]] 66 (0, 0)) ∧ MusI w' bo br bs bi M1 M2 M3 a1 a2 a3 a4 c1 c2 c3 c4 im ∧ Below w.heap.size w w' := by
  obtain ⟨W1, hW1⟩ : ∃ W1, w.alloc (.cells #[.slice a1 (cntN im 0) c1, .slice a2 (cntN im 1) c2, .slice a3 (cntN im 2) c3, .slice a4 (cntN im 3) c4, .int .i64 im.th, .int .i64 im.de] 29) = W1 := ⟨_, rfl⟩
  have hb1 : Below w.heap.size w W1 := by rw [← hW1]; exact (Below.refl _ w).alloc (Nat.le_refl _) _
  have hA : W1.heap[w.heap.size]? = some (.cells #[.slice a1 (cntN im 0) c1, .slice a2 (cntN im 1) c2, .slice a3 (cntN im 2) c3, .slice a4 (cntN im 3) c4, .int .i64 im.th, .int .i64 im.de] 29 (0, 0)) := by rw [← hW1]; exact World.alloc_heap_new w _
  have hi1 := hi.below hb1
  have HO := Lib.hid (oldAls_any _ im.als W1 hi1.a (show im.als.length ≤ 4000 from hn 0) hs.als)
  have HR := Lib.hid (fun w5 (hb : Below W1.heap.size W1 w5) => rowsOf_any _ im.lks w5 (hi1.l.below hb) (show im.lks.length ≤ 4000 from hn 1) hs.lks)
  have HS := Lib.hid (fun w5 (hb : Below W1.heap.size W1 w5) => setsOf_any _ im.mbs w5 (hi1.m.below hb) (show im.mbs.length ≤ 4000 from hn 3) hs.mbs)
  have HC := Lib.hid (fun w' (h : Below W1.heap.size W1 w') => cells6 ((h.block _ (lt_of_block hA)).trans hA))
  have HA := Lib.hid (fun w' (h : Below W1.heap.size W1 w') => (h.block _ (lt_of_block hA)).trans hA)
  have HI := Lib.hid (fun w' (h : Below W1.heap.size W1 w') => hi1.below h)
  have HB := Lib.hid (fun w' (h : Below W1.heap.size W1 w') => hb1.trans (h.mono hb1.size))
  have HW1 := Lib.hid hW1
  have hmf : ∀ (fn : Fn) (first cap : Array Value) (w : World), (Instr.makeFunc fn first cap).run Tryz.prog w = .ok (.func fn first cap) w := fun _ _ _ _ => rfl
  have hr0 : Below W1.heap.size W1 W1 := Below.refl _ _
  obtain ⟨d0, d1, d2, d3, d4, d5⟩ := HC.out _ hr0
  clear hW1 hb1 hA hi1 hi hs hn
  go_enter Tryz.func14, Tryz.ntmps14
  go_upto_region 1 with fail
  rw [HW1.out]
  go_upto_region 2 with (go_at_call 27; (with_reducible refine HO.out.mono ?_); rintro e w2 ⟨M1, rfl, hO2, hb2⟩)
  obtain ⟨V2, hV2⟩ : ∃ V, w2.alloc (.cells #[.map (some M1)] 68) = V := ⟨_, rfl⟩
  have hv2 : Below w2.heap.size w2 V2 := by rw [← hV2]; exact (Below.refl _ _).alloc (Nat.le_refl _) _
  have hB2 : Below W1.heap.size W1 V2 := hb2.trans (hv2.mono hb2.size)
  have HX2 := Lib.hid (show V2.heap[w2.heap.size]? = some (.cells #[.map (some M1)] 68 (0, 0)) by rw [← hV2]; exact World.alloc_heap_new _ _)
  have HO2 := Lib.hid (hO2.below hv2)
  have HV2 := Lib.hid hV2
  have HB2 := Lib.hid hB2
  obtain ⟨d0, d1, d2, d3, d4, d5⟩ := HC.out _ hB2
  obtain ⟨B2, hN2⟩ : ∃ B, w2.heap.size = B := ⟨_, rfl⟩
  rw [hN2] at HX2
  have HN2 := Lib.hid hN2
  try rw [HV2.out]
  try rw [HN2.out]
  have HR2 := Lib.hid (HR.out _ hB2)
  clear hV2 hv2 hB2 hO2 hb2 hN2
  go_upto_region 3 with (go_at_call 28; (with_reducible refine HR2.out.mono ?_); rintro e w3 ⟨M2, rfl, hO3, hb3⟩)
  have hb3' : Below W1.heap.size W1 w3 := HB2.out.trans (hb3.mono HB2.out.size)
  obtain ⟨V3, hV3⟩ : ∃ V, w3.alloc (.cells #[.map (some M2)] 70) = V := ⟨_, rfl⟩
  have hv3 : Below w3.heap.size w3 V3 := by rw [← hV3]; exact (Below.refl _ _).alloc (Nat.le_refl _) _
  have hB3 : Below W1.heap.size W1 V3 := hb3'.trans (hv3.mono hb3'.size)
  have HX3 := Lib.hid (show V3.heap[w3.heap.size]? = some (.cells #[.map (some M2)] 70 (0, 0)) by rw [← hV3]; exact World.alloc_heap_new _ _)
  have HO3 := Lib.hid (SetO.below hO3 hv3)
  have HV3 := Lib.hid hV3
  have HB3 := Lib.hid hB3
  have HY3 := Lib.hid (show Below V2.heap.size V2 V3 from hb3.trans (hv3.mono hb3.size))
  obtain ⟨d0, d1, d2, d3, d4, d5⟩ := HC.out _ hB3
  obtain ⟨B3, hN3⟩ : ∃ B, w3.heap.size = B := ⟨_, rfl⟩
  rw [hN3] at HX3
  have HN3 := Lib.hid hN3
  try rw [HV3.out]
  try rw [HN3.out]
  have HS3 := Lib.hid (HS.out _ hB3)
  clear hV3 hv3 hB3 hO3 hb3 hb3' hN3
  go_upto_region 4 with (go_at_call 29; (with_reducible refine HS3.out.mono ?_); rintro e w4 ⟨M3, rfl, hO4, hb4⟩)
  have hb4' : Below W1.heap.size W1 w4 := HB3.out.trans (hb4.mono HB3.out.size)
  obtain ⟨V4, hV4⟩ : ∃ V, w4.alloc (.cells #[.map (some M3)] 72) = V := ⟨_, rfl⟩
  have hv4 : Below w4.heap.size w4 V4 := by rw [← hV4]; exact (Below.refl _ _).alloc (Nat.le_refl _) _
  have hB4 : Below W1.heap.size W1 V4 := hb4'.trans (hv4.mono hb4'.size)
  have HX4 := Lib.hid (show V4.heap[w4.heap.size]? = some (.cells #[.map (some M3)] 72 (0, 0)) by rw [← hV4]; exact World.alloc_heap_new _ _)
  have HO4 := Lib.hid (SetO.below hO4 hv4)
  have HV4 := Lib.hid hV4
  have HB4 := Lib.hid hB4
  have HY4 := Lib.hid (show Below V3.heap.size V3 V4 from hb4.trans (hv4.mono hb4.size))
  obtain ⟨d0, d1, d2, d3, d4, d5⟩ := HC.out _ hB4
  obtain ⟨B4, hN4⟩ : ∃ B, w4.heap.size = B := ⟨_, rfl⟩
  rw [hN4] at HX4
  have HN4 := Lib.hid hN4
  try rw [HV4.out]
  try rw [HN4.out]
  clear hV4 hv4 hB4 hO4 hb4 hb4' hN4
  go_wp2_with fail
  go_ret
  have hn : Below V4.heap.size V4 (V4.alloc (.cells #[.int .i64 14, .string { data := #[97, 108, 105, 97, 115] }, .int .i64 0, .int .i64 (cntN im 0 : Int), .func (.func 30) #[] #[.pointer (some ⟨B2, 0, none⟩), .pointer (some ⟨w.heap.size, 0, none⟩)], .int .i64 15, .string { data := #[108, 105, 107, 101, 108, 121] }, .int .i64 0, .int .i64 (cntN im 1 : Int), .func (.func 32) #[] #[.pointer (some ⟨B3, 0, none⟩), .pointer (some ⟨w.heap.size, 0, none⟩)], .int .i64 15, .string { data := #[114, 117, 108, 101] }, .int .i64 0, .int .i64 (cntN im 2 : Int), .func (.func 33) #[] #[.pointer (some ⟨B4, 0, none⟩), .pointer (some ⟨w.heap.size, 0, none⟩)], .int .i64 15, .string { data := #[114, 117, 108, 101] }, .int .i64 (cntN im 2 : Int), .int .i64 1, .func (.func 35) #[] #[.pointer (some ⟨w.heap.size, 0, none⟩)]] 66)) := (Below.refl _ _).alloc (Nat.le_refl _) _
  have y24 : Below V2.heap.size V2 V4 := HY3.out.trans (HY4.out.mono HY3.out.size)
  refine ⟨V4.heap.size, B2, B3, B4, w.heap.size, M1, M2, M3, rfl, World.alloc_heap_new _ _, MusI.below ⟨?_, ?_, ?_, ?_, ?_, ?_, ?_, ?_⟩ hn, ?_⟩
  · exact (y24.block _ (lt_of_block HX2.out)).trans HX2.out
  · exact (HY4.out.block _ (lt_of_block HX3.out)).trans HX3.out
  · exact HX4.out
  · exact HA.out _ HB4.out
  · exact HO2.out.below y24
  · exact SetO.below HO3.out HY4.out
  · exact HO4.out
  · exact HI.out _ HB4.out
  · exact (HB.out _ HB4.out).trans (hn.mono (HB.out _ HB4.out).size)
theorem cells5O {W : World} {B : Nat} {a b c d e : Value} {t : TypeId} (h : W.heap[B]? = some (.cells #[a, b, c, d, e] t (0, 0))) : W.cell? ⟨B, 0, none⟩ = some a ∧ W.cell? ⟨B, 1, none⟩ = some b ∧ W.cell? ⟨B, 2, none⟩ = some c ∧ W.cell? ⟨B, 3, none⟩ = some d ∧ W.cell? ⟨B, 4, none⟩ = some e := by simp [World.cell?, h]
set_option maxRecDepth 100000 in
set_option maxHeartbeats 16000000 in
theorem firstWrong_any (g : Nat) (bo br bs bi M1 M2 M3 : Nat) (a1 a2 a3 a4 : Option Addr) (c1 c2 c3 c4 : Nat) (im : Im) (w : World) (hrow : w.heap[g]? = some (.cells #[.int .i64 14, .string { data := #[97, 108, 105, 97, 115] }, .int .i64 0, .int .i64 (cntN im 0 : Int), .func (.func 30) #[] #[.pointer (some ⟨bo, 0, none⟩), .pointer (some ⟨bi, 0, none⟩)], .int .i64 15, .string { data := #[108, 105, 107, 101, 108, 121] }, .int .i64 0, .int .i64 (cntN im 1 : Int), .func (.func 32) #[] #[.pointer (some ⟨br, 0, none⟩), .pointer (some ⟨bi, 0, none⟩)], .int .i64 15, .string { data := #[114, 117, 108, 101] }, .int .i64 0, .int .i64 (cntN im 2 : Int), .func (.func 33) #[] #[.pointer (some ⟨bs, 0, none⟩), .pointer (some ⟨bi, 0, none⟩)], .int .i64 15, .string { data := #[114, 117, 108, 101] }, .int .i64 (cntN im 2 : Int), .int .i64 1, .func (.func 35) #[] #[.pointer (some ⟨bi, 0, none⟩)]] 66 (0, 0))) (hmi : MusI w bo br bs bi M1 M2 M3 a1 a2 a3 a4 c1 c2 c3 c4 im) (hs : ImS im) (hn : ∀ k, cntN im k ≤ 4000) :
    Calls Tryz.prog 13 #[.slice (some ⟨g, 0, none⟩) 4 4] w fun e w' => ∃ v, e = .returned v ∧ EncZ w' v (mustE im) ∧ Below w.heap.size w w' := by
  have HROW := Lib.hid hrow
  have HMI := Lib.hid hmi
  have HS := Lib.hid hs
  have HN := Lib.hid (fun k => show cntN im k ≤ 4001 from Nat.le_succ_of_le (hn k))
  have HLE := Lib.hid hn
  clear hrow hmi hs hn
  go_enter Tryz.func13, Tryz.ntmps13
  go_wp2
  go_step3
  go_wp2
  go_step3
  go_wp2
  go_loopw [3, 9] (fun s3 i wr => ∃ k : Nat, k ≤ 4 ∧ s3 = .nilIface ∧ i = .int .i64 (k : Int) ∧ (∀ j, j < k → failsB im j (mustN im j) = none) ∧ Below w.heap.size w wr) (fun _ i _ => 4 - (intOf i).toNat)
  case atStart => exact ⟨0, Nat.zero_le _, rfl, rfl, (fun j hj => absurd hj (Nat.not_lt_zero _)), Below.refl _ _⟩
  case round =>
    obtain ⟨k, hk, rfl, rfl, hpr, hB⟩ := hrel
    rcases (show k = 0 ∨ k = 1 ∨ k = 2 ∨ k = 3 ∨ k = 4 by omega) with rfl | rfl | rfl | rfl | rfl
    · have hlt : ((0 : Nat) : Int) < 4 := by decide
      have PR := Lib.hid hpr
      have hbw := hB
      have hrow := (hB.block _ (lt_of_block HROW.out)).trans HROW.out
      have e0 := cellAtY hrow 0 _ rfl
      have e1 := cellAtY hrow 1 _ rfl
      have e2 := cellAtY hrow 2 _ rfl
      have e3 := cellAtY hrow 3 _ rfl
      have e4 := cellAtY hrow 4 _ rfl
      have HZ5 := Lib.hid (World.alloc_heap_new wr (.cells #[.int .i64 0, .string ⟨#[]⟩, .int .i64 0, .int .i64 0, .nilFunc] 66))
      obtain ⟨W5, hW5⟩ : ∃ W, (wr.alloc (.cells #[.int .i64 0, .string ⟨#[]⟩, .int .i64 0, .int .i64 0, .nilFunc] 66)).setRow wr.heap.size #[.int .i64 14, .string { data := #[97, 108, 105, 97, 115] }, .int .i64 0, .int .i64 (cntN im 0 : Int), .func (.func 30) #[] #[.pointer (some ⟨bo, 0, none⟩), .pointer (some ⟨bi, 0, none⟩)]] = W := ⟨_, rfl⟩
      have hb5 : Below w.heap.size w W5 := by rw [← hW5]; exact belowZ_setRow (hB.alloc hB.size _) hB.size _
      have hX5 : W5.heap[wr.heap.size]? = some (.cells #[.int .i64 14, .string { data := #[97, 108, 105, 97, 115] }, .int .i64 0, .int .i64 (cntN im 0 : Int), .func (.func 30) #[] #[.pointer (some ⟨bo, 0, none⟩), .pointer (some ⟨bi, 0, none⟩)]] 66 (0, 0)) := by rw [← hW5]; exact setRow_heap _ _ _ _ _ _ HZ5.out
      obtain ⟨B5, hN5⟩ : ∃ B, wr.heap.size = B := ⟨_, rfl⟩
      rw [hN5] at hX5
      have HX5 := Lib.hid (fun w' (h : Below W5.heap.size W5 w') => cells5O ((h.block _ (lt_of_block hX5)).trans hX5))
      have HW5 := Lib.hid hW5
      have HN5 := Lib.hid hN5
      have HB5 := Lib.hid hb5
      have HQ := Lib.hid (fun w' (h : Below W5.heap.size W5 w') (i : Nat) (hi : i < mustN im 0) => musA1_any bo br bs bi M1 M2 M3 a1 a2 a3 a4 c1 c2 c3 c4 im i w' (HMI.out.below (hb5.trans (h.mono hb5.size))) HS.out HN.out hi)
      have hr5 : Below W5.heap.size W5 W5 := Below.refl _ _
      obtain ⟨x0, x1, x2, x3, x4⟩ := HX5.out _ hr5
      clear hpr hbw hrow hb5 hX5 hW5 hN5 hB
      go_upto_region 5 with (refine wpList_store_row rfl _ _ _ rfl _ _ rfl rfl _ _ HZ5.out sizeMust rfl (by simp [Value.oneCell']) ?_)
      try rw [HW5.out]
      try rw [HN5.out]
      go_wp2_with fail
      clear x0 x1 x2 x3 x4
      go_loopw [3, 15] (fun s3 i wx => ∃ m : Nat, m ≤ cntN im 0 ∧ s3 = .nilIface ∧ i = .int .i64 (m : Int) ∧ failsB im 0 m = none ∧ Below W5.heap.size W5 wx) (fun _ i _ => cntN im 0 - (intOf i).toNat)
      case atStart => exact ⟨0, Nat.zero_le _, rfl, rfl, rfl, hr5⟩
      case round =>
        obtain ⟨m, hm, rfl, rfl, hf, hBx⟩ := hrel
        obtain ⟨x0, x1, x2, x3, x4⟩ := HX5.out _ hBx
        by_cases hlm : m < cntN im 0
        · have hlm' : (m : Int) < (cntN im 0 : Int) := by omega
          have hm0 : (0 : Int) ≤ (m : Int) := by omega
          have hle0 := HLE.out 0
          have HC := Lib.hid ((HQ.out _ hBx m hlm).mono (R' := fun e w'' => e = .returned (.bool (holdsB im 0 m)) ∧ Below W5.heap.size W5 w'') fun e w'' ⟨p, q⟩ => ⟨p, hBx.trans (q.mono hBx.size)⟩)
          have HFAIL := Lib.hid (fun h : holdsB im 0 m = false => failsB_at hf h hlm)
          have HNEXT := Lib.hid (fun h : holdsB im 0 m = true => failsB_next hf h)
          clear hf hBx
          generalize holdsB im 0 m = z at *
          cases z with
          | true =>
            clear HFAIL
            go_wp2_with (go_at_call 30; (with_reducible refine HC.out.mono ?_); rintro e w6 ⟨rfl, hb6⟩)
            go_roundw
            case rel => exact ⟨m + 1, by omega, rfl, by go_num, HNEXT.out trivial, hb6⟩
            case measure => simp [intOf]; omega
          | false =>
            clear HNEXT
            have HE := Lib.hid (show mustE im = some (14, (m : Int), { data := #[97, 108, 105, 97, 115] }) from by rw [mustE_at (k := 0) (by decide) PR.out (HFAIL.out rfl)]; show some ((14 : Int), ((0 + m : Nat) : Int), _) = _; rw [Nat.zero_add]; rfl)
            have hk0 : ((14 : Int) == 0) = false := by decide
            go_upto_region 9 with (go_at_call 30; (with_reducible refine HC.out.mono ?_); rintro e w6 ⟨rfl, hb6⟩)
            obtain ⟨y0, y1, y2, y3, y4⟩ := HX5.out _ hb6
            have HZ := Lib.hid (newZ_any 14 (m : Int) { data := #[97, 108, 105, 97, 115] } w6 hk0)
            clear x0 x1 x2 x3 x4 hk0
            go_wp2_with (go_at_call 26; (with_reducible refine HZ.out.mono ?_); rintro e w7 ⟨v7, rfl, hv7, hb7⟩)
            try rw [Exit.noGoto_ret]
            go_ret
            exact ⟨_, rfl, by rw [HE.out]; exact hv7, HB5.out.trans ((hb6.trans (hb7.mono hb6.size)).mono HB5.out.size)⟩
        · obtain rfl : m = cntN im 0 := by omega
          have hlm' : ¬ (cntN im 0 : Int) < (cntN im 0 : Int) := by omega
          have HF := Lib.hid hf
          have HBx := Lib.hid hBx
          clear hf hBx x0 x1 x2 x3 x4
          go_wp2_with fail
          go_roundw
          case rel => exact ⟨1, by omega, rfl, by go_num, (fun j hj => (show j < 0 ∨ j = 0 by omega).elim (fun h => PR.out j h) (fun h => by rw [h]; exact HF.out)), HB5.out.trans (HBx.out.mono HB5.out.size)⟩
          case measure => simp [intOf]
    · have hlt : ((1 : Nat) : Int) < 4 := by decide
      have PR := Lib.hid hpr
      have hbw := hB
      have hrow := (hB.block _ (lt_of_block HROW.out)).trans HROW.out
      have e0 := cellAtY hrow 5 _ rfl
      have e1 := cellAtY hrow 6 _ rfl
      have e2 := cellAtY hrow 7 _ rfl
      have e3 := cellAtY hrow 8 _ rfl
      have e4 := cellAtY hrow 9 _ rfl
      have HZ5 := Lib.hid (World.alloc_heap_new wr (.cells #[.int .i64 0, .string ⟨#[]⟩, .int .i64 0, .int .i64 0, .nilFunc] 66))
      obtain ⟨W5, hW5⟩ : ∃ W, (wr.alloc (.cells #[.int .i64 0, .string ⟨#[]⟩, .int .i64 0, .int .i64 0, .nilFunc] 66)).setRow wr.heap.size #[.int .i64 15, .string { data := #[108, 105, 107, 101, 108, 121] }, .int .i64 0, .int .i64 (cntN im 1 : Int), .func (.func 32) #[] #[.pointer (some ⟨br, 0, none⟩), .pointer (some ⟨bi, 0, none⟩)]] = W := ⟨_, rfl⟩
      have hb5 : Below w.heap.size w W5 := by rw [← hW5]; exact belowZ_setRow (hB.alloc hB.size _) hB.size _
      have hX5 : W5.heap[wr.heap.size]? = some (.cells #[.int .i64 15, .string { data := #[108, 105, 107, 101, 108, 121] }, .int .i64 0, .int .i64 (cntN im 1 : Int), .func (.func 32) #[] #[.pointer (some ⟨br, 0, none⟩), .pointer (some ⟨bi, 0, none⟩)]] 66 (0, 0)) := by rw [← hW5]; exact setRow_heap _ _ _ _ _ _ HZ5.out
      obtain ⟨B5, hN5⟩ : ∃ B, wr.heap.size = B := ⟨_, rfl⟩
      rw [hN5] at hX5
      have HX5 := Lib.hid (fun w' (h : Below W5.heap.size W5 w') => cells5O ((h.block _ (lt_of_block hX5)).trans hX5))
      have HW5 := Lib.hid hW5
      have HN5 := Lib.hid hN5
      have HB5 := Lib.hid hb5
      have HQ := Lib.hid (fun w' (h : Below W5.heap.size W5 w') (i : Nat) (hi : i < mustN im 1) => musA2_any bo br bs bi M1 M2 M3 a1 a2 a3 a4 c1 c2 c3 c4 im i w' (HMI.out.below (hb5.trans (h.mono hb5.size))) HS.out HN.out hi)
      have hr5 : Below W5.heap.size W5 W5 := Below.refl _ _
      obtain ⟨x0, x1, x2, x3, x4⟩ := HX5.out _ hr5
      clear hpr hbw hrow hb5 hX5 hW5 hN5 hB
      go_upto_region 5 with (refine wpList_store_row rfl _ _ _ rfl _ _ rfl rfl _ _ HZ5.out sizeMust rfl (by simp [Value.oneCell']) ?_)
      try rw [HW5.out]
      try rw [HN5.out]
      go_wp2_with fail
      clear x0 x1 x2 x3 x4
      go_loopw [3, 15] (fun s3 i wx => ∃ m : Nat, m ≤ cntN im 1 ∧ s3 = .nilIface ∧ i = .int .i64 (m : Int) ∧ failsB im 1 m = none ∧ Below W5.heap.size W5 wx) (fun _ i _ => cntN im 1 - (intOf i).toNat)
      case atStart => exact ⟨0, Nat.zero_le _, rfl, rfl, rfl, hr5⟩
      case round =>
        obtain ⟨m, hm, rfl, rfl, hf, hBx⟩ := hrel
        obtain ⟨x0, x1, x2, x3, x4⟩ := HX5.out _ hBx
        by_cases hlm : m < cntN im 1
        · have hlm' : (m : Int) < (cntN im 1 : Int) := by omega
          have hm0 : (0 : Int) ≤ (m : Int) := by omega
          have hle1 := HLE.out 1
          have HC := Lib.hid ((HQ.out _ hBx m hlm).mono (R' := fun e w'' => e = .returned (.bool (holdsB im 1 m)) ∧ Below W5.heap.size W5 w'') fun e w'' ⟨p, q⟩ => ⟨p, hBx.trans (q.mono hBx.size)⟩)
          have HFAIL := Lib.hid (fun h : holdsB im 1 m = false => failsB_at hf h hlm)
          have HNEXT := Lib.hid (fun h : holdsB im 1 m = true => failsB_next hf h)
          clear hf hBx
          generalize holdsB im 1 m = z at *
          cases z with
          | true =>
            clear HFAIL
            go_wp2_with (go_at_call 32; (with_reducible refine HC.out.mono ?_); rintro e w6 ⟨rfl, hb6⟩)
            go_roundw
            case rel => exact ⟨m + 1, by omega, rfl, by go_num, HNEXT.out trivial, hb6⟩
            case measure => simp [intOf]; omega
          | false =>
            clear HNEXT
            have HE := Lib.hid (show mustE im = some (15, (m : Int), { data := #[108, 105, 107, 101, 108, 121] }) from by rw [mustE_at (k := 1) (by decide) PR.out (HFAIL.out rfl)]; show some ((15 : Int), ((0 + m : Nat) : Int), _) = _; rw [Nat.zero_add]; rfl)
            have hk0 : ((15 : Int) == 0) = false := by decide
            go_upto_region 9 with (go_at_call 32; (with_reducible refine HC.out.mono ?_); rintro e w6 ⟨rfl, hb6⟩)
            obtain ⟨y0, y1, y2, y3, y4⟩ := HX5.out _ hb6
            have HZ := Lib.hid (newZ_any 15 (m : Int) { data := #[108, 105, 107, 101, 108, 121] } w6 hk0)
            clear x0 x1 x2 x3 x4 hk0
            go_wp2_with (go_at_call 26; (with_reducible refine HZ.out.mono ?_); rintro e w7 ⟨v7, rfl, hv7, hb7⟩)
            try rw [Exit.noGoto_ret]
            go_ret
            exact ⟨_, rfl, by rw [HE.out]; exact hv7, HB5.out.trans ((hb6.trans (hb7.mono hb6.size)).mono HB5.out.size)⟩
        · obtain rfl : m = cntN im 1 := by omega
          have hlm' : ¬ (cntN im 1 : Int) < (cntN im 1 : Int) := by omega
          have HF := Lib.hid hf
          have HBx := Lib.hid hBx
          clear hf hBx x0 x1 x2 x3 x4
          go_wp2_with fail
          go_roundw
          case rel => exact ⟨2, by omega, rfl, by go_num, (fun j hj => (show j < 1 ∨ j = 1 by omega).elim (fun h => PR.out j h) (fun h => by rw [h]; exact HF.out)), HB5.out.trans (HBx.out.mono HB5.out.size)⟩
          case measure => simp [intOf]
    · have hlt : ((2 : Nat) : Int) < 4 := by decide
      have PR := Lib.hid hpr
      have hbw := hB
      have hrow := (hB.block _ (lt_of_block HROW.out)).trans HROW.out
      have e0 := cellAtY hrow 10 _ rfl
      have e1 := cellAtY hrow 11 _ rfl
      have e2 := cellAtY hrow 12 _ rfl
      have e3 := cellAtY hrow 13 _ rfl
      have e4 := cellAtY hrow 14 _ rfl
      have HZ5 := Lib.hid (World.alloc_heap_new wr (.cells #[.int .i64 0, .string ⟨#[]⟩, .int .i64 0, .int .i64 0, .nilFunc] 66))
      obtain ⟨W5, hW5⟩ : ∃ W, (wr.alloc (.cells #[.int .i64 0, .string ⟨#[]⟩, .int .i64 0, .int .i64 0, .nilFunc] 66)).setRow wr.heap.size #[.int .i64 15, .string { data := #[114, 117, 108, 101] }, .int .i64 0, .int .i64 (cntN im 2 : Int), .func (.func 33) #[] #[.pointer (some ⟨bs, 0, none⟩), .pointer (some ⟨bi, 0, none⟩)]] = W := ⟨_, rfl⟩
      have hb5 : Below w.heap.size w W5 := by rw [← hW5]; exact belowZ_setRow (hB.alloc hB.size _) hB.size _
      have hX5 : W5.heap[wr.heap.size]? = some (.cells #[.int .i64 15, .string { data := #[114, 117, 108, 101] }, .int .i64 0, .int .i64 (cntN im 2 : Int), .func (.func 33) #[] #[.pointer (some ⟨bs, 0, none⟩), .pointer (some ⟨bi, 0, none⟩)]] 66 (0, 0)) := by rw [← hW5]; exact setRow_heap _ _ _ _ _ _ HZ5.out
      obtain ⟨B5, hN5⟩ : ∃ B, wr.heap.size = B := ⟨_, rfl⟩
      rw [hN5] at hX5
      have HX5 := Lib.hid (fun w' (h : Below W5.heap.size W5 w') => cells5O ((h.block _ (lt_of_block hX5)).trans hX5))
      have HW5 := Lib.hid hW5
      have HN5 := Lib.hid hN5
      have HB5 := Lib.hid hb5
      have HQ := Lib.hid (fun w' (h : Below W5.heap.size W5 w') (i : Nat) (hi : i < mustN im 2) => musA3_any bo br bs bi M1 M2 M3 a1 a2 a3 a4 c1 c2 c3 c4 im i w' (HMI.out.below (hb5.trans (h.mono hb5.size))) HS.out HN.out hi)
      have hr5 : Below W5.heap.size W5 W5 := Below.refl _ _
      obtain ⟨x0, x1, x2, x3, x4⟩ := HX5.out _ hr5
      clear hpr hbw hrow hb5 hX5 hW5 hN5 hB
      go_upto_region 5 with (refine wpList_store_row rfl _ _ _ rfl _ _ rfl rfl _ _ HZ5.out sizeMust rfl (by simp [Value.oneCell']) ?_)
      try rw [HW5.out]
      try rw [HN5.out]
      go_wp2_with fail
      clear x0 x1 x2 x3 x4
      go_loopw [3, 15] (fun s3 i wx => ∃ m : Nat, m ≤ cntN im 2 ∧ s3 = .nilIface ∧ i = .int .i64 (m : Int) ∧ failsB im 2 m = none ∧ Below W5.heap.size W5 wx) (fun _ i _ => cntN im 2 - (intOf i).toNat)
      case atStart => exact ⟨0, Nat.zero_le _, rfl, rfl, rfl, hr5⟩
      case round =>
        obtain ⟨m, hm, rfl, rfl, hf, hBx⟩ := hrel
        obtain ⟨x0, x1, x2, x3, x4⟩ := HX5.out _ hBx
        by_cases hlm : m < cntN im 2
        · have hlm' : (m : Int) < (cntN im 2 : Int) := by omega
          have hm0 : (0 : Int) ≤ (m : Int) := by omega
          have hle2 := HLE.out 2
          have HC := Lib.hid ((HQ.out _ hBx m hlm).mono (R' := fun e w'' => e = .returned (.bool (holdsB im 2 m)) ∧ Below W5.heap.size W5 w'') fun e w'' ⟨p, q⟩ => ⟨p, hBx.trans (q.mono hBx.size)⟩)
          have HFAIL := Lib.hid (fun h : holdsB im 2 m = false => failsB_at hf h hlm)
          have HNEXT := Lib.hid (fun h : holdsB im 2 m = true => failsB_next hf h)
          clear hf hBx
          generalize holdsB im 2 m = z at *
          cases z with
          | true =>
            clear HFAIL
            go_wp2_with (go_at_call 33; (with_reducible refine HC.out.mono ?_); rintro e w6 ⟨rfl, hb6⟩)
            go_roundw
            case rel => exact ⟨m + 1, by omega, rfl, by go_num, HNEXT.out trivial, hb6⟩
            case measure => simp [intOf]; omega
          | false =>
            clear HNEXT
            have HE := Lib.hid (show mustE im = some (15, (m : Int), { data := #[114, 117, 108, 101] }) from by rw [mustE_at (k := 2) (by decide) PR.out (HFAIL.out rfl)]; show some ((15 : Int), ((0 + m : Nat) : Int), _) = _; rw [Nat.zero_add]; rfl)
            have hk0 : ((15 : Int) == 0) = false := by decide
            go_upto_region 9 with (go_at_call 33; (with_reducible refine HC.out.mono ?_); rintro e w6 ⟨rfl, hb6⟩)
            obtain ⟨y0, y1, y2, y3, y4⟩ := HX5.out _ hb6
            have HZ := Lib.hid (newZ_any 15 (m : Int) { data := #[114, 117, 108, 101] } w6 hk0)
            clear x0 x1 x2 x3 x4 hk0
            go_wp2_with (go_at_call 26; (with_reducible refine HZ.out.mono ?_); rintro e w7 ⟨v7, rfl, hv7, hb7⟩)
            try rw [Exit.noGoto_ret]
            go_ret
            exact ⟨_, rfl, by rw [HE.out]; exact hv7, HB5.out.trans ((hb6.trans (hb7.mono hb6.size)).mono HB5.out.size)⟩
        · obtain rfl : m = cntN im 2 := by omega
          have hlm' : ¬ (cntN im 2 : Int) < (cntN im 2 : Int) := by omega
          have HF := Lib.hid hf
          have HBx := Lib.hid hBx
          clear hf hBx x0 x1 x2 x3 x4
          go_wp2_with fail
          go_roundw
          case rel => exact ⟨3, by omega, rfl, by go_num, (fun j hj => (show j < 2 ∨ j = 2 by omega).elim (fun h => PR.out j h) (fun h => by rw [h]; exact HF.out)), HB5.out.trans (HBx.out.mono HB5.out.size)⟩
          case measure => simp [intOf]
    · have hlt : ((3 : Nat) : Int) < 4 := by decide
      have PR := Lib.hid hpr
      have hbw := hB
      have hrow := (hB.block _ (lt_of_block HROW.out)).trans HROW.out
      have e0 := cellAtY hrow 15 _ rfl
      have e1 := cellAtY hrow 16 _ rfl
      have e2 := cellAtY hrow 17 _ rfl
      have e3 := cellAtY hrow 18 _ rfl
      have e4 := cellAtY hrow 19 _ rfl
      have HZ5 := Lib.hid (World.alloc_heap_new wr (.cells #[.int .i64 0, .string ⟨#[]⟩, .int .i64 0, .int .i64 0, .nilFunc] 66))
      obtain ⟨W5, hW5⟩ : ∃ W, (wr.alloc (.cells #[.int .i64 0, .string ⟨#[]⟩, .int .i64 0, .int .i64 0, .nilFunc] 66)).setRow wr.heap.size #[.int .i64 15, .string { data := #[114, 117, 108, 101] }, .int .i64 (cntN im 2 : Int), .int .i64 1, .func (.func 35) #[] #[.pointer (some ⟨bi, 0, none⟩)]] = W := ⟨_, rfl⟩
      have hb5 : Below w.heap.size w W5 := by rw [← hW5]; exact belowZ_setRow (hB.alloc hB.size _) hB.size _
      have hX5 : W5.heap[wr.heap.size]? = some (.cells #[.int .i64 15, .string { data := #[114, 117, 108, 101] }, .int .i64 (cntN im 2 : Int), .int .i64 1, .func (.func 35) #[] #[.pointer (some ⟨bi, 0, none⟩)]] 66 (0, 0)) := by rw [← hW5]; exact setRow_heap _ _ _ _ _ _ HZ5.out
      obtain ⟨B5, hN5⟩ : ∃ B, wr.heap.size = B := ⟨_, rfl⟩
      rw [hN5] at hX5
      have HX5 := Lib.hid (fun w' (h : Below W5.heap.size W5 w') => cells5O ((h.block _ (lt_of_block hX5)).trans hX5))
      have HW5 := Lib.hid hW5
      have HN5 := Lib.hid hN5
      have HB5 := Lib.hid hb5
      have HQ := Lib.hid (fun w' (h : Below W5.heap.size W5 w') (i : Nat) (hi : i < mustN im 3) => musA4_any bo br bs bi M1 M2 M3 a1 a2 a3 a4 c1 c2 c3 c4 im i w' (HMI.out.below (hb5.trans (h.mono hb5.size))) HS.out HN.out hi)
      have hr5 : Below W5.heap.size W5 W5 := Below.refl _ _
      obtain ⟨x0, x1, x2, x3, x4⟩ := HX5.out _ hr5
      clear hpr hbw hrow hb5 hX5 hW5 hN5 hB
      go_upto_region 5 with (refine wpList_store_row rfl _ _ _ rfl _ _ rfl rfl _ _ HZ5.out sizeMust rfl (by simp [Value.oneCell']) ?_)
      try rw [HW5.out]
      try rw [HN5.out]
      go_wp2_with fail
      clear x0 x1 x2 x3 x4
      go_loopw [3, 15] (fun s3 i wx => ∃ m : Nat, m ≤ 1 ∧ s3 = .nilIface ∧ i = .int .i64 (m : Int) ∧ failsB im 3 m = none ∧ Below W5.heap.size W5 wx) (fun _ i _ => 1 - (intOf i).toNat)
      case atStart => exact ⟨0, Nat.zero_le _, rfl, rfl, rfl, hr5⟩
      case round =>
        obtain ⟨m, hm, rfl, rfl, hf, hBx⟩ := hrel
        obtain ⟨x0, x1, x2, x3, x4⟩ := HX5.out _ hBx
        by_cases hlm : m < 1
        · have hlm' : (m : Int) < 1 := by omega
          have hm0 : (0 : Int) ≤ (m : Int) := by omega
          have hle3 := HLE.out 2
          have HC := Lib.hid ((HQ.out _ hBx m hlm).mono (R' := fun e w'' => e = .returned (.bool (holdsB im 3 m)) ∧ Below W5.heap.size W5 w'') fun e w'' ⟨p, q⟩ => ⟨p, hBx.trans (q.mono hBx.size)⟩)
          have HFAIL := Lib.hid (fun h : holdsB im 3 m = false => failsB_at hf h hlm)
          have HNEXT := Lib.hid (fun h : holdsB im 3 m = true => failsB_next hf h)
          clear hf hBx
          generalize holdsB im 3 m = z at *
          cases z with
          | true =>
            clear HFAIL
            go_wp2_with (go_at_call 35; (with_reducible refine HC.out.mono ?_); rintro e w6 ⟨rfl, hb6⟩)
            go_roundw
            case rel => exact ⟨m + 1, by omega, rfl, by go_num, HNEXT.out trivial, hb6⟩
            case measure => simp [intOf]; omega
          | false =>
            clear HNEXT
            have HE := Lib.hid (show mustE im = some (15, ((cntN im 2 : Int) + (m : Int)), { data := #[114, 117, 108, 101] }) from by rw [mustE_at (k := 3) (by decide) PR.out (HFAIL.out rfl)]; show some ((15 : Int), ((cntN im 2 + m : Nat) : Int), _) = _; rw [Int.natCast_add]; rfl)
            have hk0 : ((15 : Int) == 0) = false := by decide
            go_upto_region 9 with (go_at_call 35; (with_reducible refine HC.out.mono ?_); rintro e w6 ⟨rfl, hb6⟩)
            obtain ⟨y0, y1, y2, y3, y4⟩ := HX5.out _ hb6
            have HZ := Lib.hid (newZ_any 15 ((cntN im 2 : Int) + (m : Int)) { data := #[114, 117, 108, 101] } w6 hk0)
            clear x0 x1 x2 x3 x4 hk0
            go_wp2_with (go_at_call 26; (with_reducible refine HZ.out.mono ?_); rintro e w7 ⟨v7, rfl, hv7, hb7⟩)
            try rw [Exit.noGoto_ret]
            go_ret
            exact ⟨_, rfl, by rw [HE.out]; exact hv7, HB5.out.trans ((hb6.trans (hb7.mono hb6.size)).mono HB5.out.size)⟩
        · obtain rfl : m = 1 := by omega
          have hlm' : ¬ 1 < 1 := by omega
          have HF := Lib.hid hf
          have HBx := Lib.hid hBx
          clear hf hBx x0 x1 x2 x3 x4
          go_wp2_with fail
          go_roundw
          case rel => exact ⟨4, by omega, rfl, by go_num, (fun j hj => (show j < 3 ∨ j = 3 by omega).elim (fun h => PR.out j h) (fun h => by rw [h]; exact HF.out)), HB5.out.trans (HBx.out.mono HB5.out.size)⟩
          case measure => simp [intOf]
    · have HPR := Lib.hid (mustE_none hpr)
      clear hpr
      go_wp2_with fail
      try rw [Exit.noGoto_ret]
      go_ret
      exact ⟨_, rfl, by rw [HPR.out]; rfl, hB⟩
set_option maxRecDepth 100000 in
set_option maxHeartbeats 4000000 in
theorem chkO_any (a1 a2 a3 a4 : Option Addr) (c1 c2 c3 c4 : Nat) (im : Im) (w : World) (hi : ImR w (.slice a1 (cntN im 0) c1) (.slice a2 (cntN im 1) c2) (.slice a3 (cntN im 2) c3) (.slice a4 (cntN im 3) c4) im) (hs : ImS im) (hg : GL w) :
    Calls Tryz.prog 7 #[.agg #[.slice a1 (cntN im 0) c1, .slice a2 (cntN im 1) c2, .slice a3 (cntN im 2) c3, .slice a4 (cntN im 3) c4, .int .i64 im.th, .int .i64 im.de]] w fun e w' => ∃ v, e = .returned v ∧ EncZ w' v (chkE im) ∧ Below w.heap.size w w' := by
  obtain ⟨W1, hW1⟩ : ∃ W1, w.alloc (.cells #[.slice a1 (cntN im 0) c1, .slice a2 (cntN im 1) c2, .slice a3 (cntN im 2) c3, .slice a4 (cntN im 3) c4, .int .i64 im.th, .int .i64 im.de] 29) = W1 := ⟨_, rfl⟩
  have hb1 : Below w.heap.size w W1 := by rw [← hW1]; exact (Below.refl _ w).alloc (Nat.le_refl _) _
  have hA : W1.heap[w.heap.size]? = some (.cells #[.slice a1 (cntN im 0) c1, .slice a2 (cntN im 1) c2, .slice a3 (cntN im 2) c3, .slice a4 (cntN im 3) c4, .int .i64 im.th, .int .i64 im.de] 29 (0, 0)) := by rw [← hW1]; exact World.alloc_heap_new w _
  have hi1 := hi.below hb1
  have HE := Lib.hid (encode_im a1 a2 a3 a4 c1 c2 c3 c4 im W1 hi1 hs (hg.below hb1 hg.size))
  have HC := Lib.hid (fun w' (h : Below W1.heap.size W1 w') => cells6 ((h.block _ (lt_of_block hA)).trans hA))
  have HI := Lib.hid (fun w' (h : Below W1.heap.size W1 w') => hi1.below h)
  have HB := Lib.hid (fun w' (h : Below W1.heap.size W1 w') => hb1.trans (h.mono hb1.size))
  have HW1 := Lib.hid hW1
  have hr0 : Below W1.heap.size W1 W1 := Below.refl _ _
  obtain ⟨d0, d1, d2, d3, d4, d5⟩ := HC.out _ hr0
  clear hW1 hb1 hA hi1 hi hg
  cases he : encE im with
  | some z =>
    have HZ := Lib.hid (chkE_enc he)
    rw [he] at HE
    clear he
    obtain ⟨zk, zp, zs⟩ := z
    go_enter Tryz.func7, Tryz.ntmps7
    go_upto_region 1 with fail
    rw [HW1.out]
    go_wp2_with (go_at_call 10; (with_reducible refine HE.out.mono ?_); rintro e w5 ⟨v5, rfl, hz5, hb5⟩; obtain ⟨q5, rfl, hq5⟩ : FaultZ w5 v5 zk zp zs := hz5)
    go_ret
    exact ⟨_, rfl, by rw [HZ.out]; exact ⟨q5, rfl, hq5⟩, HB.out _ hb5⟩
  | none =>
    have HZ := Lib.hid (chkE_must he)
    have hn : ∀ k, cntN im k ≤ 4000 := manyB_false (by cases h : manyB im with | false => rfl | true => rw [encE_many h] at he; cases he)
    rw [he] at HE
    clear he
    have HM := Lib.hid (fun w5 (hb : Below W1.heap.size W1 w5) => musts_any a1 a2 a3 a4 c1 c2 c3 c4 im w5 (HI.out _ hb) hs hn)
    have HF := Lib.hid (fun g bo br bs bi M1 M2 M3 w6 h1 h2 => firstWrong_any g bo br bs bi M1 M2 M3 a1 a2 a3 a4 c1 c2 c3 c4 im w6 h1 h2 hs hn)
    clear hs hn
    go_enter Tryz.func7, Tryz.ntmps7
    go_upto_region 1 with fail
    rw [HW1.out]
    go_upto_region 4 with (go_at_call 10; (with_reducible refine HE.out.mono ?_); rintro e w5 ⟨v5, rfl, hz5, hb5⟩; obtain rfl : v5 = .nilIface := hz5)
    obtain ⟨f0, f1, f2, f3, f4, f5⟩ := HC.out _ hb5
    clear d0 d1 d2 d3 d4 d5
    go_wp2_with (first
      | (go_at_call 14; (with_reducible refine (HM.out _ hb5).mono ?_); rintro e w6 ⟨g, bo, br, bs, bi, M1, M2, M3, rfl, h61, h62, h63⟩)
      | (go_at_call 13; (with_reducible refine (HF.out g bo br bs bi M1 M2 M3 _ h61 h62).mono ?_); rintro e w7 ⟨v7, rfl, h71, h72⟩))
    go_ret
    exact ⟨_, rfl, by rw [HZ.out]; exact h71, HB.out _ (hb5.trans ((h63.trans (h72.mono h63.size)).mono hb5.size))⟩
end Go.Proofs.YtbafmnafhaoggaaGreatDoor
