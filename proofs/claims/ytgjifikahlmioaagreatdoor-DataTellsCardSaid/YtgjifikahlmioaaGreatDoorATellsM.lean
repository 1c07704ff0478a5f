/-
  Several texts in one: ZMany:flat_getZ, ZSeed:rowC_block, ASame, ATells. (Printed by wip/mergetpl.py.)
-/
import Derived.Test.YtgjifikahlmioaaGreatDoorZEncM
import Derived.Test.YtgjifikahlmioaaGreatDoorADataM
import Derived.Test.YtgjifikahlmioaaGreatDoorWAll
import Derived.Test.YtgjifikahlmioaaGreatDoorZEnc
import Derived.Laws.StructEq
import Derived.ChangeKeysEq
import Derived.BigQuiet
import Derived.Deep.QuietTactic
import Derived.Deep.RegionHeld3

namespace Go.Proofs.YtgjifikahlmioaaGreatDoor
open Go Go.RowKit

theorem flat_getZ {sz : Nat} : ∀ {L : List (List Value)} {i k : Nat} {c : List Value} {x : Value}, (∀ c ∈ L, c.length = sz) → L[i]? = some c → c[k]? = some x → (L.flatMap id)[i * sz + k]? = some x
  | [], i, k, c, x, _, h, _ => by simp at h
  | a :: t, 0, k, c, x, hs, h, hk => by
    simp at h; subst h
    rw [Nat.zero_mul, Nat.zero_add, List.flatMap_cons, List.getElem?_append_left (show k < (id a).length from (List.getElem?_eq_some_iff.1 hk).1)]
    exact hk
  | a :: t, i + 1, k, c, x, hs, h, hk => by
    have ha := hs a List.mem_cons_self
    rw [List.flatMap_cons, List.getElem?_append_right (by show a.length ≤ _; rw [ha, Nat.succ_mul]; omega)]
    have e : (i + 1) * sz + k - (id a).length = i * sz + k := by show (i + 1) * sz + k - a.length = _; rw [ha, Nat.succ_mul]; omega
    rw [e]
    exact flat_getZ (fun c hc => hs c (List.mem_cons_of_mem _ hc)) (by simpa using h) hk
end Go.Proofs.YtgjifikahlmioaaGreatDoor

namespace Go.Proofs.YtgjifikahlmioaaGreatDoor
open Go Go.RowKit

theorem rowC_block {W : World} {g sz n : Nat} {t : TypeId} {L : List (List Value)} (h : W.heap[g]? = some (.cells (L.flatMap id).toArray t (0, 0))) (_hn : n = L.length) (hs : ∀ c ∈ L, c.length = sz) : RowC W (.slice (some ⟨g, 0, none⟩) L.length n) sz L :=
  ⟨_, _, rfl, fun i c hc => ⟨g, 0, rfl, fun k x hk => by rw [Nat.zero_add]; exact cellAtY h (i * sz + k) x (by rw [List.getElem?_toArray]; exact flat_getZ hs hc hk)⟩⟩
end Go.Proofs.YtgjifikahlmioaaGreatDoor

namespace Go.Proofs.YtgjifikahlmioaaGreatDoor
open Go Go.RowKit

set_option maxRecDepth 100000 in
set_option maxHeartbeats 2000000 in
theorem eq_arr3 (a b c : ByteArray) (w : World) : (Op.equalIn 9999 50 (.agg #[.string a, .string b, .string c]) (.agg #[.string a, .string b, .string c])).run Tryz.prog w = .ok true w := by
  obtain ⟨i0, hi, hz0, hz1, hz2⟩ := info_parts stringInfo
  have hc : Tryz.prog.cellsOf 9 = 1 := by kernel_rfl
  rw [show (9999 : Nat) = 9998 + 1 from rfl, run_equalIn_array w 9998 _ _ Tryz.underlying50 hi, hc, show List.range 3 = [0, 1, 2] from rfl]
  simp only [Op.eqItems]
  go_simp
theorem eqg13A : Tryz.prog.eqGuardType Tryz.prog.depth 47 = false := by kernel_rfl
theorem eqg13L : Tryz.prog.eqGuardType Tryz.prog.depth 49 = false := by kernel_rfl
theorem eqg13R : Tryz.prog.eqGuardType Tryz.prog.depth 52 = false := by kernel_rfl
theorem eqg13M : Tryz.prog.eqGuardType Tryz.prog.depth 54 = false := by kernel_rfl
set_option maxRecDepth 1000000 in
set_option maxHeartbeats 16000000 in
theorem sameIm_any (a1 a2 a3 a4 b1 b2 b3 b4 : Option Addr) (c1 c2 c3 c4 d1 d2 d3 d4 : Nat) (im : Im) (w : World) (hi : ImR w (.slice a1 (cntN im 0) c1) (.slice a2 (cntN im 1) c2) (.slice a3 (cntN im 2) c3) (.slice a4 (cntN im 3) c4) im) (hj : ImR w (.slice b1 (cntN im 0) d1) (.slice b2 (cntN im 1) d2) (.slice b3 (cntN im 2) d3) (.slice b4 (cntN im 3) d4) im) (hn : ∀ k, cntN im k ≤ 1000) :
    Calls Tryz.prog 15 #[.agg #[.slice a1 (cntN im 0) c1, .slice a2 (cntN im 1) c2, .slice a3 (cntN im 2) c3, .slice a4 (cntN im 3) c4, .int .i64 im.th, .int .i64 im.de], .agg #[.slice b1 (cntN im 0) d1, .slice b2 (cntN im 1) d2, .slice b3 (cntN im 2) d3, .slice b4 (cntN im 3) d4, .int .i64 im.th, .int .i64 im.de]] w fun e w' => e = .returned (.bool true) ∧ Below w.heap.size w w' := by
  obtain ⟨W0, hW0⟩ : ∃ W0, w.alloc (.cells #[.slice a1 (cntN im 0) c1, .slice a2 (cntN im 1) c2, .slice a3 (cntN im 2) c3, .slice a4 (cntN im 3) c4, .int .i64 im.th, .int .i64 im.de] 33) = W0 := ⟨_, rfl⟩
  obtain ⟨W1, hW1⟩ : ∃ W1, W0.alloc (.cells #[.slice b1 (cntN im 0) d1, .slice b2 (cntN im 1) d2, .slice b3 (cntN im 2) d3, .slice b4 (cntN im 3) d4, .int .i64 im.th, .int .i64 im.de] 33) = W1 := ⟨_, rfl⟩
  have hs0 : W0.heap.size = w.heap.size + 1 := by rw [← hW0]; simp
  have hb0 : Below w.heap.size w W0 := by rw [← hW0]; exact (Below.refl _ w).alloc (Nat.le_refl _) _
  have hb1 : Below w.heap.size w W1 := by rw [← hW1]; exact hb0.alloc hb0.size _
  have hA : W1.heap[w.heap.size]? = some (.cells #[.slice a1 (cntN im 0) c1, .slice a2 (cntN im 1) c2, .slice a3 (cntN im 2) c3, .slice a4 (cntN im 3) c4, .int .i64 im.th, .int .i64 im.de] 33 (0, 0)) := by rw [← hW1]; refine (Below.heap_alloc _ _ _ (by omega)).trans ?_; rw [← hW0]; exact World.alloc_heap_new w _
  have hQ : W1.heap[w.heap.size + 1]? = some (.cells #[.slice b1 (cntN im 0) d1, .slice b2 (cntN im 1) d2, .slice b3 (cntN im 2) d3, .slice b4 (cntN im 3) d4, .int .i64 im.th, .int .i64 im.de] 33 (0, 0)) := by rw [← hW1, ← hs0]; exact World.alloc_heap_new W0 _
  have hi1 := hi.below hb1
  have hj1 := hj.below hb1
  have L0 := Lib.hid (And.intro hi1.a.openF hj1.a.openF)
  have L1 := Lib.hid (And.intro hi1.l.openF hj1.l.openF)
  have L2 := Lib.hid (And.intro hi1.r.openF hj1.r.openF)
  have L3 := Lib.hid (And.intro hi1.m.openF hj1.m.openF)
  have HI := Lib.hid (fun w' (h : Below W1.heap.size W1 w') => And.intro (cells6 ((h.block _ (lt_of_block hA)).trans hA)) (cells6 ((h.block _ (lt_of_block hQ)).trans hQ)))
  have HB := Lib.hid (fun w' (h : Below W1.heap.size W1 w') => hb1.trans (h.mono hb1.size))
  have HW := Lib.hid (And.intro hW0 (And.intro hW1 hs0))
  have HN := Lib.hid (⟨rfl, rfl, rfl, rfl⟩ : im.als.length = cntN im 0 ∧ im.lks.length = cntN im 1 ∧ im.rls.length = cntN im 2 ∧ im.mbs.length = cntN im 3)
  have hm0 := hn 0
  have hm1 := hn 1
  have hm2 := hn 2
  have hm3 := hn 3
  have eqA := eqg13A
  have eqL := eqg13L
  have eqR := eqg13R
  have eqM := eqg13M
  clear hW0 hW1 hs0 hb0 hb1 hA hQ hi1 hj1 hi hj hn
  obtain ⟨⟨i0, i1, i2, i3, i4, i5⟩, ⟨j0, j1, j2, j3, j4, j5⟩⟩ := HI.out _ (Below.refl _ _)
  go_enter Tryz.func15, Tryz.ntmps15
  go_upto_region 1 with fail
  try rw [HW.out.1]
  try rw [HW.out.2.1]
  try rw [HW.out.2.2]
  have HBL : Below W1.heap.size W1 W1 := Below.refl _ _
  go_wp2_with fail
  clear i0 i1 i2 i3 i4 i5 j0 j1 j2 j3 j4 j5
  go_loopw [5] (fun i wr => ∃ k : Nat, k ≤ cntN im 0 ∧ i = .int .i64 (k : Int) ∧ Below W1.heap.size W1 wr) (fun i _ => cntN im 0 - (intOf i).toNat)
  case atStart => exact ⟨0, Nat.zero_le _, rfl, HBL⟩
  case round =>
    clear HBL
    obtain ⟨k, hk, rfl, hbw⟩ := hrel
    obtain ⟨⟨i0, i1, i2, i3, i4, i5⟩, ⟨j0, j1, j2, j3, j4, j5⟩⟩ := HI.out _ hbw
    by_cases hlt : k < cntN im 0
    · have hki : (k : Int) < (cntN im 0 : Int) := by omega
      have hk0 : (0 : Int) ≤ (k : Int) := by omega
      obtain ⟨x, hx⟩ : ∃ x, im.als[k]? = some x := ⟨_, List.getElem?_eq_getElem (by rw [HN.out.1]; exact hlt)⟩
      obtain ⟨g, o, rfl, hcc⟩ := L0.out.1 k x hx
      obtain ⟨g', o', rfl, hcd⟩ := L0.out.2 k x hx
      have e0 := show World.cell? _ ⟨g, o + k * 6, none⟩ = some (.int .i64 x.k) from hcc _ hbw 0 _ rfl
      have f0 := show World.cell? _ ⟨g', o' + k * 6, none⟩ = some (.int .i64 x.k) from hcd _ hbw 0 _ rfl
      have e1 := show World.cell? _ ⟨g, o + k * 6 + 1, none⟩ = some (.string x.a) from hcc _ hbw 1 _ rfl
      have f1 := show World.cell? _ ⟨g', o' + k * 6 + 1, none⟩ = some (.string x.a) from hcd _ hbw 1 _ rfl
      have e2 := show World.cell? _ ⟨g, o + k * 6 + 2, none⟩ = some (.string x.b) from hcc _ hbw 2 _ rfl
      have f2 := show World.cell? _ ⟨g', o' + k * 6 + 2, none⟩ = some (.string x.b) from hcd _ hbw 2 _ rfl
      have e3 := show World.cell? _ ⟨g, o + k * 6 + 3, none⟩ = some (.string x.l) from hcc _ hbw 3 _ rfl
      have f3 := show World.cell? _ ⟨g', o' + k * 6 + 3, none⟩ = some (.string x.l) from hcd _ hbw 3 _ rfl
      have e4 := show World.cell? _ ⟨g, o + k * 6 + 4, none⟩ = some (.string x.s) from hcc _ hbw 4 _ rfl
      have f4 := show World.cell? _ ⟨g', o' + k * 6 + 4, none⟩ = some (.string x.s) from hcd _ hbw 4 _ rfl
      have e5 := show World.cell? _ ⟨g, o + k * 6 + 5, none⟩ = some (.string x.r) from hcc _ hbw 5 _ rfl
      have f5 := show World.cell? _ ⟨g', o' + k * 6 + 5, none⟩ = some (.string x.r) from hcd _ hbw 5 _ rfl
      have HBW := Lib.hid hbw
      clear hcc hcd hx hbw
      go_wp2_with fail
      go_quiet (fail)
      go_wp2_with fail
      go_roundw
      case rel => exact ⟨k + 1, by omega, by go_num, below_drewN HBW.out _⟩
      case measure => simp [intOf]; omega
    · obtain rfl : k = cntN im 0 := by omega
      have hki : ¬ (cntN im 0 : Int) < (cntN im 0 : Int) := by omega
      have HBL := hbw
      clear hbw hk hlt
      go_wp2_with fail
      clear i0 i1 i2 i3 i4 i5 j0 j1 j2 j3 j4 j5
      go_loopw [6] (fun i wr => ∃ k : Nat, k ≤ cntN im 1 ∧ i = .int .i64 (k : Int) ∧ Below W1.heap.size W1 wr) (fun i _ => cntN im 1 - (intOf i).toNat)
      case atStart => exact ⟨0, Nat.zero_le _, rfl, HBL⟩
      case round =>
        clear HBL
        obtain ⟨k, hk, rfl, hbw⟩ := hrel
        obtain ⟨⟨i0, i1, i2, i3, i4, i5⟩, ⟨j0, j1, j2, j3, j4, j5⟩⟩ := HI.out _ hbw
        by_cases hlt : k < cntN im 1
        · have hki : (k : Int) < (cntN im 1 : Int) := by omega
          have hk0 : (0 : Int) ≤ (k : Int) := by omega
          obtain ⟨x, hx⟩ : ∃ x, im.lks[k]? = some x := ⟨_, List.getElem?_eq_getElem (by rw [HN.out.2.1]; exact hlt)⟩
          obtain ⟨g, o, rfl, hcc⟩ := L1.out.1 k x hx
          obtain ⟨g', o', rfl, hcd⟩ := L1.out.2 k x hx
          have e0 := show World.cell? _ ⟨g, o + k * 6, none⟩ = some (.string x.l) from hcc _ hbw 0 _ rfl
          have f0 := show World.cell? _ ⟨g', o' + k * 6, none⟩ = some (.string x.l) from hcd _ hbw 0 _ rfl
          have e1 := show World.cell? _ ⟨g, o + k * 6 + 1, none⟩ = some (.string x.s) from hcc _ hbw 1 _ rfl
          have f1 := show World.cell? _ ⟨g', o' + k * 6 + 1, none⟩ = some (.string x.s) from hcd _ hbw 1 _ rfl
          have e2 := show World.cell? _ ⟨g, o + k * 6 + 2, none⟩ = some (.string x.r) from hcc _ hbw 2 _ rfl
          have f2 := show World.cell? _ ⟨g', o' + k * 6 + 2, none⟩ = some (.string x.r) from hcd _ hbw 2 _ rfl
          have e3 := show World.cell? _ ⟨g, o + k * 6 + 3, none⟩ = some (.string x.tl) from hcc _ hbw 3 _ rfl
          have f3 := show World.cell? _ ⟨g', o' + k * 6 + 3, none⟩ = some (.string x.tl) from hcd _ hbw 3 _ rfl
          have e4 := show World.cell? _ ⟨g, o + k * 6 + 4, none⟩ = some (.string x.ts) from hcc _ hbw 4 _ rfl
          have f4 := show World.cell? _ ⟨g', o' + k * 6 + 4, none⟩ = some (.string x.ts) from hcd _ hbw 4 _ rfl
          have e5 := show World.cell? _ ⟨g, o + k * 6 + 5, none⟩ = some (.string x.tr) from hcc _ hbw 5 _ rfl
          have f5 := show World.cell? _ ⟨g', o' + k * 6 + 5, none⟩ = some (.string x.tr) from hcd _ hbw 5 _ rfl
          have HBW := Lib.hid hbw
          clear hcc hcd hx hbw
          go_wp2_with fail
          go_quiet (fail)
          go_wp2_with fail
          go_roundw
          case rel => exact ⟨k + 1, by omega, by go_num, below_drewN HBW.out _⟩
          case measure => simp [intOf]; omega
        · obtain rfl : k = cntN im 1 := by omega
          have hki : ¬ (cntN im 1 : Int) < (cntN im 1 : Int) := by omega
          have HBL := hbw
          clear hbw hk hlt
          go_wp2_with fail
          clear i0 i1 i2 i3 i4 i5 j0 j1 j2 j3 j4 j5
          go_loopw [7] (fun i wr => ∃ k : Nat, k ≤ cntN im 2 ∧ i = .int .i64 (k : Int) ∧ Below W1.heap.size W1 wr) (fun i _ => cntN im 2 - (intOf i).toNat)
          case atStart => exact ⟨0, Nat.zero_le _, rfl, HBL⟩
          case round =>
            clear HBL
            obtain ⟨k, hk, rfl, hbw⟩ := hrel
            obtain ⟨⟨i0, i1, i2, i3, i4, i5⟩, ⟨j0, j1, j2, j3, j4, j5⟩⟩ := HI.out _ hbw
            by_cases hlt : k < cntN im 2
            · have hki : (k : Int) < (cntN im 2 : Int) := by omega
              have hk0 : (0 : Int) ≤ (k : Int) := by omega
              obtain ⟨x, hx⟩ : ∃ x, im.rls[k]? = some x := ⟨_, List.getElem?_eq_getElem (by rw [HN.out.2.2.1]; exact hlt)⟩
              obtain ⟨g, o, rfl, hcc⟩ := L2.out.1 k x hx
              obtain ⟨g', o', rfl, hcd⟩ := L2.out.2 k x hx
              have e0 := show World.cell? _ ⟨g, o + k * 9, none⟩ = some (.int .i64 x.lv) from hcc _ hbw 0 _ rfl
              have f0 := show World.cell? _ ⟨g', o' + k * 9, none⟩ = some (.int .i64 x.lv) from hcd _ hbw 0 _ rfl
              have e1 := show World.cell? _ ⟨g, o + k * 9 + 1, none⟩ = some (.int .i64 x.co) from hcc _ hbw 1 _ rfl
              have f1 := show World.cell? _ ⟨g', o' + k * 9 + 1, none⟩ = some (.int .i64 x.co) from hcd _ hbw 1 _ rfl
              have e2 := show World.cell? _ ⟨g, o + k * 9 + 2, none⟩ = some (.bool x.ow) from hcc _ hbw 2 _ rfl
              have f2 := show World.cell? _ ⟨g', o' + k * 9 + 2, none⟩ = some (.bool x.ow) from hcd _ hbw 2 _ rfl
              have e3 := show World.cell? _ ⟨g, o + k * 9 + 3, none⟩ = some (.string x.d0) from hcc _ hbw 3 _ rfl
              have f3 := show World.cell? _ ⟨g', o' + k * 9 + 3, none⟩ = some (.string x.d0) from hcd _ hbw 3 _ rfl
              have e4 := show World.cell? _ ⟨g, o + k * 9 + 4, none⟩ = some (.string x.d1) from hcc _ hbw 4 _ rfl
              have f4 := show World.cell? _ ⟨g', o' + k * 9 + 4, none⟩ = some (.string x.d1) from hcd _ hbw 4 _ rfl
              have e5 := show World.cell? _ ⟨g, o + k * 9 + 5, none⟩ = some (.string x.d2) from hcc _ hbw 5 _ rfl
              have f5 := show World.cell? _ ⟨g', o' + k * 9 + 5, none⟩ = some (.string x.d2) from hcd _ hbw 5 _ rfl
              have e6 := show World.cell? _ ⟨g, o + k * 9 + 6, none⟩ = some (.string x.s0) from hcc _ hbw 6 _ rfl
              have f6 := show World.cell? _ ⟨g', o' + k * 9 + 6, none⟩ = some (.string x.s0) from hcd _ hbw 6 _ rfl
              have e7 := show World.cell? _ ⟨g, o + k * 9 + 7, none⟩ = some (.string x.s1) from hcc _ hbw 7 _ rfl
              have f7 := show World.cell? _ ⟨g', o' + k * 9 + 7, none⟩ = some (.string x.s1) from hcd _ hbw 7 _ rfl
              have e8 := show World.cell? _ ⟨g, o + k * 9 + 8, none⟩ = some (.string x.s2) from hcc _ hbw 8 _ rfl
              have f8 := show World.cell? _ ⟨g', o' + k * 9 + 8, none⟩ = some (.string x.s2) from hcd _ hbw 8 _ rfl
              have hD := fun w' => eq_arr3 x.d0 x.d1 x.d2 w'
              have hS := fun w' => eq_arr3 x.s0 x.s1 x.s2 w'
              have HBW := Lib.hid hbw
              clear hcc hcd hx hbw
              go_wp2_with fail
              go_quiet (fail)
              go_wp2_with fail
              go_roundw
              case rel => exact ⟨k + 1, by omega, by go_num, below_drewN HBW.out _⟩
              case measure => simp [intOf]; omega
            · obtain rfl : k = cntN im 2 := by omega
              have hki : ¬ (cntN im 2 : Int) < (cntN im 2 : Int) := by omega
              have HBL := hbw
              clear hbw hk hlt
              go_wp2_with fail
              clear i0 i1 i2 i3 i4 i5 j0 j1 j2 j3 j4 j5
              go_loopw [8] (fun i wr => ∃ k : Nat, k ≤ cntN im 3 ∧ i = .int .i64 (k : Int) ∧ Below W1.heap.size W1 wr) (fun i _ => cntN im 3 - (intOf i).toNat)
              case atStart => exact ⟨0, Nat.zero_le _, rfl, HBL⟩
              case round =>
                clear HBL
                obtain ⟨k, hk, rfl, hbw⟩ := hrel
                obtain ⟨⟨i0, i1, i2, i3, i4, i5⟩, ⟨j0, j1, j2, j3, j4, j5⟩⟩ := HI.out _ hbw
                by_cases hlt : k < cntN im 3
                · have hki : (k : Int) < (cntN im 3 : Int) := by omega
                  have hk0 : (0 : Int) ≤ (k : Int) := by omega
                  obtain ⟨x, hx⟩ : ∃ x, im.mbs[k]? = some x := ⟨_, List.getElem?_eq_getElem (by rw [HN.out.2.2.2]; exact hlt)⟩
                  obtain ⟨g, o, rfl, hcc⟩ := L3.out.1 k x hx
                  obtain ⟨g', o', rfl, hcd⟩ := L3.out.2 k x hx
                  have e0 := show World.cell? _ ⟨g, o + k * 2, none⟩ = some (.string x.st) from hcc _ hbw 0 _ rfl
                  have f0 := show World.cell? _ ⟨g', o' + k * 2, none⟩ = some (.string x.st) from hcd _ hbw 0 _ rfl
                  have e1 := show World.cell? _ ⟨g, o + k * 2 + 1, none⟩ = some (.string x.rg) from hcc _ hbw 1 _ rfl
                  have f1 := show World.cell? _ ⟨g', o' + k * 2 + 1, none⟩ = some (.string x.rg) from hcd _ hbw 1 _ rfl
                  have HBW := Lib.hid hbw
                  clear hcc hcd hx hbw
                  go_wp2_with fail
                  go_quiet (fail)
                  go_wp2_with fail
                  go_roundw
                  case rel => exact ⟨k + 1, by omega, by go_num, below_drewN HBW.out _⟩
                  case measure => simp [intOf]; omega
                · obtain rfl : k = cntN im 3 := by omega
                  have hki : ¬ (cntN im 3 : Int) < (cntN im 3 : Int) := by omega
                  have HBL := hbw
                  clear hbw hk hlt
                  go_wp2_with fail
                  go_ret
                  exact ⟨rfl, HB.out _ HBL⟩
end Go.Proofs.YtgjifikahlmioaaGreatDoor

namespace Go.Proofs.YtgjifikahlmioaaGreatDoor
open Go Go.RowKit

def im15 : Im := ⟨als15.map fun x => ⟨x.k, x.a, x.b, x.l, x.s, x.r⟩, lks15.map fun x => ⟨x.l, x.s, x.r, x.tl, x.ts, x.tr⟩, rls15.map fun x => ⟨x.lv, x.co, x.ow, x.d0, x.d1, x.d2, x.s0, x.s1, x.s2⟩, mbs15.map fun x => ⟨x.st, x.rg⟩, 40, 5⟩
theorem cnt15 : cntN im15 0 = 54 ∧ cntN im15 1 = 32 ∧ cntN im15 2 = 15 ∧ cntN im15 3 = 7 := by decide +kernel
theorem cnt15_le (k : Nat) : cntN im15 k ≤ 1000 := by
  obtain ⟨h0, h1, h2, h3⟩ := cnt15
  rcases k with _ | _ | _ | k
  · rw [h0]; decide
  · rw [h1]; decide
  · rw [h2]; decide
  · rw [show cntN im15 (k + 1 + 1 + 1) = cntN im15 3 from rfl, h3]; decide
theorem flat15 {α β : Type} (l : List α) (f : α → β) (g : β → List Value) (h : α → List Value) (e : ∀ x, g (f x) = h x) : l.flatMap h = ((l.map f).map g).flatMap id := by
  induction l with
  | nil => rfl
  | cons x l ih => rw [List.flatMap_cons, List.map_cons, List.map_cons, List.flatMap_cons, ih, e]; rfl
theorem Im15.imr {W : World} {b g1 g2 g3 g4 : Nat} (h : Im15 W b g1 g2 g3 g4) : ImR W (.slice (some ⟨g1, 0, none⟩) (cntN im15 0) 54) (.slice (some ⟨g2, 0, none⟩) (cntN im15 1) 32) (.slice (some ⟨g3, 0, none⟩) (cntN im15 2) 15) (.slice (some ⟨g4, 0, none⟩) (cntN im15 3) 7) im15 := by
  obtain ⟨h0, h1, h2, h3⟩ := cnt15
  have ra : RowC W (.slice (some ⟨g1, 0, none⟩) (im15.als.map alC).length 54) 6 (im15.als.map alC) := rowC_block (by rw [show (im15.als.map alC).flatMap id = als15.flatMap axC from (flat15 _ _ _ _ (fun _ => rfl)).symm]; exact h.a) (by rw [List.length_map]; exact h0.symm) (fun c hc => by obtain ⟨x, _, rfl⟩ := List.mem_map.1 hc; rfl)
  have rl : RowC W (.slice (some ⟨g2, 0, none⟩) (im15.lks.map lkC).length 32) 6 (im15.lks.map lkC) := rowC_block (by rw [show (im15.lks.map lkC).flatMap id = lks15.flatMap lxC from (flat15 _ _ _ _ (fun _ => rfl)).symm]; exact h.l) (by rw [List.length_map]; exact h1.symm) (fun c hc => by obtain ⟨x, _, rfl⟩ := List.mem_map.1 hc; rfl)
  have rr : RowC W (.slice (some ⟨g3, 0, none⟩) (im15.rls.map rlC).length 15) 9 (im15.rls.map rlC) := rowC_block (by rw [show (im15.rls.map rlC).flatMap id = rls15.flatMap rxC from (flat15 _ _ _ _ (fun _ => rfl)).symm]; exact h.r) (by rw [List.length_map]; exact h2.symm) (fun c hc => by obtain ⟨x, _, rfl⟩ := List.mem_map.1 hc; rfl)
  have rm : RowC W (.slice (some ⟨g4, 0, none⟩) (im15.mbs.map mbC).length 7) 2 (im15.mbs.map mbC) := rowC_block (by rw [show (im15.mbs.map mbC).flatMap id = mbs15.flatMap mxC from (flat15 _ _ _ _ (fun _ => rfl)).symm]; exact h.m) (by rw [List.length_map]; exact h3.symm) (fun c hc => by obtain ⟨x, _, rfl⟩ := List.mem_map.1 hc; rfl)
  rw [List.length_map] at ra rl rr rm
  exact ⟨ra, rl, rr, rm⟩
theorem ims_a : ∀ x ∈ im15.als, (Lit.int .i64 x.k).wf = true ∧ x.a.size ≤ 1000 ∧ x.b.size ≤ 1000 ∧ x.l.size ≤ 1000 ∧ x.s.size ≤ 1000 ∧ x.r.size ≤ 1000 := by decide +kernel
theorem ims_l : ∀ x ∈ im15.lks, ∀ t ∈ lkT x, t.size ≤ 1000 := by decide +kernel
theorem ims_r : ∀ x ∈ im15.rls, (Lit.int .i64 x.lv).wf = true ∧ (Lit.int .i64 x.co).wf = true ∧ ∀ t ∈ rlT x, t.size ≤ 1000 := by decide +kernel
theorem ims_m : ∀ x ∈ im15.mbs, x.st.size ≤ 1000 ∧ x.rg.size ≤ 1000 := by decide +kernel
theorem ims15 : ImS im15 := ⟨fun x hx => by obtain ⟨a, b, c, d, e, f⟩ := ims_a x hx; exact ⟨a, b, c, d, e, f⟩, ims_l, fun x hx => by obtain ⟨a, b, c⟩ := ims_r x hx; exact ⟨a, b, c⟩, fun x hx => by obtain ⟨a, b⟩ := ims_m x hx; exact ⟨a, b⟩⟩
theorem same15 {g1 g2 g3 g4 h1 h2 h3 h4 b b' : Nat} (w : World) (hi : Im15 w b g1 g2 g3 g4) (hj : Im15 w b' h1 h2 h3 h4) :
    Calls Tryz.prog 15 #[.agg #[.slice (some ⟨g1, 0, none⟩) 54 54, .slice (some ⟨g2, 0, none⟩) 32 32, .slice (some ⟨g3, 0, none⟩) 15 15, .slice (some ⟨g4, 0, none⟩) 7 7, .int .i64 40, .int .i64 5], .agg #[.slice (some ⟨h1, 0, none⟩) 54 54, .slice (some ⟨h2, 0, none⟩) 32 32, .slice (some ⟨h3, 0, none⟩) 15 15, .slice (some ⟨h4, 0, none⟩) 7 7, .int .i64 40, .int .i64 5]] w fun e w' => e = .returned (.bool true) ∧ Below w.heap.size w w' := by
  have h := sameIm_any (some ⟨g1, 0, none⟩) (some ⟨g2, 0, none⟩) (some ⟨g3, 0, none⟩) (some ⟨g4, 0, none⟩) (some ⟨h1, 0, none⟩) (some ⟨h2, 0, none⟩) (some ⟨h3, 0, none⟩) (some ⟨h4, 0, none⟩) 54 32 15 7 54 32 15 7 im15 w hi.imr hj.imr cnt15_le
  obtain ⟨e0, e1, e2, e3⟩ := cnt15
  rw [e0, e1, e2, e3] at h
  exact h
theorem got_form (im : Im) : ∃ k p s, gotZ (encB im) (encE im) = .agg #[.string (encB im), .int .i64 k, .int .i64 p, .string s] := by
  cases he : encE im with
  | none => exact ⟨0, 0, ⟨#[]⟩, rfl⟩
  | some e => obtain ⟨k, p, s⟩ := e; rw [encB_some he]; exact ⟨k, p, s, rfl⟩
theorem encode15 {g1 g2 g3 g4 b : Nat} (w : World) (hi : Im15 w b g1 g2 g3 g4) (hg : GL w) :
    Calls Tryz.prog 9 #[.agg #[.slice (some ⟨g1, 0, none⟩) 54 54, .slice (some ⟨g2, 0, none⟩) 32 32, .slice (some ⟨g3, 0, none⟩) 15 15, .slice (some ⟨g4, 0, none⟩) 7 7, .int .i64 40, .int .i64 5]] w fun e w' => ∃ v, e = .returned (.tuple #[.string (encB im15), v]) ∧ Below w.heap.size w w' := by
  have h := encode_im (some ⟨g1, 0, none⟩) (some ⟨g2, 0, none⟩) (some ⟨g3, 0, none⟩) (some ⟨g4, 0, none⟩) 54 32 15 7 im15 w hi.imr ims15 hg
  obtain ⟨e0, e1, e2, e3⟩ := cnt15
  rw [e0, e1, e2, e3] at h
  exact h.mono fun e w' ⟨v, p, _, q⟩ => ⟨v, p, q⟩
theorem encodeD15 {g1 g2 g3 g4 b : Nat} (w : World) (hi : Im15 w b g1 g2 g3 g4) :
    Calls Tryz.prog 18 #[.agg #[.slice (some ⟨g1, 0, none⟩) 54 54, .slice (some ⟨g2, 0, none⟩) 32 32, .slice (some ⟨g3, 0, none⟩) 15 15, .slice (some ⟨g4, 0, none⟩) 7 7, .int .i64 40, .int .i64 5]] w fun e w' => e = .returned (gotZ (encB im15) (encE im15)) ∧ Below w.heap.size w w' := by
  have h := encodeD_ref (some ⟨g1, 0, none⟩) (some ⟨g2, 0, none⟩) (some ⟨g3, 0, none⟩) (some ⟨g4, 0, none⟩) 54 32 15 7 im15 w hi.imr ims15 cnt15_le
  obtain ⟨e0, e1, e2, e3⟩ := cnt15
  rw [e0, e1, e2, e3] at h
  exact h
set_option maxRecDepth 100000 in
set_option maxHeartbeats 2000000 in
theorem bytes_15 (w : World) (hg : GL w) : Calls Tryz.prog 17 #[] w fun e w' => e = .returned (.string (encB im15)) ∧ Below w.heap.size w w' := by
  have HI := Lib.hid (image_15 w)
  have HG := Lib.hid (fun w' (h : Below w.heap.size w w') => hg.below h hg.size)
  have HE := Lib.hid (fun (g1 g2 g3 g4 b : Nat) w' (hi : Im15 w' b g1 g2 g3 g4) (h : Below w.heap.size w w') => encode15 w' hi (HG.out w' h))
  clear hg
  generalize encB im15 = out at *
  go_enter Tryz.func17, Tryz.ntmps17
  go_wp2_with (first
    | (go_at_call 13; (with_reducible refine HI.out.mono ?_); rintro e w2 ⟨g1, g2, g3, g4, rfl, hI, hb2⟩)
    | (go_at_call 9; (with_reducible refine (HE.out _ _ _ _ _ _ hI hb2).mono ?_); rintro e w3 ⟨v, rfl, hb3⟩))
  go_ret
  exact ⟨rfl, hb2.trans (hb3.mono hb2.size)⟩
/-- One block written, and no other. -/
structure MutA (W W' : World) (g : Nat) : Prop where
  oth : ∀ k, k ≠ g → W'.heap[k]? = W.heap[k]?
  bel : ∀ B, B ≤ g → Below B W W'
theorem MutA.set (W : World) (g i : Nat) (v : Value) : MutA W (W.drew.setCell ⟨g, i, none⟩ v) g := ⟨fun _ hk => heap_setCellZ (W := W.drew) hk, fun _ hB => (Below.drew (Below.refl _ W)).setCell (p := ⟨g, i, none⟩) hB v⟩
theorem Im15.keep {W W' : World} {b h1 h2 h3 h4 : Nat} (h : Im15 W b h1 h2 h3 h4) (hk : ∀ k, b ≤ k → W'.heap[k]? = W.heap[k]?) : Im15 W' b h1 h2 h3 h4 :=
  ⟨(hk _ h.o1).trans h.a, (hk _ (by have := h.o1; have := h.o2; omega)).trans h.l, (hk _ (by have := h.o1; have := h.o2; have := h.o3; omega)).trans h.r, (hk _ (by have := h.o1; have := h.o2; have := h.o3; have := h.o4; omega)).trans h.m, h.o1, h.o2, h.o3, h.o4⟩
theorem cell_inA {W : World} {g n i : Nat} {l : List Value} {t : TypeId} (h : W.heap[g]? = some (.cells l.toArray t (0, 0))) (hl : l.length = n) (hi : i < n) : ∃ v, W.cell? ⟨g, i, none⟩ = some v := by
  subst hl
  exact ⟨l[i], cellAtY h i _ (by rw [List.getElem?_toArray]; exact List.getElem?_eq_getElem hi)⟩
theorem len15 : (als15.flatMap axC).length = 324 ∧ (lks15.flatMap lxC).length = 192 ∧ (rls15.flatMap rxC).length = 135 ∧ (mbs15.flatMap mxC).length = 14 := by decide +kernel
set_option maxRecDepth 1000000 in
set_option maxHeartbeats 16000000 in
theorem dataTells_law (a0 : Int) (w : World) (_h0 : (Lit.int .i64 a0).wf = true) (hg : GL w) :
    Calls Tryz.prog 5 #[.int .i64 a0] w fun e w' => e = .returned (.bool true) ∧ Below w.heap.size w w' := by
  have AW := Lib.hid (awake15_any w)
  have HIM := Lib.hid (fun w' => image_15 w')
  have HIR := Lib.hid (fun w' => imageR_15 w')
  have HG := Lib.hid (fun w' (h : Below w.heap.size w w') => hg.below h hg.size)
  have hr1 : rest15V a0 54 < 54 := rest15V_lt a0 54 (by decide)
  have RR1 := Lib.hid (fun w' => show Calls Tryz.prog 16 #[.int .i64 a0, .int .i64 54] w' (fun e w'' => e = .returned (.int .i64 (rest15V a0 54 : Int)) ∧ w'' = w') from rest15_any a0 54 w' (by decide) (by decide))
  have hr2 : rest15V a0 32 < 32 := rest15V_lt a0 32 (by decide)
  have RR2 := Lib.hid (fun w' => show Calls Tryz.prog 16 #[.int .i64 a0, .int .i64 32] w' (fun e w'' => e = .returned (.int .i64 (rest15V a0 32 : Int)) ∧ w'' = w') from rest15_any a0 32 w' (by decide) (by decide))
  have hr3 : rest15V a0 15 < 15 := rest15V_lt a0 15 (by decide)
  have RR3 := Lib.hid (fun w' => show Calls Tryz.prog 16 #[.int .i64 a0, .int .i64 15] w' (fun e w'' => e = .returned (.int .i64 (rest15V a0 15 : Int)) ∧ w'' = w') from rest15_any a0 15 w' (by decide) (by decide))
  have hr4 : rest15V a0 7 < 7 := rest15V_lt a0 7 (by decide)
  have RR4 := Lib.hid (fun w' => show Calls Tryz.prog 16 #[.int .i64 a0, .int .i64 7] w' (fun e w'' => e = .returned (.int .i64 (rest15V a0 7 : Int)) ∧ w'' = w') from rest15_any a0 7 w' (by decide) (by decide))
  generalize rest15V a0 54 = r1 at *
  generalize rest15V a0 32 = r2 at *
  generalize rest15V a0 15 = r3 at *
  generalize rest15V a0 7 = r4 at *
  clear _h0 hg
  go_enter Tryz.func5, Tryz.ntmps5
  go_upto_region 2 with (go_at_call 12; (with_reducible refine AW.out.mono ?_); rintro e w1 ⟨rfl, hb1⟩)
  go_upto_region 3 with (go_at_call 13; (with_reducible refine (HIM.out _).mono ?_); rintro e w2 ⟨g1, g2, g3, g4, rfl, hI, hb2⟩)
  obtain ⟨W3, hW3⟩ : ∃ W, w2.alloc (.cells #[.slice (some ⟨g1, 0, none⟩) 54 54, .slice (some ⟨g2, 0, none⟩) 32 32, .slice (some ⟨g3, 0, none⟩) 15 15, .slice (some ⟨g4, 0, none⟩) 7 7, .int .i64 40, .int .i64 5] 33) = W := ⟨_, rfl⟩
  have hb3 : Below w2.heap.size w2 W3 := by rw [← hW3]; exact (Below.refl _ _).alloc (Nat.le_refl _) _
  have hc3 : W3.heap[w2.heap.size]? = some (.cells #[.slice (some ⟨g1, 0, none⟩) 54 54, .slice (some ⟨g2, 0, none⟩) 32 32, .slice (some ⟨g3, 0, none⟩) 15 15, .slice (some ⟨g4, 0, none⟩) 7 7, .int .i64 40, .int .i64 5] 33 (0, 0)) := by rw [← hW3]; exact World.alloc_heap_new _ _
  have hs3 := lt_of_block hc3
  rw [hW3]
  clear hW3
  go_upto_region 4 with (go_at_call 14; (with_reducible refine (HIR.out _).mono ?_); rintro e w4 ⟨h1, h2, h3, h4, rfl, hJ, hb4⟩)
  obtain ⟨W5, hW5⟩ : ∃ W, w4.alloc (.cells #[.slice (some ⟨h1, 0, none⟩) 54 54, .slice (some ⟨h2, 0, none⟩) 32 32, .slice (some ⟨h3, 0, none⟩) 15 15, .slice (some ⟨h4, 0, none⟩) 7 7, .int .i64 40, .int .i64 5] 33) = W := ⟨_, rfl⟩
  have hb5 : Below w4.heap.size w4 W5 := by rw [← hW5]; exact (Below.refl _ _).alloc (Nat.le_refl _) _
  have hc5 : W5.heap[w4.heap.size]? = some (.cells #[.slice (some ⟨h1, 0, none⟩) 54 54, .slice (some ⟨h2, 0, none⟩) 32 32, .slice (some ⟨h3, 0, none⟩) 15 15, .slice (some ⟨h4, 0, none⟩) 7 7, .int .i64 40, .int .i64 5] 33 (0, 0)) := by rw [← hW5]; exact World.alloc_heap_new _ _
  rw [hW5]
  clear hW5
  have hb35 : Below W3.heap.size W3 W5 := hb4.trans (hb5.mono hb4.size)
  have hI5 := (hI.below hb3).below hb35
  have hJ5 := hJ.below hb5
  have hd3 := (hb35.block _ (lt_of_block hc3)).trans hc3
  have hbw : Below w.heap.size w W5 := ((hb1.trans (hb2.mono hb1.size)).trans (hb3.mono (Nat.le_trans hb1.size hb2.size))).trans (hb35.mono (Nat.le_trans (Nat.le_trans hb1.size hb2.size) hb3.size))
  have ho1 : w.heap.size ≤ g1 := Nat.le_trans hb1.size hI.o1
  have ho2 : g4 < w2.heap.size := lt_of_block hI.m
  have ho3 : W3.heap.size ≤ w4.heap.size := hb4.size
  obtain ⟨z0, z1, z2, z3, z4, z5⟩ := cells6 hd3
  obtain ⟨y0, y1, y2, y3, y4, y5⟩ := cells6 hc5
  have HSM := Lib.hid (same15 W5 hI5 hJ5)
  go_upto_region 5 with (go_at_call 15; (with_reducible refine HSM.out.mono ?_); rintro e V0 ⟨rfl, hb6⟩)
  go_upto_region 7 with fail
  clear z0 z1 z2 z3 z4 z5 y0 y1 y2 y3 y4 y5 HSM
  have hI0 := hI5.below hb6
  have HJ0 := Lib.hid (hJ5.below hb6)
  have HD0 := Lib.hid ((hb6.block _ (lt_of_block hd3)).trans hd3)
  have HR0 := Lib.hid ((hb6.block _ (lt_of_block hc5)).trans hc5)
  have HB0 := Lib.hid (hbw.trans (hb6.mono hbw.size))
  have HI0 := Lib.hid hI0
  obtain ⟨bI, hbI⟩ : ∃ n, w2.heap.size = n := ⟨_, rfl⟩
  obtain ⟨bR, hbR⟩ : ∃ n, w4.heap.size = n := ⟨_, rfl⟩
  obtain ⟨b3, hb3'⟩ : ∃ n, W3.heap.size = n := ⟨_, rfl⟩
  have o2 := hI0.o2
  have o3 := hI0.o3
  have o4 := hI0.o4
  clear hI0 hb1 hb2 hb3 hb4 hb5 hb6 hb35 hI hJ hI5 hJ5 hc3 hd3 hc5 hbw AW HIR
  rw [hbI] at HD0 ho2 hs3 ⊢
  rw [hbR] at HR0 ho3 ⊢
  rw [hb3'] at HJ0 ho3 hs3
  clear hbI hbR hb3'
  have HDI1 := Lib.hid (HD0.out)
  have HGI1 := Lib.hid (HI0.out.a)
  obtain ⟨cv1, hcv1⟩ := cell_inA (i := r1 * 6 + 3) HGI1.out len15.1 (by omega)
  have hfz1 := frozenY HGI1.out (r1 * 6 + 3)
  have hcw1 : V0.drew.cell? ⟨g1, r1 * 6 + 3, none⟩ = some cv1 := hcv1
  have hfw1 : V0.drew.frozen? ⟨g1, r1 * 6 + 3, none⟩ = false := hfz1
  have hri1 : (r1 : Int) < 54 := by omega
  have hrj1 : (0 : Int) ≤ (r1 : Int) := by omega
  have HC1 := Lib.hid (show V0.drew.cell? ⟨bI, 0, none⟩ = some (.slice (some ⟨g1, 0, none⟩) 54 54) from (cells6 HDI1.out).1)
  have HCS1 := Lib.hid (show (V0.drew.setCell ⟨g1, r1 * 6 + 3, none⟩ (.string { data := #[122, 122, 122] })).cell? ⟨bI, 0, none⟩ = some (.slice (some ⟨g1, 0, none⟩) 54 54) from (World.cell?_of_block (a := ⟨bI, 0, none⟩) (heap_setCellZ (W := V0.drew) (show bI ≠ g1 by omega))).trans HC1.out)
  refine wp_region_held_drew (S := fun w' => w'.cell? ⟨bI, 0, none⟩ = some (.slice (some ⟨g1, 0, none⟩) 54 54)) (by kernel_rfl) (HC1.out) (fun hHeld => ?_)
  apply held_shellA (R := fun w' => MutA V0 w' g1)
  exact fun _ _ d _ _ h => by cases d <;> exact h
  rotate_left 1
  · intro KK hKp hfin
    refine wpAnyH_take (i := 0) (v := .pointer (some ⟨bI, 0, none⟩)) rfl (by kernel_rfl) (by kernel_rfl) (by kernel_rfl) (fun c a w h => hKp c a _ _ w h) (Or.inl ⟨by kernel_rfl, fun w hSw => by dsimp only at hSw; obtain s0 := hSw; go_simp⟩) (by assumption) ?_
    simp only [Act.put, List.getElem_toArray, List.getElem_cons_zero, List.setIfInBounds_toArray, List.set_cons_zero, List.set_cons_succ]
    refine wpAnyH_take (i := 1) (v := .slice (some ⟨g1, 0, none⟩) 54 54) rfl (by kernel_rfl) (by kernel_rfl) (by kernel_rfl) (fun c a w h => hKp c a _ _ w h) (Or.inl ⟨by kernel_rfl, fun w hSw => by dsimp only at hSw; obtain s0 := hSw; go_simp⟩) (by assumption) ?_
    simp only [Act.put, List.getElem_toArray, List.getElem_cons_zero, List.getElem_cons_succ, List.setIfInBounds_toArray, List.set_cons_zero, List.set_cons_succ]
    refine wpAnyH_take (i := 2) (v := .int .i64 a0) rfl (by kernel_rfl) (by kernel_rfl) (by kernel_rfl) (fun c a w h => hKp c a _ _ w h) (Or.inl ⟨by kernel_rfl, fun w hSw => by dsimp only at hSw; obtain s0 := hSw; go_simp⟩) (by assumption) ?_
    simp only [Act.put, List.getElem_toArray, List.getElem_cons_zero, List.getElem_cons_succ, List.setIfInBounds_toArray, List.set_cons_zero, List.set_cons_succ]
    refine wpAnyH_take (i := 3) (v := .pointer (some ⟨bI, 0, none⟩)) rfl (by kernel_rfl) (by kernel_rfl) (by kernel_rfl) (fun c a w h => hKp c a _ _ w h) (Or.inl ⟨by kernel_rfl, fun w hSw => by dsimp only at hSw; obtain s0 := hSw; go_simp⟩) (by assumption) ?_
    simp only [Act.put, List.getElem_toArray, List.getElem_cons_zero, List.getElem_cons_succ, List.setIfInBounds_toArray, List.set_cons_zero, List.set_cons_succ]
    refine wpAnyH_take (i := 4) (v := .slice (some ⟨g1, 0, none⟩) 54 54) rfl (by kernel_rfl) (by kernel_rfl) (by kernel_rfl) (fun c a w h => hKp c a _ _ w h) (Or.inl ⟨by kernel_rfl, fun w hSw => by dsimp only at hSw; obtain s0 := hSw; go_simp⟩) (by assumption) ?_
    simp only [Act.put, List.getElem_toArray, List.getElem_cons_zero, List.getElem_cons_succ, List.setIfInBounds_toArray, List.set_cons_zero, List.set_cons_succ]
    refine wpAnyH_take (i := 5) (v := .int .i64 54) rfl (by kernel_rfl) (by kernel_rfl) (by kernel_rfl) (fun c a w h => hKp c a _ _ w h) (Or.inl ⟨by kernel_rfl, fun w hSw => by dsimp only at hSw; obtain s0 := hSw; go_simp⟩) (by assumption) ?_
    simp only [Act.put, List.getElem_toArray, List.getElem_cons_zero, List.getElem_cons_succ, List.setIfInBounds_toArray, List.set_cons_zero, List.set_cons_succ]
    refine wpAnyH_ready (rs := [6]) (by kernel_rfl) (by simp) ?_
    refine AllReadyH.cons rfl (fun Kx hKx => ?_) AllReadyH.nil
    try rw [if_pos (by kernel_rfl)]
    go_simp
    refine (RR1.out _).mono ?_
    rintro e w5 ⟨rfl, rfl⟩
    refine hKx.out _ _ (HC1.out) (fun hHeld => ?_)
    clear hKx Kx
    try simp only [Act.put, List.getElem_toArray, List.getElem_cons_zero, List.getElem_cons_succ, List.setIfInBounds_toArray, List.set_cons_zero, List.set_cons_succ]
    refine wpAnyH_take (i := 7) (v := .pointer (some ⟨g1, r1 * 6, none⟩)) rfl (by kernel_rfl) (by kernel_rfl) (by kernel_rfl) (fun c a w h => hKp c a _ _ w h) (Or.inl ⟨by kernel_rfl, fun w hSw => by dsimp only at hSw; obtain s0 := hSw; go_simp⟩) (by assumption) ?_
    simp only [Act.put, List.getElem_toArray, List.getElem_cons_zero, List.getElem_cons_succ, List.setIfInBounds_toArray, List.set_cons_zero, List.set_cons_succ]
    refine wpAnyH_take (i := 8) (v := .pointer (some ⟨g1, r1 * 6 + 3, none⟩)) rfl (by kernel_rfl) (by kernel_rfl) (by kernel_rfl) (fun c a w h => hKp c a _ _ w h) (Or.inl ⟨by kernel_rfl, fun w hSw => by dsimp only at hSw; obtain s0 := hSw; go_simp⟩) (by assumption) ?_
    simp only [Act.put, List.getElem_toArray, List.getElem_cons_zero, List.getElem_cons_succ, List.setIfInBounds_toArray, List.set_cons_zero, List.set_cons_succ]
    refine wpAnyH_ready (rs := [9]) (by kernel_rfl) (by simp) ?_
    refine AllReadyH.cons rfl (fun Kx hKx => ?_) AllReadyH.nil
    try rw [if_pos (by kernel_rfl)]
    go_simp
    refine hKx.out _ _ (HCS1.out) (fun hHeld => ?_)
    clear hKx Kx
    try simp only [Act.put, List.getElem_toArray, List.getElem_cons_zero, List.getElem_cons_succ, List.setIfInBounds_toArray, List.set_cons_zero, List.set_cons_succ]
    refine wpAnyH_done (by kernel_rfl) ?_ _
    exact hfin _ (MutA.set _ _ _ _)
  rintro V1 hM1
  have HM1 := Lib.hid hM1
  clear hM1 hcv1 hfz1 hcw1 hfw1 HC1 HCS1 HDI1 HGI1 RR1
  go_upto_region 8 with fail
  have HDI2 := Lib.hid ((HM1.out.oth bI (by omega)).trans HD0.out)
  have HGI2 := Lib.hid ((HM1.out.oth g2 (by omega)).trans HI0.out.l)
  obtain ⟨cv2, hcv2⟩ := cell_inA (i := r2 * 6 + 4) HGI2.out len15.2.1 (by omega)
  have hfz2 := frozenY HGI2.out (r2 * 6 + 4)
  have hcw2 : V1.drew.cell? ⟨g2, r2 * 6 + 4, none⟩ = some cv2 := hcv2
  have hfw2 : V1.drew.frozen? ⟨g2, r2 * 6 + 4, none⟩ = false := hfz2
  have hri2 : (r2 : Int) < 32 := by omega
  have hrj2 : (0 : Int) ≤ (r2 : Int) := by omega
  have HC2 := Lib.hid (show V1.drew.cell? ⟨bI, 1, none⟩ = some (.slice (some ⟨g2, 0, none⟩) 32 32) from (cells6 HDI2.out).2.1)
  have HCS2 := Lib.hid (show (V1.drew.setCell ⟨g2, r2 * 6 + 4, none⟩ (.string { data := #[122, 122, 122, 122] })).cell? ⟨bI, 1, none⟩ = some (.slice (some ⟨g2, 0, none⟩) 32 32) from (World.cell?_of_block (a := ⟨bI, 1, none⟩) (heap_setCellZ (W := V1.drew) (show bI ≠ g2 by omega))).trans HC2.out)
  refine wp_region_held_drew (S := fun w' => w'.cell? ⟨bI, 1, none⟩ = some (.slice (some ⟨g2, 0, none⟩) 32 32)) (by kernel_rfl) (HC2.out) (fun hHeld => ?_)
  apply held_shellA (R := fun w' => MutA V1 w' g2)
  exact fun _ _ d _ _ h => by cases d <;> exact h
  rotate_left 1
  · intro KK hKp hfin
    refine wpAnyH_take (i := 0) (v := .pointer (some ⟨bI, 1, none⟩)) rfl (by kernel_rfl) (by kernel_rfl) (by kernel_rfl) (fun c a w h => hKp c a _ _ w h) (Or.inl ⟨by kernel_rfl, fun w hSw => by dsimp only at hSw; obtain s0 := hSw; go_simp⟩) (by assumption) ?_
    simp only [Act.put, List.getElem_toArray, List.getElem_cons_zero, List.setIfInBounds_toArray, List.set_cons_zero, List.set_cons_succ]
    refine wpAnyH_take (i := 1) (v := .slice (some ⟨g2, 0, none⟩) 32 32) rfl (by kernel_rfl) (by kernel_rfl) (by kernel_rfl) (fun c a w h => hKp c a _ _ w h) (Or.inl ⟨by kernel_rfl, fun w hSw => by dsimp only at hSw; obtain s0 := hSw; go_simp⟩) (by assumption) ?_
    simp only [Act.put, List.getElem_toArray, List.getElem_cons_zero, List.getElem_cons_succ, List.setIfInBounds_toArray, List.set_cons_zero, List.set_cons_succ]
    refine wpAnyH_take (i := 2) (v := .int .i64 a0) rfl (by kernel_rfl) (by kernel_rfl) (by kernel_rfl) (fun c a w h => hKp c a _ _ w h) (Or.inl ⟨by kernel_rfl, fun w hSw => by dsimp only at hSw; obtain s0 := hSw; go_simp⟩) (by assumption) ?_
    simp only [Act.put, List.getElem_toArray, List.getElem_cons_zero, List.getElem_cons_succ, List.setIfInBounds_toArray, List.set_cons_zero, List.set_cons_succ]
    refine wpAnyH_take (i := 3) (v := .pointer (some ⟨bI, 1, none⟩)) rfl (by kernel_rfl) (by kernel_rfl) (by kernel_rfl) (fun c a w h => hKp c a _ _ w h) (Or.inl ⟨by kernel_rfl, fun w hSw => by dsimp only at hSw; obtain s0 := hSw; go_simp⟩) (by assumption) ?_
    simp only [Act.put, List.getElem_toArray, List.getElem_cons_zero, List.getElem_cons_succ, List.setIfInBounds_toArray, List.set_cons_zero, List.set_cons_succ]
    refine wpAnyH_take (i := 4) (v := .slice (some ⟨g2, 0, none⟩) 32 32) rfl (by kernel_rfl) (by kernel_rfl) (by kernel_rfl) (fun c a w h => hKp c a _ _ w h) (Or.inl ⟨by kernel_rfl, fun w hSw => by dsimp only at hSw; obtain s0 := hSw; go_simp⟩) (by assumption) ?_
    simp only [Act.put, List.getElem_toArray, List.getElem_cons_zero, List.getElem_cons_succ, List.setIfInBounds_toArray, List.set_cons_zero, List.set_cons_succ]
    refine wpAnyH_take (i := 5) (v := .int .i64 32) rfl (by kernel_rfl) (by kernel_rfl) (by kernel_rfl) (fun c a w h => hKp c a _ _ w h) (Or.inl ⟨by kernel_rfl, fun w hSw => by dsimp only at hSw; obtain s0 := hSw; go_simp⟩) (by assumption) ?_
    simp only [Act.put, List.getElem_toArray, List.getElem_cons_zero, List.getElem_cons_succ, List.setIfInBounds_toArray, List.set_cons_zero, List.set_cons_succ]
    refine wpAnyH_ready (rs := [6]) (by kernel_rfl) (by simp) ?_
    refine AllReadyH.cons rfl (fun Kx hKx => ?_) AllReadyH.nil
    try rw [if_pos (by kernel_rfl)]
    go_simp
    refine (RR2.out _).mono ?_
    rintro e w5 ⟨rfl, rfl⟩
    refine hKx.out _ _ (HC2.out) (fun hHeld => ?_)
    clear hKx Kx
    try simp only [Act.put, List.getElem_toArray, List.getElem_cons_zero, List.getElem_cons_succ, List.setIfInBounds_toArray, List.set_cons_zero, List.set_cons_succ]
    refine wpAnyH_take (i := 7) (v := .pointer (some ⟨g2, r2 * 6, none⟩)) rfl (by kernel_rfl) (by kernel_rfl) (by kernel_rfl) (fun c a w h => hKp c a _ _ w h) (Or.inl ⟨by kernel_rfl, fun w hSw => by dsimp only at hSw; obtain s0 := hSw; go_simp⟩) (by assumption) ?_
    simp only [Act.put, List.getElem_toArray, List.getElem_cons_zero, List.getElem_cons_succ, List.setIfInBounds_toArray, List.set_cons_zero, List.set_cons_succ]
    refine wpAnyH_take (i := 8) (v := .pointer (some ⟨g2, r2 * 6 + 4, none⟩)) rfl (by kernel_rfl) (by kernel_rfl) (by kernel_rfl) (fun c a w h => hKp c a _ _ w h) (Or.inl ⟨by kernel_rfl, fun w hSw => by dsimp only at hSw; obtain s0 := hSw; go_simp⟩) (by assumption) ?_
    simp only [Act.put, List.getElem_toArray, List.getElem_cons_zero, List.getElem_cons_succ, List.setIfInBounds_toArray, List.set_cons_zero, List.set_cons_succ]
    refine wpAnyH_ready (rs := [9]) (by kernel_rfl) (by simp) ?_
    refine AllReadyH.cons rfl (fun Kx hKx => ?_) AllReadyH.nil
    try rw [if_pos (by kernel_rfl)]
    go_simp
    refine hKx.out _ _ (HCS2.out) (fun hHeld => ?_)
    clear hKx Kx
    try simp only [Act.put, List.getElem_toArray, List.getElem_cons_zero, List.getElem_cons_succ, List.setIfInBounds_toArray, List.set_cons_zero, List.set_cons_succ]
    refine wpAnyH_done (by kernel_rfl) ?_ _
    exact hfin _ (MutA.set _ _ _ _)
  rintro V2 hM2
  have HM2 := Lib.hid hM2
  clear hM2 hcv2 hfz2 hcw2 hfw2 HC2 HCS2 HDI2 HGI2 RR2
  go_upto_region 9 with fail
  have HDI3 := Lib.hid (((HM2.out.oth bI (by omega)).trans (HM1.out.oth bI (by omega))).trans HD0.out)
  have HGI3 := Lib.hid (((HM2.out.oth g3 (by omega)).trans (HM1.out.oth g3 (by omega))).trans HI0.out.r)
  obtain ⟨cv3, hcv3⟩ := cell_inA (i := r3 * 9 + 3) HGI3.out len15.2.2.1 (by omega)
  have hfz3 := frozenY HGI3.out (r3 * 9 + 3)
  have hcw3 : V2.drew.cell? ⟨g3, r3 * 9 + 3, none⟩ = some cv3 := hcv3
  have hfw3 : V2.drew.frozen? ⟨g3, r3 * 9 + 3, none⟩ = false := hfz3
  have hri3 : (r3 : Int) < 15 := by omega
  have hrj3 : (0 : Int) ≤ (r3 : Int) := by omega
  have HC3 := Lib.hid (show V2.drew.cell? ⟨bI, 2, none⟩ = some (.slice (some ⟨g3, 0, none⟩) 15 15) from (cells6 HDI3.out).2.2.1)
  have HCS3 := Lib.hid (show (V2.drew.setCell ⟨g3, r3 * 9 + 3, none⟩ (.string { data := #[122, 122, 122] })).cell? ⟨bI, 2, none⟩ = some (.slice (some ⟨g3, 0, none⟩) 15 15) from (World.cell?_of_block (a := ⟨bI, 2, none⟩) (heap_setCellZ (W := V2.drew) (show bI ≠ g3 by omega))).trans HC3.out)
  refine wp_region_held_drew (S := fun w' => w'.cell? ⟨bI, 2, none⟩ = some (.slice (some ⟨g3, 0, none⟩) 15 15)) (by kernel_rfl) (HC3.out) (fun hHeld => ?_)
  apply held_shellA (R := fun w' => MutA V2 w' g3)
  exact fun _ _ d _ _ h => by cases d <;> exact h
  rotate_left 1
  · intro KK hKp hfin
    refine wpAnyH_take (i := 0) (v := .pointer (some ⟨bI, 2, none⟩)) rfl (by kernel_rfl) (by kernel_rfl) (by kernel_rfl) (fun c a w h => hKp c a _ _ w h) (Or.inl ⟨by kernel_rfl, fun w hSw => by dsimp only at hSw; obtain s0 := hSw; go_simp⟩) (by assumption) ?_
    simp only [Act.put, List.getElem_toArray, List.getElem_cons_zero, List.setIfInBounds_toArray, List.set_cons_zero, List.set_cons_succ]
    refine wpAnyH_take (i := 1) (v := .slice (some ⟨g3, 0, none⟩) 15 15) rfl (by kernel_rfl) (by kernel_rfl) (by kernel_rfl) (fun c a w h => hKp c a _ _ w h) (Or.inl ⟨by kernel_rfl, fun w hSw => by dsimp only at hSw; obtain s0 := hSw; go_simp⟩) (by assumption) ?_
    simp only [Act.put, List.getElem_toArray, List.getElem_cons_zero, List.getElem_cons_succ, List.setIfInBounds_toArray, List.set_cons_zero, List.set_cons_succ]
    refine wpAnyH_take (i := 2) (v := .int .i64 a0) rfl (by kernel_rfl) (by kernel_rfl) (by kernel_rfl) (fun c a w h => hKp c a _ _ w h) (Or.inl ⟨by kernel_rfl, fun w hSw => by dsimp only at hSw; obtain s0 := hSw; go_simp⟩) (by assumption) ?_
    simp only [Act.put, List.getElem_toArray, List.getElem_cons_zero, List.getElem_cons_succ, List.setIfInBounds_toArray, List.set_cons_zero, List.set_cons_succ]
    refine wpAnyH_take (i := 3) (v := .pointer (some ⟨bI, 2, none⟩)) rfl (by kernel_rfl) (by kernel_rfl) (by kernel_rfl) (fun c a w h => hKp c a _ _ w h) (Or.inl ⟨by kernel_rfl, fun w hSw => by dsimp only at hSw; obtain s0 := hSw; go_simp⟩) (by assumption) ?_
    simp only [Act.put, List.getElem_toArray, List.getElem_cons_zero, List.getElem_cons_succ, List.setIfInBounds_toArray, List.set_cons_zero, List.set_cons_succ]
    refine wpAnyH_take (i := 4) (v := .slice (some ⟨g3, 0, none⟩) 15 15) rfl (by kernel_rfl) (by kernel_rfl) (by kernel_rfl) (fun c a w h => hKp c a _ _ w h) (Or.inl ⟨by kernel_rfl, fun w hSw => by dsimp only at hSw; obtain s0 := hSw; go_simp⟩) (by assumption) ?_
    simp only [Act.put, List.getElem_toArray, List.getElem_cons_zero, List.getElem_cons_succ, List.setIfInBounds_toArray, List.set_cons_zero, List.set_cons_succ]
    refine wpAnyH_take (i := 5) (v := .int .i64 15) rfl (by kernel_rfl) (by kernel_rfl) (by kernel_rfl) (fun c a w h => hKp c a _ _ w h) (Or.inl ⟨by kernel_rfl, fun w hSw => by dsimp only at hSw; obtain s0 := hSw; go_simp⟩) (by assumption) ?_
    simp only [Act.put, List.getElem_toArray, List.getElem_cons_zero, List.getElem_cons_succ, List.setIfInBounds_toArray, List.set_cons_zero, List.set_cons_succ]
    refine wpAnyH_ready (rs := [6]) (by kernel_rfl) (by simp) ?_
    refine AllReadyH.cons rfl (fun Kx hKx => ?_) AllReadyH.nil
    try rw [if_pos (by kernel_rfl)]
    go_simp
    refine (RR3.out _).mono ?_
    rintro e w5 ⟨rfl, rfl⟩
    refine hKx.out _ _ (HC3.out) (fun hHeld => ?_)
    clear hKx Kx
    try simp only [Act.put, List.getElem_toArray, List.getElem_cons_zero, List.getElem_cons_succ, List.setIfInBounds_toArray, List.set_cons_zero, List.set_cons_succ]
    refine wpAnyH_take (i := 7) (v := .pointer (some ⟨g3, r3 * 9, none⟩)) rfl (by kernel_rfl) (by kernel_rfl) (by kernel_rfl) (fun c a w h => hKp c a _ _ w h) (Or.inl ⟨by kernel_rfl, fun w hSw => by dsimp only at hSw; obtain s0 := hSw; go_simp⟩) (by assumption) ?_
    simp only [Act.put, List.getElem_toArray, List.getElem_cons_zero, List.getElem_cons_succ, List.setIfInBounds_toArray, List.set_cons_zero, List.set_cons_succ]
    refine wpAnyH_take (i := 8) (v := .pointer (some ⟨g3, r3 * 9 + 3, none⟩)) rfl (by kernel_rfl) (by kernel_rfl) (by kernel_rfl) (fun c a w h => hKp c a _ _ w h) (Or.inl ⟨by kernel_rfl, fun w hSw => by dsimp only at hSw; obtain s0 := hSw; go_simp⟩) (by assumption) ?_
    simp only [Act.put, List.getElem_toArray, List.getElem_cons_zero, List.getElem_cons_succ, List.setIfInBounds_toArray, List.set_cons_zero, List.set_cons_succ]
    refine wpAnyH_take (i := 9) (v := .pointer (some ⟨g3, r3 * 9 + 3, none⟩)) rfl (by kernel_rfl) (by kernel_rfl) (by kernel_rfl) (fun c a w h => hKp c a _ _ w h) (Or.inl ⟨by kernel_rfl, fun w hSw => by dsimp only at hSw; obtain s0 := hSw; go_simp⟩) (by assumption) ?_
    simp only [Act.put, List.getElem_toArray, List.getElem_cons_zero, List.getElem_cons_succ, List.setIfInBounds_toArray, List.set_cons_zero, List.set_cons_succ]
    refine wpAnyH_ready (rs := [10]) (by kernel_rfl) (by simp) ?_
    refine AllReadyH.cons rfl (fun Kx hKx => ?_) AllReadyH.nil
    try rw [if_pos (by kernel_rfl)]
    go_simp
    refine hKx.out _ _ (HCS3.out) (fun hHeld => ?_)
    clear hKx Kx
    try simp only [Act.put, List.getElem_toArray, List.getElem_cons_zero, List.getElem_cons_succ, List.setIfInBounds_toArray, List.set_cons_zero, List.set_cons_succ]
    refine wpAnyH_done (by kernel_rfl) ?_ _
    exact hfin _ (MutA.set _ _ _ _)
  rintro V3 hM3
  have HM3 := Lib.hid hM3
  clear hM3 hcv3 hfz3 hcw3 hfw3 HC3 HCS3 HDI3 HGI3 RR3
  go_upto_region 10 with fail
  have HDI4 := Lib.hid (((HM3.out.oth bI (by omega)).trans ((HM2.out.oth bI (by omega)).trans (HM1.out.oth bI (by omega)))).trans HD0.out)
  have HGI4 := Lib.hid (((HM3.out.oth g4 (by omega)).trans ((HM2.out.oth g4 (by omega)).trans (HM1.out.oth g4 (by omega)))).trans HI0.out.m)
  obtain ⟨cv4, hcv4⟩ := cell_inA (i := r4 * 2) HGI4.out len15.2.2.2 (by omega)
  have hfz4 := frozenY HGI4.out (r4 * 2)
  have hcw4 : V3.drew.cell? ⟨g4, r4 * 2, none⟩ = some cv4 := hcv4
  have hfw4 : V3.drew.frozen? ⟨g4, r4 * 2, none⟩ = false := hfz4
  have hri4 : (r4 : Int) < 7 := by omega
  have hrj4 : (0 : Int) ≤ (r4 : Int) := by omega
  have HC4 := Lib.hid (show V3.drew.cell? ⟨bI, 3, none⟩ = some (.slice (some ⟨g4, 0, none⟩) 7 7) from (cells6 HDI4.out).2.2.2.1)
  have HCS4 := Lib.hid (show (V3.drew.setCell ⟨g4, r4 * 2, none⟩ (.string { data := #[122, 122] })).cell? ⟨bI, 3, none⟩ = some (.slice (some ⟨g4, 0, none⟩) 7 7) from (World.cell?_of_block (a := ⟨bI, 3, none⟩) (heap_setCellZ (W := V3.drew) (show bI ≠ g4 by omega))).trans HC4.out)
  refine wp_region_held_drew (S := fun w' => w'.cell? ⟨bI, 3, none⟩ = some (.slice (some ⟨g4, 0, none⟩) 7 7)) (by kernel_rfl) (HC4.out) (fun hHeld => ?_)
  apply held_shellA (R := fun w' => MutA V3 w' g4)
  exact fun _ _ d _ _ h => by cases d <;> exact h
  rotate_left 1
  · intro KK hKp hfin
    refine wpAnyH_take (i := 0) (v := .pointer (some ⟨bI, 3, none⟩)) rfl (by kernel_rfl) (by kernel_rfl) (by kernel_rfl) (fun c a w h => hKp c a _ _ w h) (Or.inl ⟨by kernel_rfl, fun w hSw => by dsimp only at hSw; obtain s0 := hSw; go_simp⟩) (by assumption) ?_
    simp only [Act.put, List.getElem_toArray, List.getElem_cons_zero, List.setIfInBounds_toArray, List.set_cons_zero, List.set_cons_succ]
    refine wpAnyH_take (i := 1) (v := .slice (some ⟨g4, 0, none⟩) 7 7) rfl (by kernel_rfl) (by kernel_rfl) (by kernel_rfl) (fun c a w h => hKp c a _ _ w h) (Or.inl ⟨by kernel_rfl, fun w hSw => by dsimp only at hSw; obtain s0 := hSw; go_simp⟩) (by assumption) ?_
    simp only [Act.put, List.getElem_toArray, List.getElem_cons_zero, List.getElem_cons_succ, List.setIfInBounds_toArray, List.set_cons_zero, List.set_cons_succ]
    refine wpAnyH_take (i := 2) (v := .int .i64 a0) rfl (by kernel_rfl) (by kernel_rfl) (by kernel_rfl) (fun c a w h => hKp c a _ _ w h) (Or.inl ⟨by kernel_rfl, fun w hSw => by dsimp only at hSw; obtain s0 := hSw; go_simp⟩) (by assumption) ?_
    simp only [Act.put, List.getElem_toArray, List.getElem_cons_zero, List.getElem_cons_succ, List.setIfInBounds_toArray, List.set_cons_zero, List.set_cons_succ]
    refine wpAnyH_take (i := 3) (v := .pointer (some ⟨bI, 3, none⟩)) rfl (by kernel_rfl) (by kernel_rfl) (by kernel_rfl) (fun c a w h => hKp c a _ _ w h) (Or.inl ⟨by kernel_rfl, fun w hSw => by dsimp only at hSw; obtain s0 := hSw; go_simp⟩) (by assumption) ?_
    simp only [Act.put, List.getElem_toArray, List.getElem_cons_zero, List.getElem_cons_succ, List.setIfInBounds_toArray, List.set_cons_zero, List.set_cons_succ]
    refine wpAnyH_take (i := 4) (v := .slice (some ⟨g4, 0, none⟩) 7 7) rfl (by kernel_rfl) (by kernel_rfl) (by kernel_rfl) (fun c a w h => hKp c a _ _ w h) (Or.inl ⟨by kernel_rfl, fun w hSw => by dsimp only at hSw; obtain s0 := hSw; go_simp⟩) (by assumption) ?_
    simp only [Act.put, List.getElem_toArray, List.getElem_cons_zero, List.getElem_cons_succ, List.setIfInBounds_toArray, List.set_cons_zero, List.set_cons_succ]
    refine wpAnyH_take (i := 5) (v := .int .i64 7) rfl (by kernel_rfl) (by kernel_rfl) (by kernel_rfl) (fun c a w h => hKp c a _ _ w h) (Or.inl ⟨by kernel_rfl, fun w hSw => by dsimp only at hSw; obtain s0 := hSw; go_simp⟩) (by assumption) ?_
    simp only [Act.put, List.getElem_toArray, List.getElem_cons_zero, List.getElem_cons_succ, List.setIfInBounds_toArray, List.set_cons_zero, List.set_cons_succ]
    refine wpAnyH_ready (rs := [6]) (by kernel_rfl) (by simp) ?_
    refine AllReadyH.cons rfl (fun Kx hKx => ?_) AllReadyH.nil
    try rw [if_pos (by kernel_rfl)]
    go_simp
    refine (RR4.out _).mono ?_
    rintro e w5 ⟨rfl, rfl⟩
    refine hKx.out _ _ (HC4.out) (fun hHeld => ?_)
    clear hKx Kx
    try simp only [Act.put, List.getElem_toArray, List.getElem_cons_zero, List.getElem_cons_succ, List.setIfInBounds_toArray, List.set_cons_zero, List.set_cons_succ]
    refine wpAnyH_take (i := 7) (v := .pointer (some ⟨g4, r4 * 2, none⟩)) rfl (by kernel_rfl) (by kernel_rfl) (by kernel_rfl) (fun c a w h => hKp c a _ _ w h) (Or.inl ⟨by kernel_rfl, fun w hSw => by dsimp only at hSw; obtain s0 := hSw; go_simp⟩) (by assumption) ?_
    simp only [Act.put, List.getElem_toArray, List.getElem_cons_zero, List.getElem_cons_succ, List.setIfInBounds_toArray, List.set_cons_zero, List.set_cons_succ]
    refine wpAnyH_take (i := 8) (v := .pointer (some ⟨g4, r4 * 2, none⟩)) rfl (by kernel_rfl) (by kernel_rfl) (by kernel_rfl) (fun c a w h => hKp c a _ _ w h) (Or.inl ⟨by kernel_rfl, fun w hSw => by dsimp only at hSw; obtain s0 := hSw; go_simp⟩) (by assumption) ?_
    simp only [Act.put, List.getElem_toArray, List.getElem_cons_zero, List.getElem_cons_succ, List.setIfInBounds_toArray, List.set_cons_zero, List.set_cons_succ]
    refine wpAnyH_ready (rs := [9]) (by kernel_rfl) (by simp) ?_
    refine AllReadyH.cons rfl (fun Kx hKx => ?_) AllReadyH.nil
    try rw [if_pos (by kernel_rfl)]
    go_simp
    refine hKx.out _ _ (HCS4.out) (fun hHeld => ?_)
    clear hKx Kx
    try simp only [Act.put, List.getElem_toArray, List.getElem_cons_zero, List.getElem_cons_succ, List.setIfInBounds_toArray, List.set_cons_zero, List.set_cons_succ]
    refine wpAnyH_done (by kernel_rfl) ?_ _
    exact hfin _ (MutA.set _ _ _ _)
  rintro V4 hM4
  have HM4 := Lib.hid hM4
  clear hM4 hcv4 hfz4 hcw4 hfw4 HC4 HCS4 HDI4 HGI4 RR4
  go_upto_region 11 with fail
  have HOT := Lib.hid (fun k (n1 : k ≠ g1) (n2 : k ≠ g2) (n3 : k ≠ g3) (n4 : k ≠ g4) => ((HM4.out.oth k n4).trans (HM3.out.oth k n3)).trans ((HM2.out.oth k n2).trans (HM1.out.oth k n1)))
  have hR4 := (HOT.out bR (by omega) (by omega) (by omega) (by omega)).trans HR0.out
  have hJ4 := HJ0.out.keep (W' := V4) (fun k hk => HOT.out k (by omega) (by omega) (by omega) (by omega))
  have HB4 := Lib.hid (((HB0.out.trans (HM1.out.bel _ ho1)).trans ((HM2.out.bel w.heap.size (by omega)))).trans ((HM3.out.bel w.heap.size (by omega)).trans (HM4.out.bel w.heap.size (by omega))))
  clear HM1 HM2 HM3 HM4 HOT HD0 HR0 HJ0 HI0 HB0
  have HS := Lib.hid (fun w' (h : Below V4.heap.size V4 w') => show Below V4.heap.size V4 w' ∧ w'.cell? ⟨bR, 0, none⟩ = some (.slice (some ⟨h1, 0, none⟩) 54 54) ∧ w'.cell? ⟨bR, 1, none⟩ = some (.slice (some ⟨h2, 0, none⟩) 32 32) ∧ w'.cell? ⟨bR, 2, none⟩ = some (.slice (some ⟨h3, 0, none⟩) 15 15) ∧ w'.cell? ⟨bR, 3, none⟩ = some (.slice (some ⟨h4, 0, none⟩) 7 7) ∧ w'.cell? ⟨bR, 4, none⟩ = some (.int .i64 40) ∧ w'.cell? ⟨bR, 5, none⟩ = some (.int .i64 5) from ⟨h, cells6 ((h.block _ (lt_of_block hR4)).trans hR4)⟩)
  have HJ := Lib.hid (fun w' (h : Below V4.heap.size V4 w') => hJ4.below h)
  have HIX := Lib.hid (fun w' (h : Below V4.heap.size V4 w') => (HIM.out w').mono (R' := fun e w'' => ∃ k1 k2 k3 k4 b, e = .returned (.agg #[.slice (some ⟨k1, 0, none⟩) 54 54, .slice (some ⟨k2, 0, none⟩) 32 32, .slice (some ⟨k3, 0, none⟩) 15 15, .slice (some ⟨k4, 0, none⟩) 7 7, .int .i64 40, .int .i64 5]) ∧ Im15 w'' b k1 k2 k3 k4 ∧ Below V4.heap.size V4 w'') fun e w'' ⟨k1, k2, k3, k4, p, q, r⟩ => ⟨k1, k2, k3, k4, _, p, q, h.trans (r.mono h.size)⟩)
  have HSX := Lib.hid (fun (k1 k2 k3 k4 b : Nat) w' (q : Im15 w' b k1 k2 k3 k4) (h : Below V4.heap.size V4 w') => (same15 w' q (HJ.out w' h)).mono (R' := fun e w'' => e = .returned (.bool true) ∧ Below V4.heap.size V4 w'') fun e w'' ⟨p, r⟩ => ⟨p, h.trans (r.mono h.size)⟩)
  have hd4 : Below V4.heap.size V4 V4.drew := Below.drew (Below.refl _ _)
  clear hR4 hJ4 HIM
  go_region_held3 (fun w' => Below V4.heap.size V4 w' ∧ w'.cell? ⟨bR, 0, none⟩ = some (.slice (some ⟨h1, 0, none⟩) 54 54) ∧ w'.cell? ⟨bR, 1, none⟩ = some (.slice (some ⟨h2, 0, none⟩) 32 32) ∧ w'.cell? ⟨bR, 2, none⟩ = some (.slice (some ⟨h3, 0, none⟩) 15 15) ∧ w'.cell? ⟨bR, 3, none⟩ = some (.slice (some ⟨h4, 0, none⟩) 7 7) ∧ w'.cell? ⟨bR, 4, none⟩ = some (.int .i64 40) ∧ w'.cell? ⟨bR, 5, none⟩ = some (.int .i64 5))
    (exact HS.out _ (by assumption))
    (first
      | (go_at_call 13; (with_reducible refine (HIX.out _ (by assumption)).mono ?_); rintro e w8 ⟨k1, k2, k3, k4, b8, rfl, hI8, hb8⟩)
      | (go_at_call 15; (with_reducible refine (HSX.out _ _ _ _ _ _ (by assumption) (by assumption)).mono ?_); rintro e w9 ⟨rfl, hb9⟩))
  all_goals (
    have HB9 := Lib.hid (HB4.out.trans (hb9.mono HB4.out.size))
    have HG9 := Lib.hid (HG.out _ HB9.out)
    obtain ⟨gk, gp, gs, hgot⟩ := got_form im15
    have HS9 := Lib.hid (fun w' (h : Below w9.heap.size w9 w') => And.intro h (HS.out w' (hb9.trans (h.mono hb9.size))).2)
    have HBY := Lib.hid (fun w' (h : Below w9.heap.size w9 w') => (bytes_15 w' (HG9.out.below h HG9.out.size)).mono (R' := fun e w'' => e = .returned (.string (encB im15)) ∧ Below w9.heap.size w9 w'') fun e w'' ⟨p, r⟩ => ⟨p, h.trans (r.mono h.size)⟩)
    have HEN := Lib.hid (fun w' (h : Below w9.heap.size w9 w') => (encodeD15 w' (HJ.out w' (hb9.trans (h.mono hb9.size)))).mono (R' := fun e w'' => e = .returned (.agg #[.string (encB im15), .int .i64 gk, .int .i64 gp, .string gs]) ∧ Below w9.heap.size w9 w'') fun e w'' ⟨p, r⟩ => ⟨by rw [p, hgot], h.trans (r.mono h.size)⟩)
    generalize encB im15 = out at *
    have hfi : ∀ w : World, (Instr.field 57 (.agg #[.string out, .int .i64 gk, .int .i64 gp, .string gs]) 0).run Tryz.prog w = .ok (.string out) w := fun _ => by kernel_rfl
    clear hgot HS HSX HIX HG
    have hd9 : Below w9.heap.size w9 w9.drew := Below.drew (Below.refl _ _)
    clear hd4 hb9
    go_upto_region 12 with fail
    go_region_held3 (fun w' => Below w9.heap.size w9 w' ∧ w'.cell? ⟨bR, 0, none⟩ = some (.slice (some ⟨h1, 0, none⟩) 54 54) ∧ w'.cell? ⟨bR, 1, none⟩ = some (.slice (some ⟨h2, 0, none⟩) 32 32) ∧ w'.cell? ⟨bR, 2, none⟩ = some (.slice (some ⟨h3, 0, none⟩) 15 15) ∧ w'.cell? ⟨bR, 3, none⟩ = some (.slice (some ⟨h4, 0, none⟩) 7 7) ∧ w'.cell? ⟨bR, 4, none⟩ = some (.int .i64 40) ∧ w'.cell? ⟨bR, 5, none⟩ = some (.int .i64 5))
      (exact HS9.out _ (by assumption))
      (first
        | (go_at_call 17; (with_reducible refine (HBY.out _ (by assumption)).mono ?_); rintro e w10 ⟨rfl, hb10⟩)
        | (go_at_call 18; (with_reducible refine (HEN.out _ (by assumption)).mono ?_); rintro e w11 ⟨rfl, hb11⟩)))
  all_goals go_wp2_with fail
  all_goals go_ret
  all_goals exact ⟨rfl, HB9.out.trans (hb11.mono HB9.out.size)⟩
end Go.Proofs.YtgjifikahlmioaaGreatDoor
