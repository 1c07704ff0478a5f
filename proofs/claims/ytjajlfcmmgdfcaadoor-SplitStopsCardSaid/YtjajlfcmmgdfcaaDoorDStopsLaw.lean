/-
  SplitStops: it returns true.
-/
import Derived.Test.YtjajlfcmmgdfcaaDoorDCount
import Derived.IntWalk

namespace Go.Proofs.YtjajlfcmmgdfcaaDoor
open Go Go.RowKit

attribute [local go_sem] Oper.semAt_some

theorem rest_num (x : Int) : ∃ k : Nat, k < 12 ∧ (wrap64 (x.tmod 12 + 12)).tmod 12 = (k : Int) := by
  have h := Int.natAbs_tmod x 12
  have h12 : Int.natAbs 12 = 12 := rfl
  rw [h12] at h
  generalize x.tmod 12 = z at *
  have hz : z.natAbs < 12 := by omega
  have hw : wrap64 (z + 12) = z + 12 := IntWalk.wrap64_in _ ⟨by omega, by omega⟩
  rw [hw, Int.tmod_eq_emod_of_nonneg (by omega)]
  exact ⟨((z + 12) % 12).toNat, by omega, by omega⟩
theorem rest_any (x : Int) (w : World) :
    Calls Tryd.prog 24 #[.int .i64 x, .int .i64 12] w fun e w' => ∃ k : Nat, k < 12 ∧ e = .returned (.int .i64 (k : Int)) ∧ w = w' := by
  go_enter Tryd.func24, Tryd.ntmps24
  obtain ⟨k, hk, he⟩ := rest_num x
  have HE := Lib.hid he
  clear he
  go_wp2
  go_ret
  exact ⟨k, hk, ret_int HE.out, rfl⟩

theorem stops_end {w W4 : World} {D D2 : Nat} {a : Act} (hr : W4.heap[w.heap.size + 1]? = some (.cells #[.bool false] 4 (0, 0))) (h2 : W4.heap[D2]? = some (.deferred (some []))) (h1 : W4.heap[D]? = some (.deferred (some [])))
    (hd : D < D2) (hw1 : w.heap.size + 1 < D) (hw2 : w.heap.size + 1 < D2) (hB : Below w.heap.size w W4) (ha : a.defers = [{ target := .collected D2, args := #[] }, { target := .collected D, args := #[] }]) (ht : a.tmps.getD 4 undef = .pointer (some ⟨w.heap.size + 1, 0, none⟩)) :
    bodyPostM Fence.wide 0 Tryd.prog Tryd.f7 (fun e w' => e = .returned (.bool true) ∧ Below w.heap.size w w') .ret a (W4.setCell ⟨w.heap.size + 1, 0, none⟩ (.bool true)) := by
  have k2 : (W4.setCell ⟨w.heap.size + 1, 0, none⟩ (.bool true)).heap[D2]? = some (.deferred (some [])) := (Below.heap_setCell _ _ _ _ (by show D2 ≠ w.heap.size + 1; omega)).trans h2
  have k1 : ((W4.setCell ⟨w.heap.size + 1, 0, none⟩ (.bool true)).putObj D2 (.deferred none)).heap[D]? = some (.deferred (some [])) := (World.putObj_heap_other (by omega)).trans ((Below.heap_setCell _ _ _ _ (by show D ≠ w.heap.size + 1; omega)).trans h1)
  have kr : (((W4.setCell ⟨w.heap.size + 1, 0, none⟩ (.bool true)).putObj D2 (.deferred none)).putObj D (.deferred none)).heap[w.heap.size + 1]? = some (.cells #[.bool true] 4 (0, 0)) :=
    (World.putObj_heap_other (by omega)).trans ((World.putObj_heap_other (by omega)).trans (one_setCell hr))
  have hB5 := (hB.setCell (p := ⟨w.heap.size + 1, 0, none⟩) (by show w.heap.size ≤ w.heap.size + 1; omega) (.bool true))
  obtain ⟨tmps, defers⟩ := a
  dsimp only at ha ht
  subst ha
  rw [Array.getD_eq_getD_getElem?] at ht
  refine ⟨by simp, .inl ⟨_, _, rfl, run_takeDeferred k2, ?_⟩⟩
  refine ⟨by simp, .inl ⟨_, _, rfl, run_takeDeferred k1, ?_⟩⟩
  refine ⟨.bool true, by simp [results, Tryd.results7, go_sem, ht, cell_of_one kr], rfl, ?_⟩
  have b1 := hB5.trans (belowK_b (w := w) (Nat.le_refl _) _ D2 _ (.deferred none) (by omega) k2 rfl rfl)
  exact b1.trans (belowK_b (w := w) (Nat.le_refl _) _ D _ _ (by omega) k1 rfl rfl)

set_option maxRecDepth 100000 in
set_option maxHeartbeats 16000000 in
theorem stops_law (a : ByteArray) (many : Int) (w : World) (ha : a.size ≤ maxLen) (_hm : (Lit.int .i64 many).wf = true) (hg : TypeLaid w) :
    Calls Tryd.prog 7 #[.string a, .int .i64 many] w fun e w' => e = .returned (.bool true) ∧ Below w.heap.size w w' := by
  obtain ⟨x, hx⟩ : ∃ t, cut60 a = t := ⟨_, rfl⟩
  have hx60 : x.size ≤ 60 := by rw [← hx]; exact size_cut60 a
  obtain ⟨n, hn⟩ : ∃ m, (splS x).length = m + 1 := ⟨(splS x).length - 1, by have := splS_pos x; omega⟩
  have HN := Lib.hid hn
  have hn60 : n ≤ 60 := by have := splS_le x; omega
  clear hn
  have SA := Lib.hid (fun w5 => (short60_any a w5 ha).mono (R' := fun e w6 => e = .returned (.string x) ∧ w5 = w6) fun e w6 ⟨p, q⟩ => ⟨by rw [p, hx], q⟩)
  have S1 := Lib.hid (fun w5 => split_any x w5 (by omega))
  have E1 := Lib.hid (fun w5 => each_make x w5)
  have R1 := Lib.hid (fun w5 => rest_any many w5)
  have HG := Lib.hid hg
  clear hx hg ha
  refine callsIn_wide (n := 0) |>.1 ?_
  refine callsIn_of_wp_marks Tryd.func7 rfl trivial ?_ rfl
  simp only [Tryd.ntmps7, List.size_toArray, List.length_cons, List.length_nil, Nat.reduceAdd, Nat.reduceSub, Array.replicate_succ, Array.replicate_zero, List.push_toArray, List.append_toArray, List.nil_append, List.cons_append]
  gi_wp2_with fail
  have hs0 : ((w.alloc (.cells #[.string a] 9)).alloc (.cells #[.bool false] 4)).heap[w.heap.size]? = some (.cells #[.string a] 9 (0, 0)) := by
    rw [Below.heap_alloc _ _ _ (by simp)]; exact World.alloc_heap_new w _
  have hr0 : ((w.alloc (.cells #[.string a] 9)).alloc (.cells #[.bool false] 4)).heap[w.heap.size + 1]? = some (.cells #[.bool false] 4 (0, 0)) := by
    have := World.alloc_heap_new (w.alloc (.cells #[.string a] 9)) (.cells #[.bool false] 4)
    rwa [World.size_alloc] at this
  have hb0 : Below w.heap.size w ((w.alloc (.cells #[.string a] 9)).alloc (.cells #[.bool false] 4)) := ((Below.refl _ w).alloc (Nat.le_refl _) _).alloc (by simp) _
  have hz0 : w.heap.size + 2 ≤ ((w.alloc (.cells #[.string a] 9)).alloc (.cells #[.bool false] 4)).heap.size := by simp
  generalize ((w.alloc (.cells #[.string a] 9)).alloc (.cells #[.bool false] 4)) = W0 at *
  refine ⟨trivial, rfl, CallsIn.mono (callsIn_wide.2 (awake4_any W0 (HG.out.below hb0 HG.out.size))) ?_⟩
  rintro e w1 ⟨rfl, hb1⟩
  have hs1 : w1.heap[w.heap.size]? = some (.cells #[.string a] 9 (0, 0)) := (hb1.block _ (by omega)).trans hs0
  have hr1 : w1.heap[w.heap.size + 1]? = some (.cells #[.bool false] 4 (0, 0)) := (hb1.block _ (by omega)).trans hr0
  have hB1 : Below w.heap.size w w1 := hb0.trans (hb1.mono hb0.size)
  have hz1 : w.heap.size + 2 ≤ w1.heap.size := Nat.le_trans hz0 hb1.size
  clear hs0 hr0 hb0 hb1 hz0
  have c1 := cell_of_one hs1
  have f1 := free_of_one hs1
  have HS1 := Lib.hid hs1
  have HR1 := Lib.hid hr1
  clear hs1 hr1
  gi_wp2_with fail
  refine ⟨trivial, rfl, CallsIn.mono (callsIn_wide.2 (SA.out _)) ?_⟩
  rintro e w' ⟨rfl, rfl⟩
  gi_wp2_with fail
  have hs2 : (w1.setCell ⟨w.heap.size, 0, none⟩ (.string x)).heap[w.heap.size]? = some (.cells #[.string x] 9 (0, 0)) := one_setCell HS1.out
  have hr2 : (w1.setCell ⟨w.heap.size, 0, none⟩ (.string x)).heap[w.heap.size + 1]? = some (.cells #[.bool false] 4 (0, 0)) := (Below.heap_setCell _ _ _ _ (by show w.heap.size + 1 ≠ w.heap.size; omega)).trans HR1.out
  have hB2 : Below w.heap.size w (w1.setCell ⟨w.heap.size, 0, none⟩ (.string x)) := hB1.setCell (p := ⟨w.heap.size, 0, none⟩) (Nat.le_refl _) _
  have hz2 : w.heap.size + 2 ≤ (w1.setCell ⟨w.heap.size, 0, none⟩ (.string x)).heap.size := by simpa [World.setCell] using hz1
  generalize (w1.setCell ⟨w.heap.size, 0, none⟩ (.string x)) = w2 at *
  clear c1 f1
  have c2 := cell_of_one hs2
  have HS2 := Lib.hid hs2
  have HR2 := Lib.hid hr2
  clear hs2 hr2
  gi_wp2_with fail
  refine ⟨trivial, rfl, CallsIn.mono (callsIn_wide.2 (E1.out _)) ?_⟩
  rintro e w3 ⟨rfl, hw3⟩
  have hs3 : w3.heap[w.heap.size]? = some (.cells #[.string x] 9 (0, 0)) := by rw [← hw3]; exact (Below.heap_alloc _ _ _ (by omega)).trans HS2.out
  have hr3 : w3.heap[w.heap.size + 1]? = some (.cells #[.bool false] 4 (0, 0)) := by rw [← hw3]; exact (Below.heap_alloc _ _ _ (by omega)).trans HR2.out
  have he3 : w3.heap[w2.heap.size]? = some (.cells #[.string x] 9 (0, 0)) := by rw [← hw3]; exact World.alloc_heap_new w2 _
  have hB3 : Below w.heap.size w w3 := by rw [← hw3]; exact hB2.alloc hB2.size _
  have hz3 : w2.heap.size + 1 ≤ w3.heap.size := by rw [← hw3]; simp
  obtain ⟨B1, hB1e⟩ : ∃ b, w2.heap.size = b := ⟨_, rfl⟩
  rw [hB1e] at he3 hz3 hz2 ⊢
  clear hw3 hB1e c2 hB2 HS2 HR2
  have HS3 := Lib.hid hs3
  have HR3 := Lib.hid hr3
  have HE3 := Lib.hid he3
  have c3 := cell_of_one hs3
  have hnil := seq_nil B1
  clear hs3 hr3 he3
  gi_wp2_with fail
  refine ⟨trivial, rfl, CallsIn.mono (callsIn_wide.2 (S1.out _)) ?_⟩
  rintro e w4 ⟨u, rfl, ho4, hb4⟩
  rw [HN.out] at ho4
  obtain ⟨g, cap, rfl⟩ := ownsRow_succ ho4
  have hcell4 := own_cell ho4
  have hg4 : g < w4.heap.size := (ho4.lt g rfl).2
  have hs4 := (hb4.block _ (lt_of_block HS3.out)).trans HS3.out
  have hr4 := (hb4.block _ (lt_of_block HR3.out)).trans HR3.out
  have he4 := (hb4.block _ (lt_of_block HE3.out)).trans HE3.out
  have hB4 : Below w.heap.size w w4 := hB3.trans (hb4.mono hB3.size)
  have hz4 : B1 + 1 ≤ w4.heap.size := Nat.le_trans hz3 hb4.size
  clear ho4 hb4 hB3 hz3 c3 HS3 HR3 HE3
  have HS4 := Lib.hid hs4
  have HR4 := Lib.hid hr4
  have HE4 := Lib.hid he4
  have HC4 := Lib.hid hcell4
  clear hs4 hr4 he4 hcell4
  gi_wp2_with fail
  refine ⟨trivial, rfl, CallsIn.mono (callsIn_wide.2 (R1.out _)) ?_⟩
  rintro e w' ⟨k, hk12, rfl, rfl⟩
  obtain ⟨L, hL⟩ : ∃ l, w4.heap.size = l := ⟨_, rfl⟩
  gi_wp2_with fail
  have hs7 : (((w4.alloc (.cells #[.slice (some ⟨g, 0, none⟩) (n + 1) cap] 32)).alloc (.cells #[.int .i64 k] 3)).alloc (.cells #[.int .i64 0] 3)).heap.size = L + 3 := by simp [hL]
  have hb7 : Below L w4 (((w4.alloc (.cells #[.slice (some ⟨g, 0, none⟩) (n + 1) cap] 32)).alloc (.cells #[.int .i64 k] 3)).alloc (.cells #[.int .i64 0] 3)) := (((Below.refl _ w4).alloc (by omega) _).alloc (by simp; omega) _).alloc (by simp; omega) _
  have hl7 : (((w4.alloc (.cells #[.slice (some ⟨g, 0, none⟩) (n + 1) cap] 32)).alloc (.cells #[.int .i64 k] 3)).alloc (.cells #[.int .i64 0] 3)).heap[L]? = some (.cells #[.slice (some ⟨g, 0, none⟩) (n + 1) cap] 32 (0, 0)) := by
    rw [Below.heap_alloc _ _ _ (by simp; omega), Below.heap_alloc _ _ _ (by simp; omega), ← hL]; exact World.alloc_heap_new w4 _
  have hk7 : (((w4.alloc (.cells #[.slice (some ⟨g, 0, none⟩) (n + 1) cap] 32)).alloc (.cells #[.int .i64 k] 3)).alloc (.cells #[.int .i64 0] 3)).heap[L + 1]? = some (.cells #[.int .i64 k] 3 (0, 0)) := by
    rw [Below.heap_alloc _ _ _ (by simp; omega), ← hL]
    have := World.alloc_heap_new (w4.alloc (.cells #[.slice (some ⟨g, 0, none⟩) (n + 1) cap] 32)) (.cells #[.int .i64 k] 3)
    rwa [World.size_alloc] at this
  have hg7 : (((w4.alloc (.cells #[.slice (some ⟨g, 0, none⟩) (n + 1) cap] 32)).alloc (.cells #[.int .i64 k] 3)).alloc (.cells #[.int .i64 0] 3)).heap[L + 1 + 1]? = some (.cells #[.int .i64 0] 3 (0, 0)) := by
    rw [← hL]
    have := World.alloc_heap_new ((w4.alloc (.cells #[.slice (some ⟨g, 0, none⟩) (n + 1) cap] 32)).alloc (.cells #[.int .i64 k] 3)) (.cells #[.int .i64 0] 3)
    rwa [World.size_alloc, World.size_alloc] at this
  rw [hL] at hz4 hg4
  generalize (((w4.alloc (.cells #[.slice (some ⟨g, 0, none⟩) (n + 1) cap] 32)).alloc (.cells #[.int .i64 k] 3)).alloc (.cells #[.int .i64 0] 3)) = W7 at *
  have hx7 := (hb7.block w.heap.size (by omega)).trans HS4.out
  have hr7 := (hb7.block (w.heap.size + 1) (by omega)).trans HR4.out
  have he7 := (hb7.block B1 (by omega)).trans HE4.out
  have hB7 : Below w.heap.size w W7 := hB4.trans (hb7.mono (by omega))
  have hc7 : ∀ (i : Nat) (p : ByteArray), (splS x)[i]? = some p → W7.cell? ⟨g, i, none⟩ = some (.string p) := fun i p hp => (hb7.cell (p := ⟨g, i, none⟩) hg4).trans (HC4.out i p hp)
  have HX7 := Lib.hid hx7
  have HR7 := Lib.hid hr7
  have HE7 := Lib.hid he7
  have HC7 := Lib.hid hc7
  have HL7 := Lib.hid hl7
  have HK7 := Lib.hid hk7
  have HSZ := Lib.hid hs7
  clear hb7 hx7 hr7 he7 hc7 hl7 hk7 hL hB4 HS4 HR4 HE4 HC4
  have hseq := each_seq (fr := fun _ => false) (w := W7) (q := fun j => j < W7.heap.size ∧ j ≠ L + 1 + 1) (by omega) ⟨by omega, by omega⟩ HE7.out
  refine rangeQ (gf := 25) (lb := #[.pointer (some ⟨B1, 0, none⟩)]) rfl (Go.Proofs.enters_of Tryd.func25 (by kernel_rfl) rfl) hseq (fun _ h => by cases h) (fun j h => h.1) (fun _ => rfl)
    (StI W7 (L + 1 + 1) k) (StX W7 (L + 1 + 1) k)
    (fun s A B row hs hg hr => ⟨ownFrom_grown (β := Unit) (Nat.le_refl _) () A B row hs.1 hg hr, ownFrom_block (β := Unit) (by omega) () A B row hs.2.1 hg hr, hs.2.2⟩)
    (fun c s A B row hs hg hr => ⟨hs.1, ownFrom_grown (β := Unit) (Nat.le_refl _) () A B row hs.2.1 hg hr, ownFrom_block (β := Unit) (by omega) () A B row hs.2.2.1 hg hr, hs.2.2.2⟩)
    ⟨grown_of_below (Below.refl _ _) |> grown_any, hg7, Nat.zero_le _⟩
    (fun y => { tmps := #[.string a, .int .i64 many, .pointer (some ⟨w.heap.size, 0, none⟩), undef, .pointer (some ⟨w.heap.size + 1, 0, none⟩), .bool true, .func (.func 25) #[] #[.pointer (some ⟨B1, 0, none⟩)], .pointer (some ⟨L, 0, none⟩), .pointer (some ⟨L + 1, 0, none⟩), .pointer (some ⟨L + 1 + 1, 0, none⟩), .int .i64 y.1, .string y.2, undef, .bool true, .string a, .string x, .string x, .func (.func 25) #[] #[.pointer (some ⟨B1, 0, none⟩)], .func (.func 25) #[] #[.pointer (some ⟨B1, 0, none⟩)], .bool false, .string x, .slice (some ⟨g, 0, none⟩) (n + 1) cap, .int .i64 many, .int .i64 k, .func (.func 25) #[] #[.pointer (some ⟨B1, 0, none⟩)], .int .i64 y.1, .string y.2, undef, undef, undef, undef, undef, undef, undef, undef, undef, undef, undef, undef, undef, undef, undef, undef, undef, undef, undef, undef, undef, undef, undef, undef, undef, undef, undef, undef, undef, undef, undef, undef, undef, undef, undef, undef, undef, undef, undef, undef, undef, undef, undef, undef, undef, undef, undef, undef, undef, undef, undef, undef, undef, undef, undef, undef, undef, undef, undef, undef, undef, undef, undef, undef, undef], defers := [] })
    ?assign ?body ?done ?stop
  case assign =>
    intro l' y W3 K hK
    gi_wp2
    exact hK
  case body =>
    rintro l' pre ⟨i, p⟩ W3 ⟨hgr, hgot, hpk⟩ hpre hsz3
    obtain ⟨_, hsp, hmem, hpl⟩ := prefix_get hpre
    obtain ⟨hat1, hat2⟩ := pieces_at hmem
    have hG3 := Lib.hid hgr
    have hgl : g < W7.heap.size := by omega
    have c0 := cell_of_one ((hgr.block w.heap.size (by omega) (fun e => by have := Option.some.inj e; omega)).trans HX7.out)
    have c1 := cell_of_one ((hgr.block L (by omega) (fun e => by have := Option.some.inj e; omega)).trans HL7.out)
    have c2 := cell_of_one ((hgr.block (L + 1) (by omega) (fun e => by have := Option.some.inj e; omega)).trans HK7.out)
    have c3 := cell_of_one hgot
    have f3 := free_of_one hgot
    have c4 : W3.cell? ⟨g, pre.length, none⟩ = some (.string p) := (World.cell?_of_block (a := ⟨g, pre.length, none⟩) (hgr.block g hgl (fun e => by have := Option.some.inj e; omega))).trans (HC7.out _ _ hsp)
    have HGOT := Lib.hid hgot
    rw [HN.out] at hpl
    dsimp only at hat1 hat2
    rcases Nat.lt_or_ge pre.length k with hlt | hge
    · have hne : ((pre.length : Int) == (k : Int)) = false := by simp; omega
      have hlt1 : ¬ ((n : Int) + 1 ≤ (pre.length : Int)) := by omega
      have hlt2 : (pre.length : Int) < (n : Int) + 1 := by omega
      have hp0 : (0 : Int) ≤ (pre.length : Int) := by omega
      have hpb : (pre.length : Int) ≤ 12 := by omega
      have hi0 : (0 : Int) ≤ (i : Int) := by omega
      have hib : (i : Int) ≤ 60 := by omega
      have hps : (p.size : Int) ≤ 60 := by omega
      have hin : ¬ ((x.size : Int) < (i : Int) + (p.size : Int)) := by omega
      have hsl := slice_mid x i p.size hat1
      rw [hat2] at hsl
      clear hgr hgot hmem hsp hpre hat1 hat2
      have e : ((pre ++ [(i, p)]).length : Int) = (pre.length : Int) + 1 := by simp
      have HE := Lib.hid e
      clear e
      gi_wp2
      exact ⟨KeepQ.setCell _ _ _ _ (p := ⟨L + 1 + 1, 0, none⟩) _ (fun h => h.2 rfl) (by show L + 1 + 1 < L + 3; omega), grown_set hG3.out _, by rw [HE.out]; exact one_setCell HGOT.out, by simp; omega⟩
    · obtain rfl : pre.length = k := by omega
      clear hgr hgot hmem hsp hpre hat1 hat2 c0 c1 c4
      gi_wp2
      exact ⟨KeepQ.refl _ _ _ _, rfl, hG3.out, HGOT.out, by simp⟩
  case' done =>
    rintro D ys W3 hD rfl ⟨hgr, hgot, hpk⟩ hK
    rw [pieces_length, HN.out] at hgot hpk
    have hmin : min k (n + 1) = n + 1 := by omega
    obtain ⟨j, hj⟩ : ∃ j, n + 1 = j := ⟨_, rfl⟩
    rw [hj] at hgot hpk
    have HMIN := Lib.hid (show min k (n + 1) = j by omega)
    clear hmin hj hpk hseq hg7
  case' stop =>
    rintro D c pre W3 hD hpre ⟨rfl, hgr, hgot, hpk⟩ hK
    obtain ⟨j, hj⟩ : ∃ j, k = j := ⟨_, rfl⟩
    rw [hj] at hgot
    have hpl := hpre.length_le
    rw [pieces_length, HN.out] at hpl
    have HMIN := Lib.hid (show min k (n + 1) = j by omega)
    clear hj hpl hpre hpk hseq hg7
  all_goals
    have HG3 := Lib.hid hgr
    have HGOT := Lib.hid hgot
    have HD3 := Lib.hid hK
    have hsz3 : W7.heap.size ≤ W3.heap.size := hgr.size
    have hDl := lt_of_block hK
    have hx3 := (hgr.block w.heap.size (by omega) (fun e => by have := Option.some.inj e; omega)).trans HX7.out
    have hr3 := (hgr.block (w.heap.size + 1) (by omega) (fun e => by have := Option.some.inj e; omega)).trans HR7.out
    have he3 := (hgr.block B1 (by omega) (fun e => by have := Option.some.inj e; omega)).trans HE7.out
    have hl3 := (hgr.block L (by omega) (fun e => by have := Option.some.inj e; omega)).trans HL7.out
    have hk3 := (hgr.block (L + 1) (by omega) (fun e => by have := Option.some.inj e; omega)).trans HK7.out
    have hB3 : Below w.heap.size w W3 := hB7.grown hgr hB7.size (fun r e => by have := Option.some.inj e; omega)
    have HX3 := Lib.hid hx3
    have HR3 := Lib.hid hr3
    have HE3 := Lib.hid he3
    have HL3 := Lib.hid hl3
    have HK3 := Lib.hid hk3
    clear hgr hgot hK hx3 hr3 he3 hl3 hk3
    gi_wp2_with fail
    obtain ⟨M, hM⟩ : ∃ m, W3.heap.size = m := ⟨_, rfl⟩
    have hn8 : (W3.alloc (.cells #[.int .i64 0] 3)).heap[M]? = some (.cells #[.int .i64 0] 3 (0, 0)) := by rw [← hM]; exact World.alloc_heap_new W3 _
    have hb8 : Below M W3 (W3.alloc (.cells #[.int .i64 0] 3)) := (Below.refl _ W3).alloc (by omega) _
    have hs8 : (W3.alloc (.cells #[.int .i64 0] 3)).heap.size = M + 1 := by simp [hM]
    generalize W3.alloc (.cells #[.int .i64 0] 3) = W8 at *
    have HX8 := Lib.hid ((hb8.block w.heap.size (by omega)).trans HX3.out)
    have HR8 := Lib.hid ((hb8.block (w.heap.size + 1) (by omega)).trans HR3.out)
    have HE8 := Lib.hid ((hb8.block B1 (by omega)).trans HE3.out)
    have HL8 := Lib.hid ((hb8.block L (by omega)).trans HL3.out)
    have HK8 := Lib.hid ((hb8.block (L + 1) (by omega)).trans HK3.out)
    have HGOT8 := Lib.hid ((hb8.block (L + 1 + 1) (by omega)).trans HGOT.out)
    have HD8 := Lib.hid ((hb8.block D (by omega)).trans HD3.out)
    have hB8 : Below w.heap.size w W8 := hB3.trans (hb8.mono (by omega))
    rw [hM] at hsz3 hDl
    rw [hM]
    have HM := Lib.hid hM
    clear hM hb8 HX3 HR3 HE3 HL3 HK3 HGOT HD3 hB3 HX7 HR7 HE7 HC7 HL7 HK7 HG3
    have hseq2 := each_seq (fr := fun _ => false) (w := W8) (q := fun j => j < W8.heap.size ∧ j ≠ M) (by omega) ⟨by omega, by omega⟩ HE8.out
    refine rangeQ (gf := 25) (lb := #[.pointer (some ⟨B1, 0, none⟩)]) rfl (Go.Proofs.enters_of Tryd.func25 (by kernel_rfl) rfl) hseq2 (fun _ h => by cases h) (fun j h => h.1) (fun _ => rfl)
      (StI W8 M 100) (fun _ _ _ => False)
      (fun s A B row hs hg hr => ⟨ownFrom_grown (β := Unit) (Nat.le_refl _) () A B row hs.1 hg hr, ownFrom_block (β := Unit) (by omega) () A B row hs.2.1 hg hr, hs.2.2⟩)
      (fun _ _ _ _ _ hs _ _ => hs.elim)
      ⟨grown_of_below (Below.refl _ _) |> grown_any, hn8, Nat.zero_le _⟩
      (fun y => { tmps := #[.string a, .int .i64 many, .pointer (some ⟨w.heap.size, 0, none⟩), undef, .pointer (some ⟨w.heap.size + 1, 0, none⟩), .bool true, .func (.func 25) #[] #[.pointer (some ⟨B1, 0, none⟩)], .pointer (some ⟨L, 0, none⟩), .pointer (some ⟨L + 1, 0, none⟩), .pointer (some ⟨L + 1 + 1, 0, none⟩), undef, undef, .pointer (some ⟨M, 0, none⟩), .bool true, .string a, .string x, .string x, .func (.func 25) #[] #[.pointer (some ⟨B1, 0, none⟩)], .func (.func 25) #[] #[.pointer (some ⟨B1, 0, none⟩)], .bool false, .string x, .slice (some ⟨g, 0, none⟩) (n + 1) cap, .int .i64 many, .int .i64 k, .func (.func 25) #[] #[.pointer (some ⟨B1, 0, none⟩)], undef, undef, undef, undef, undef, undef, undef, undef, undef, undef, undef, undef, undef, undef, undef, undef, undef, undef, undef, undef, undef, undef, undef, undef, undef, undef, undef, undef, undef, undef, undef, undef, undef, undef, undef, undef, undef, undef, undef, undef, undef, undef, undef, .func (.func 25) #[] #[.pointer (some ⟨B1, 0, none⟩)], .int .i64 y.1, .string y.2, undef, undef, undef, undef, undef, undef, undef, undef, undef, undef, undef, undef, undef, undef, undef, undef, undef, undef, undef, undef, undef], defers := [] })
      ?assign2 ?body2 ?done2 ?stop2
    case assign2 =>
      intro l' y W4 K hK
      gi_wp2
      exact hK
    case body2 =>
      rintro l' pre ⟨i, p⟩ W4 ⟨hgr4, hcnt, _⟩ hpre4 _
      have hpl4 : pre.length + 1 ≤ 61 := by
        obtain ⟨_, _, _, h⟩ := prefix_get hpre4
        have := HN.out; omega
      have c0 := cell_of_one hcnt
      have f0 := free_of_one hcnt
      have HG4 := Lib.hid hgr4
      have HC4 := Lib.hid hcnt
      have HE := Lib.hid (show ((pre ++ [(i, p)]).length : Int) = (pre.length : Int) + 1 by simp)
      have hp0 : (0 : Int) ≤ (pre.length : Int) := by omega
      have hp1 : (pre.length : Int) ≤ 60 := by omega
      clear hgr4 hcnt hpre4
      gi_wp2
      exact ⟨KeepQ.setCell _ _ _ _ (p := ⟨M, 0, none⟩) _ (fun h => h.2 rfl) (by show M < W8.heap.size; omega), grown_set HG4.out _, by rw [HE.out]; exact one_setCell HC4.out, by simp; omega⟩
    case done2 =>
      rintro D2 ys W4 hD2 rfl ⟨hgr4, hcnt, hbig⟩ hK2
      clear hbig
      rw [pieces_length, HN.out] at hcnt
      have hx4 := (hgr4.block (w.heap.size + 1) (by omega) (fun e => by have := Option.some.inj e; omega)).trans HR8.out
      have c1 := cell_of_one ((hgr4.block L (by omega) (fun e => by have := Option.some.inj e; omega)).trans HL8.out)
      have c2 := cell_of_one ((hgr4.block (L + 1) (by omega) (fun e => by have := Option.some.inj e; omega)).trans HK8.out)
      have c3 := cell_of_one ((hgr4.block (L + 1 + 1) (by omega) (fun e => by have := Option.some.inj e; omega)).trans HGOT8.out)
      have hd4 := (hgr4.block D (by omega) (fun e => by have := Option.some.inj e; omega)).trans HD8.out
      have c4 := cell_of_one hcnt
      have c5 := cell_of_one hx4
      have f5 := free_of_one hx4
      have hB4 : Below w.heap.size w W4 := hB8.grown hgr4 hB8.size (fun r e => by have := Option.some.inj e; omega)
      have HR4 := Lib.hid hx4
      have HD4 := Lib.hid hd4
      have HK4 := Lib.hid hK2
      rw [show ((n + 1 : Nat) : Int) = (n : Int) + 1 from rfl] at c4
      have hn0 : (1 : Int) ≤ (n : Int) + 1 := by omega
      have hd : D < D2 := by omega
      have hwd : w.heap.size + 1 < D := by omega
      clear hgr4 hcnt hx4 hd4 hK2 hs8 hs7
      have hjk : (j = k ∧ (k : Int) ≤ (n : Int) + 1) ∨ (j = n + 1 ∧ (n : Int) + 1 < (k : Int)) := by have := HMIN.out; omega
      rcases hjk with ⟨rfl, hj⟩ | ⟨rfl, hj⟩
      · have hmn : ((j : Int) == min (j : Int) ((n : Int) + 1)) = true := by rw [beq_iff_eq]; omega
        gi_wp2_with fail
        exact stops_end HR4.out HK4.out HD4.out (by omega) (by omega) (by omega) hB4 rfl rfl
      · rw [show ((n + 1 : Nat) : Int) = (n : Int) + 1 from rfl] at c3
        have hmn : ((n : Int) + 1 == min (k : Int) ((n : Int) + 1)) = true := by rw [beq_iff_eq]; omega
        gi_wp2_with fail
        exact stops_end HR4.out HK4.out HD4.out (by omega) (by omega) (by omega) hB4 rfl rfl
    case stop2 =>
      rintro D c pre W3 hD hpre h hK
      exact h.elim
end Go.Proofs.YtjajlfcmmgdfcaaDoor
