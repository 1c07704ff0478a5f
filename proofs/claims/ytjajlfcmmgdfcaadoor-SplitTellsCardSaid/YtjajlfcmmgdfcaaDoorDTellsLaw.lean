/-
  SplitTells: it returns true.
-/
import Derived.Test.YtjajlfcmmgdfcaaDoorDCount
import Derived.Test.YtjajlfcmmgdfcaaDoorDRef3
import Derived.Deep.RegionHeld3
namespace Go.Proofs.YtjajlfcmmgdfcaaDoor
open Go Go.RowKit

attribute [local go_sem] Oper.semAt_some

theorem tells_keep {w W3 Wf w' : World} {L G gw n cw : Nat} {k a : Int} (hr : W3.heap[w.heap.size]? = some (.cells #[.bool false] 4 (0, 0))) (hw : W3.heap[L]? = some (.cells #[.slice (some ⟨gw, 0, none⟩) (n + 1) cw] 24 (0, 0)))
    (hi : W3.heap[L + 1 + 1]? = some (.cells #[.int .i64 ((n + 1 : Nat) : Int)] 3 (0, 0))) (hg : Wf.heap[G]? = some (.cells #[.int .i64 k, .int .i64 a] 39 (0, 0))) (hb : Below W3.heap.size W3 Wf)
    (h1 : w.heap.size < W3.heap.size) (h2 : L < W3.heap.size) (h3 : L + 1 + 1 < W3.heap.size) (hB : Below w.heap.size w W3) (hbw : Below Wf.heap.size Wf w') :
    Below w.heap.size w w' ∧ w'.cell? ⟨L + 1 + 1, 0, none⟩ = some (.int .i64 ((n + 1 : Nat) : Int)) ∧ w'.cell? ⟨L, 0, none⟩ = some (.slice (some ⟨gw, 0, none⟩) (n + 1) cw) ∧ w'.cell? ⟨G, 0, none⟩ = some (.int .i64 k) ∧ w'.cell? ⟨G, 1, none⟩ = some (.int .i64 a) ∧ w'.cell? ⟨w.heap.size, 0, none⟩ = some (.bool false) ∧ w'.frozen? ⟨w.heap.size, 0, none⟩ = false := by
  have hz := hb.size
  have e1 := (hbw.block (L + 1 + 1) (by omega)).trans ((hb.block _ h3).trans hi)
  have e2 := (hbw.block L (by omega)).trans ((hb.block _ h2).trans hw)
  have e3 := (hbw.block w.heap.size (by omega)).trans ((hb.block _ h1).trans hr)
  obtain ⟨q3, q4, _, _⟩ := two_cells ((hbw.block G (lt_of_block hg)).trans hg)
  exact ⟨hB.trans ((hb.trans (hbw.mono hz)).mono hB.size), cell_of_one e1, cell_of_one e2, q3, q4, cell_of_one e3, free_of_one e3⟩

theorem tells_end {w W : World} {D : Nat} {a : Act} (hr : W.heap[w.heap.size]? = some (.cells #[.bool false] 4 (0, 0))) (h1 : W.heap[D]? = some (.deferred (some [])))
    (hw1 : w.heap.size < D) (hB : Below w.heap.size w W) (ha : a.defers = [{ target := .collected D, args := #[] }]) (ht : a.tmps.getD 2 undef = .pointer (some ⟨w.heap.size, 0, none⟩)) :
    bodyPostM Fence.wide 0 Tryd.prog Tryd.f3 (fun e w' => e = .returned (.bool true) ∧ Below w.heap.size w w') .ret a (W.setCell ⟨w.heap.size, 0, none⟩ (.bool true)) := by
  have k1 : (W.setCell ⟨w.heap.size, 0, none⟩ (.bool true)).heap[D]? = some (.deferred (some [])) := (Below.heap_setCell _ _ _ _ (by show D ≠ w.heap.size; omega)).trans h1
  have kr : ((W.setCell ⟨w.heap.size, 0, none⟩ (.bool true)).putObj D (.deferred none)).heap[w.heap.size]? = some (.cells #[.bool true] 4 (0, 0)) := (World.putObj_heap_other (by omega)).trans (one_setCell hr)
  have hB5 := (hB.setCell (p := ⟨w.heap.size, 0, none⟩) (Nat.le_refl _) (.bool true))
  obtain ⟨tmps, defers⟩ := a
  dsimp only at ha ht
  subst ha
  rw [Array.getD_eq_getD_getElem?] at ht
  refine ⟨by simp, .inl ⟨_, _, rfl, run_takeDeferred k1, ?_⟩⟩
  refine ⟨.bool true, by simp [results, Tryd.results3, go_sem, ht, cell_of_one kr], rfl, ?_⟩
  exact hB5.trans (belowK_b (w := w) (Nat.le_refl _) _ D _ (.deferred none) (by omega) k1 rfl rfl)

theorem tells_after {w W : World} {r L G : Nat} {a b c d u : Value} (hr : w.heap.size = r) (hL : r < L) (hG : r < G) (hB : Below r w W) (h1 : W.cell? ⟨L + 1 + 1, 0, none⟩ = some a) (h2 : W.cell? ⟨L, 0, none⟩ = some b) (h3 : W.cell? ⟨G, 0, none⟩ = some c) (h4 : W.cell? ⟨G, 1, none⟩ = some d) :
    Below r w (W.setCell ⟨r, 0, none⟩ u) ∧ (W.setCell ⟨r, 0, none⟩ u).cell? ⟨L + 1 + 1, 0, none⟩ = some a ∧ (W.setCell ⟨r, 0, none⟩ u).cell? ⟨L, 0, none⟩ = some b ∧ (W.setCell ⟨r, 0, none⟩ u).cell? ⟨G, 0, none⟩ = some c ∧ (W.setCell ⟨r, 0, none⟩ u).cell? ⟨G, 1, none⟩ = some d := by
  have ne : ∀ (k o : Nat), r < k → (W.setCell ⟨r, 0, none⟩ u).cell? ⟨k, o, none⟩ = W.cell? ⟨k, o, none⟩ := fun k o h => World.cell?_of_block (a := ⟨k, o, none⟩) (Below.heap_setCell _ _ _ _ (by show k ≠ r; omega))
  refine ⟨?_, (ne _ _ (by omega)).trans h1, (ne _ _ hL).trans h2, (ne _ _ hG).trans h3, (ne _ _ hG).trans h4⟩
  subst hr
  exact hB.setCell (p := ⟨w.heap.size, 0, none⟩) (Nat.le_refl _) _

set_option maxRecDepth 100000 in
set_option maxHeartbeats 32000000 in
theorem tells_law (a : ByteArray) (w : World) (ha : a.size ≤ maxLen) (hg : TypeLaid w) :
    Calls Tryd.prog 3 #[.string a] w fun e w' => e = .returned (.bool true) ∧ Below w.heap.size w w' := by
  obtain ⟨x, hx⟩ : ∃ t, cut60 a = t := ⟨_, rfl⟩
  have hx60 : x.size ≤ 60 := by rw [← hx]; exact size_cut60 a
  obtain ⟨n, hn⟩ : ∃ m, (pieces x).length = m + 1 := ⟨(pieces x).length - 1, by have := splS_pos x; rw [pieces_length]; omega⟩
  have hn60 : n ≤ 60 := by have := splS_le x; rw [← pieces_length] at this; omega
  have SA := Lib.hid (fun w5 => (short60_any a w5 ha).mono (R' := fun e w6 => e = .returned (.string x) ∧ w5 = w6) fun e w6 ⟨p, q⟩ => ⟨by rw [p, hx], q⟩)
  have ER := Lib.hid (fun w5 => each_ref x w5 (by omega))
  have E1 := Lib.hid (fun w5 => each_make x w5)
  have HN := Lib.hid hn
  have HG := Lib.hid hg
  clear hx hg ha hn
  refine callsIn_wide (n := 0) |>.1 ?_
  refine callsIn_of_wp_marks Tryd.func3 rfl trivial ?_ rfl
  simp only [Tryd.ntmps3, List.size_toArray, List.length_cons, List.length_nil, Nat.reduceAdd, Nat.reduceSub, Array.replicate_succ, Array.replicate_zero, List.push_toArray, List.append_toArray, List.nil_append, List.cons_append]
  gi_wp2_with fail
  have hr0 : (w.alloc (.cells #[.bool false] 4)).heap[w.heap.size]? = some (.cells #[.bool false] 4 (0, 0)) := World.alloc_heap_new w _
  have hb0 : Below w.heap.size w (w.alloc (.cells #[.bool false] 4)) := (Below.refl _ w).alloc (Nat.le_refl _) _
  have hz0 : w.heap.size + 1 ≤ (w.alloc (.cells #[.bool false] 4)).heap.size := by simp
  generalize w.alloc (.cells #[.bool false] 4) = W0 at *
  refine ⟨trivial, rfl, CallsIn.mono (callsIn_wide.2 (awake4_any W0 (HG.out.below hb0 HG.out.size))) ?_⟩
  rintro e w1 ⟨rfl, hb1⟩
  have hr1 := (hb1.block _ (lt_of_block hr0)).trans hr0
  have hB1 : Below w.heap.size w w1 := hb0.trans (hb1.mono hb0.size)
  have hz1 : w.heap.size + 1 ≤ w1.heap.size := Nat.le_trans hz0 hb1.size
  have HR1 := Lib.hid hr1
  clear hr0 hb0 hb1 hz0 hr1
  gi_wp2_with fail
  refine ⟨trivial, rfl, CallsIn.mono (callsIn_wide.2 (SA.out _)) ?_⟩
  rintro e w' ⟨rfl, rfl⟩
  gi_wp2_with fail
  refine ⟨trivial, rfl, CallsIn.mono (callsIn_wide.2 (ER.out _)) ?_⟩
  rintro e w2 ⟨u, rfl, ho2, hb2⟩
  rw [HN.out] at ho2
  obtain ⟨gw, cw, rfl⟩ := ownsRow_succ ho2
  have hp2 := own_pieces ho2
  have hg2 : gw < w2.heap.size := (ho2.lt gw rfl).2
  have hr2 := (hb2.block _ (lt_of_block HR1.out)).trans HR1.out
  have hB2 : Below w.heap.size w w2 := hB1.trans (hb2.mono hB1.size)
  have hz2 : w.heap.size + 1 ≤ w2.heap.size := Nat.le_trans hz1 hb2.size
  have HR2 := Lib.hid hr2
  have HP2 := Lib.hid hp2
  clear ho2 hp2 hb2 hr2 hB1 hz1 HR1
  gi_wp2_with fail
  obtain ⟨L, hL⟩ : ∃ l, w2.heap.size = l := ⟨_, rfl⟩
  refine ⟨trivial, rfl, CallsIn.mono (callsIn_wide.2 (E1.out _)) ?_⟩
  rintro e w4 ⟨rfl, hw4⟩
  have hs3 : (w2.alloc (.cells #[.slice (some ⟨gw, 0, none⟩) (n + 1) cw] 24)).heap.size = L + 1 := by simp [hL]
  rw [hs3]
  have hw3 : (w2.alloc (.cells #[.slice (some ⟨gw, 0, none⟩) (n + 1) cw] 24)).heap[L]? = some (.cells #[.slice (some ⟨gw, 0, none⟩) (n + 1) cw] 24 (0, 0)) := by rw [← hL]; exact World.alloc_heap_new w2 _
  have hb3 : Below L w2 (w2.alloc (.cells #[.slice (some ⟨gw, 0, none⟩) (n + 1) cw] 24)) := (Below.refl _ w2).alloc (by omega) _
  generalize w2.alloc (.cells #[.slice (some ⟨gw, 0, none⟩) (n + 1) cw] 24) = w3 at *
  have he4 : w4.heap[L + 1]? = some (.cells #[.string x] 9 (0, 0)) := by rw [← hw4, ← hs3]; exact World.alloc_heap_new w3 _
  have hb4 : Below (L + 1) w3 w4 := by rw [← hw4]; exact (Below.refl _ w3).alloc (by omega) _
  have hs4 : w4.heap.size = L + 1 + 1 := by rw [← hw4]; simp [hs3]
  have hnil := seq_nil (L + 1)
  have HW4 := Lib.hid hw4
  clear hw4
  gi_wp2_with fail
  have hi7 : (w4.alloc (.cells #[.int .i64 0] 3)).heap[L + 1 + 1]? = some (.cells #[.int .i64 0] 3 (0, 0)) := by rw [← hs4]; exact World.alloc_heap_new w4 _
  have hb7 : Below (L + 1 + 1) w4 (w4.alloc (.cells #[.int .i64 0] 3)) := (Below.refl _ w4).alloc (by omega) _
  have hs7 : (w4.alloc (.cells #[.int .i64 0] 3)).heap.size = L + 1 + 1 + 1 := by simp [hs4]
  generalize w4.alloc (.cells #[.int .i64 0] 3) = W7 at *
  have hb27 : Below L w2 W7 := hb3.trans ((hb4.mono (by omega)).trans (hb7.mono (by omega)))
  have hr7 := (hb27.block w.heap.size (by omega)).trans HR2.out
  have hw7 : W7.heap[L]? = some (.cells #[.slice (some ⟨gw, 0, none⟩) (n + 1) cw] 24 (0, 0)) := (hb7.block L (by omega)).trans ((hb4.block L (by omega)).trans hw3)
  have he7 : W7.heap[L + 1]? = some (.cells #[.string x] 9 (0, 0)) := (hb7.block (L + 1) (by omega)).trans he4
  have hp7 : ∀ i y, (pieces x)[i]? = some y → W7.cell? ⟨gw, i * 2, none⟩ = some (.int .i64 (y.1 : Int)) ∧ W7.cell? ⟨gw, i * 2 + 1, none⟩ = some (.string y.2) := fun i y hy =>
    ⟨(hb27.cell (p := ⟨gw, i * 2, none⟩) (by show gw < L; omega)).trans (HP2.out i y hy).1, (hb27.cell (p := ⟨gw, i * 2 + 1, none⟩) (by show gw < L; omega)).trans (HP2.out i y hy).2⟩
  have hB7 : Below w.heap.size w W7 := hB2.trans (hb27.mono (by omega))
  have hgl : gw < L := by omega
  have hwl : w.heap.size < L := by omega
  have HR7 := Lib.hid hr7
  have HW7 := Lib.hid hw7
  have HE7 := Lib.hid he7
  have HP7 := Lib.hid hp7
  clear hb27 hr7 hw7 he7 hp7 hb3 hb4 hb7 hw3 he4 hB2 HR2 HP2 HW4 hs3 hs4 hL hg2 hz2
  have hseq := each_seq (fr := fun _ => false) (w := W7) (q := fun j => j < W7.heap.size ∧ j ≠ L + 1 + 1) (by omega) ⟨by omega, by omega⟩ HE7.out
  refine rangeQ (gf := 25) (lb := #[.pointer (some ⟨L + 1, 0, none⟩)]) rfl (Go.Proofs.enters_of Tryd.func25 (by kernel_rfl) rfl) hseq (fun _ h => by cases h) (fun j h => h.1) (fun _ => rfl)
    (StI W7 (L + 1 + 1) 100) (fun _ _ _ => False)
    (fun s A B row hs hg hr => ⟨ownFrom_grown (β := Unit) (Nat.le_refl _) () A B row hs.1 hg hr, ownFrom_block (β := Unit) (by omega) () A B row hs.2.1 hg hr, hs.2.2⟩)
    (fun _ _ _ _ _ hs _ _ => hs.elim)
    ⟨grown_of_below (Below.refl _ _) |> grown_any, hi7, Nat.zero_le _⟩
    (fun y => { tmps := #[.string x, undef, .pointer (some ⟨w.heap.size, 0, none⟩), .bool true, .pointer (some ⟨L, 0, none⟩), .func (.func 25) #[] #[.pointer (some ⟨L + 1, 0, none⟩)], .pointer (some ⟨L + 1 + 1, 0, none⟩), .int .i64 y.1, .string y.2, undef, undef, undef, undef, .bool true, .string a, .string x, .string x, .slice (some ⟨gw, 0, none⟩) (n + 1) cw, .string x, .func (.func 25) #[] #[.pointer (some ⟨L + 1, 0, none⟩)], .func (.func 25) #[] #[.pointer (some ⟨L + 1, 0, none⟩)], .bool false, .func (.func 25) #[] #[.pointer (some ⟨L + 1, 0, none⟩)], .int .i64 y.1, .string y.2, undef, undef, undef, undef, undef, undef, undef, undef, undef, undef, undef, undef, undef, undef, undef, undef, undef, undef, undef, undef, undef, undef, undef, undef, undef, undef, undef, undef, undef, undef, undef, undef, undef, undef, undef, undef, undef, undef, undef, undef, undef, undef, undef, undef, undef, undef, undef, undef, undef, undef, undef, undef, undef, undef, undef, undef, undef, undef, undef, undef, undef, undef, undef, undef, undef, undef, undef, undef, undef, undef, undef, undef, undef, undef, undef, undef, undef, undef], defers := [] })
    ?assign ?body ?done ?stop
  case assign =>
    intro l' y W3 K hK
    gi_wp2
    exact hK
  case body =>
    rintro l' pre ⟨i, p⟩ W3 ⟨hgr, hcnt, hbig⟩ hpre hsz3
    obtain ⟨hget, _, hmem, hpl⟩ := prefix_get hpre
    rw [← pieces_length, HN.out] at hpl
    clear hbig
    have hG3 := Lib.hid hgr
    have c1 := cell_of_one ((hgr.block L (by omega) (fun e => by have := Option.some.inj e; omega)).trans HW7.out)
    have c3 := cell_of_one hcnt
    have f3 := free_of_one hcnt
    have hgb := hgr.block gw (by omega) (fun e => by have := Option.some.inj e; omega)
    have c4 : W3.cell? ⟨gw, pre.length * 2, none⟩ = some (.int .i64 (i : Int)) := (World.cell?_of_block (a := ⟨gw, pre.length * 2, none⟩) hgb).trans (HP7.out _ _ hget).1
    have c5 : W3.cell? ⟨gw, pre.length * 2 + 1, none⟩ = some (.string p) := (World.cell?_of_block (a := ⟨gw, pre.length * 2 + 1, none⟩) hgb).trans (HP7.out _ _ hget).2
    have HCNT := Lib.hid hcnt
    have hlt1 : ¬ ((n : Int) + 1 ≤ (pre.length : Int)) := by omega
    have hlt2 : (pre.length : Int) < (n : Int) + 1 := by omega
    have hp0 : (0 : Int) ≤ (pre.length : Int) := by omega
    have hpb : (pre.length : Int) ≤ 100 := by omega
    have HE := Lib.hid (show ((pre ++ [(i, p)]).length : Int) = (pre.length : Int) + 1 by simp)
    clear hgr hcnt hmem hget hpre hgb
    gi_wp2
    exact ⟨KeepQ.setCell _ _ _ _ (p := ⟨L + 1 + 1, 0, none⟩) _ (fun h => h.2 rfl) (by show L + 1 + 1 < L + 1 + 1 + 1; omega), grown_set hG3.out _, by rw [HE.out]; exact one_setCell HCNT.out, by simp; omega⟩
  case stop =>
    rintro D c pre W3 hD hpre h hK
    exact h.elim
  case done =>
    rintro D ys W3 hD rfl ⟨hgr, hcnt, hbig⟩ hK
    rw [HN.out] at hcnt
    clear hbig
    have hDl := lt_of_block hK
    have hsz3 : W7.heap.size ≤ W3.heap.size := hgr.size
    have hr3 := (hgr.block w.heap.size (by omega) (fun e => by have := Option.some.inj e; omega)).trans HR7.out
    have hw3 := (hgr.block L (by omega) (fun e => by have := Option.some.inj e; omega)).trans HW7.out
    have hB3 : Below w.heap.size w W3 := hB7.grown hgr hB7.size (fun r e => by have := Option.some.inj e; omega)
    have hL3 : L + 1 + 1 < W3.heap.size := by omega
    have hDr : w.heap.size < D := by omega
    have HR3 := Lib.hid hr3
    have HW3 := Lib.hid hw3
    have HI3 := Lib.hid hcnt
    have HD3 := Lib.hid hK
    clear hgr hcnt hK hr3 hw3 hseq HR7 HW7 HE7 HP7 hB7 hi7 hs7 hsz3 hD
    gi_step
    gi_step
    refine wpIn_wide.2 ?_
    have hb0 := Below.refl W3.heap.size W3
    have S1 := split_on x W3 (by omega)
    have S2 := Lib.hid (fun w5 (hb : Below W3.heap.size W3 w5) => (split_ref x w5 (by omega)).mono (R' := fun e w6 => ∃ u, e = .returned u ∧ w6.ownsRow W3.heap.size 9 1 u (splS x).length (strs (splS x)) ∧ Below w5.heap.size w5 w6 ∧ Below W3.heap.size W3 w6) fun e w6 ⟨u, p, q, r⟩ => ⟨u, p, own_lower q hb.size, r, hb.trans (r.mono hb.size)⟩)
    rw [← pieces_length, HN.out] at S1 S2
    have hg3 := HG.out.below hB3 HG.out.size
    have CK := Lib.hid (fun w5 (hb : Below W3.heap.size W3 w5) => (check_any x w5 (by omega)).mono (R' := fun e w6 => ∃ v, e = .returned v ∧ ErrIs w6 x v ∧ Below W3.heap.size W3 w6) fun e w6 ⟨v, p, q, r⟩ => ⟨v, p, q, hb.trans (r.mono hb.size)⟩)
    have CR := Lib.hid (fun w5 (hb : Below W3.heap.size W3 w5) => (check_ref x w5 (by omega)).mono (R' := fun e w6 => e = .returned (.agg #[.int .i64 (kindE x), .int .i64 (placeE x)]) ∧ Below w5.heap.size w5 w6 ∧ Below W3.heap.size W3 w6) fun e w6 ⟨p, r⟩ => ⟨p, r, hb.trans (r.mono hb.size)⟩)
    go_wp2_with fail
    refine (S1.out _ hb0).mono ?_
    rintro e w5 ⟨u1, rfl, ho1, _, hb5⟩
    obtain ⟨g1, c1, rfl⟩ := ownsRow_succ ho1
    have O1 := Lib.hid ho1
    clear ho1
    go_wp2_with fail
    refine (S2.out _ hb5).mono ?_
    rintro e w6 ⟨u2, rfl, ho2, hk6, hb6⟩
    obtain ⟨g2, c2, rfl⟩ := ownsRow_succ ho2
    have hsl : (splS x).length = n + 1 := by rw [← pieces_length]; exact HN.out
    have SM := Lib.hid ((same_texts g1 g2 c1 c2 (n + 1) (n + 1) (splS x) (splS x) w6 hsl hsl (by omega) (own_cell (own_below O1.out hk6)) (own_cell ho2)).mono
      (R' := fun e w' => e = .returned (.bool true) ∧ Below W3.heap.size W3 w') fun e w' ⟨p, q⟩ => ⟨by rw [p]; simp, hb6.trans (q.mono hb6.size)⟩)
    clear ho2 hk6 hsl
    go_wp2_with fail
    refine SM.out.mono ?_
    rintro e w7 ⟨rfl, hb7⟩
    go_wp2_with fail
    refine (CK.out _ hb7).mono ?_
    rintro e w8 ⟨v, rfl, hE8, hb8⟩
    have HE8 := Lib.hid hE8
    clear hE8
    go_wp2_with fail
    refine (CR.out _ hb8).mono ?_
    rintro e w9 ⟨rfl, hk9, hb9⟩
    have HE9 := Lib.hid (HE8.out.below hk9)
    clear hk9
    rcases hck : chkS x with _ | at0
    · have hkE : kindE x = 0 := by unfold kindE; rw [hck]; rfl
      have hpE : placeE x = -1 := by unfold placeE; rw [hck]
      rw [hkE, hpE]
      have hsz9 : W3.heap.size ≤ w9.heap.size := hb9.size
      have hgot : (w9.alloc (.cells #[.int .i64 0, .int .i64 (-1)] 39)).heap[w9.heap.size]? = some (.cells #[.int .i64 0, .int .i64 (-1)] 39 (0, 0)) := World.alloc_heap_new w9 _
      have hE10 : ErrIs (w9.alloc (.cells #[.int .i64 0, .int .i64 (-1)] 39)) x v := HE9.out.below ((Below.refl _ w9).alloc (Nat.le_refl _) _)
      have hb10 : Below W3.heap.size W3 (w9.alloc (.cells #[.int .i64 0, .int .i64 (-1)] 39)) := hb9.alloc hsz9 _
      obtain ⟨G, hG⟩ : ∃ g, w9.heap.size = g := ⟨_, rfl⟩
      go_wp2_with fail
      rw [hG] at hgot hsz9
      generalize w9.alloc (.cells #[.int .i64 0, .int .i64 (-1)] 39) = Wf at *
      have hGl := lt_of_block hgot
      have HS := Lib.hid (fun w' (hb : Below Wf.heap.size Wf w') => tells_keep HR3.out HW3.out HI3.out hgot hb10 (by omega) (by omega) (by omega) hB3 hb)
      have KK := Lib.hid (fun w5 (hb : Below Wf.heap.size Wf w5) => (kind_err w5 (hE10.below hb) ((hg3.below hb10 hg3.size).below hb (Nat.lt_of_lt_of_le hg3.size hb10.size))).mono (R' := fun e w6 => e = .returned (.int .i64 0) ∧ Below Wf.heap.size Wf w6) fun e w6 ⟨p, q⟩ => ⟨by rw [p, hkE], hb.trans (q.mono hb.size)⟩)
      have KP := Lib.hid (fun w5 (hb : Below Wf.heap.size Wf w5) => (place_err w5 (hE10.below hb)).mono (R' := fun e w6 => e = .returned (.int .i64 (-1)) ∧ Below Wf.heap.size Wf w6) fun e w6 ⟨p, q⟩ => ⟨by rw [p, hpE], hb.trans (q.mono hb.size)⟩)
      have KT := Lib.hid (fun w5 (hb : Below Wf.heap.size Wf w5) => (trim_split x w5 (by omega)).mono (R' := fun e w6 => e = .returned (.string (trimS x)) ∧ Below Wf.heap.size Wf w6) fun e w6 ⟨p, q⟩ => ⟨p, by rw [← q]; exact hb⟩)
      have KR := Lib.hid (fun w5 (hb : Below Wf.heap.size Wf w5) => (trim_ref x w5 (by omega)).mono (R' := fun e w6 => e = .returned (.string (trimS x)) ∧ Below Wf.heap.size Wf w6) fun e w6 ⟨p, q⟩ => ⟨p, hb.trans (q.mono hb.size)⟩)
      have hbf := (Below.refl Wf.heap.size Wf).drew
      have hGr : w.heap.size < G := by omega
      obtain ⟨q0, q1, q2, q3, q4, q5, q6⟩ := HS.out _ hbf
      generalize trimS x = tx at *
      clear hgot hE10 hkE hpE hck hsz9 hb9
      go_region_held3 (fun w' => Below w.heap.size w w' ∧ w'.cell? ⟨L + 1 + 1, 0, none⟩ = some (.int .i64 ((n + 1 : Nat) : Int)) ∧ w'.cell? ⟨L, 0, none⟩ = some (.slice (some ⟨gw, 0, none⟩) (n + 1) cw) ∧ w'.cell? ⟨G, 0, none⟩ = some (.int .i64 0) ∧ w'.cell? ⟨G, 1, none⟩ = some (.int .i64 (-1)))
        (first | exact ⟨by assumption, by assumption, by assumption, by assumption, by assumption⟩ | exact tells_after rfl hwl hGr (by assumption) (by assumption) (by assumption) (by assumption) (by assumption))
        (first
          | (go_at_call 19; (with_reducible refine (KK.out _ (by assumption)).mono ?_); rintro e w15 ⟨rfl, hb15⟩; obtain ⟨q0, q1, q2, q3, q4, q5, q6⟩ := HS.out _ hb15)
          | (go_at_call 20; (with_reducible refine (KP.out _ (by assumption)).mono ?_); rintro e w15 ⟨rfl, hb15⟩; obtain ⟨q0, q1, q2, q3, q4, q5, q6⟩ := HS.out _ hb15)
          | (go_at_call 21; (with_reducible refine (KT.out _ (by assumption)).mono ?_); rintro e w15 ⟨rfl, hb15⟩; obtain ⟨q0, q1, q2, q3, q4, q5, q6⟩ := HS.out _ hb15)
          | (go_at_call 22; (with_reducible refine (KR.out _ (by assumption)).mono ?_); rintro e w15 ⟨rfl, hb15⟩; obtain ⟨q0, q1, q2, q3, q4, q5, q6⟩ := HS.out _ hb15))
      have hzf : W3.heap.size ≤ Wf.heap.size := hb10.size
      go_wp2
      exact tells_end ((hb15.block _ (by omega)).trans ((hb10.block _ (by omega)).trans HR3.out)) ((hb15.block _ (by omega)).trans ((hb10.block _ hDl).trans HD3.out)) hDr q0 rfl rfl
    · have hkE : kindE x = 10 := by unfold kindE; rw [hck]; rfl
      have hpE : placeE x = (at0 : Int) := by unfold placeE; rw [hck]
      rw [hkE, hpE]
      have hsz9 : W3.heap.size ≤ w9.heap.size := hb9.size
      have hgot : (w9.alloc (.cells #[.int .i64 10, .int .i64 (at0 : Int)] 39)).heap[w9.heap.size]? = some (.cells #[.int .i64 10, .int .i64 (at0 : Int)] 39 (0, 0)) := World.alloc_heap_new w9 _
      have hE10 : ErrIs (w9.alloc (.cells #[.int .i64 10, .int .i64 (at0 : Int)] 39)) x v := HE9.out.below ((Below.refl _ w9).alloc (Nat.le_refl _) _)
      have hb10 : Below W3.heap.size W3 (w9.alloc (.cells #[.int .i64 10, .int .i64 (at0 : Int)] 39)) := hb9.alloc hsz9 _
      obtain ⟨G, hG⟩ : ∃ g, w9.heap.size = g := ⟨_, rfl⟩
      go_wp2_with fail
      rw [hG] at hgot hsz9
      generalize w9.alloc (.cells #[.int .i64 10, .int .i64 (at0 : Int)] 39) = Wf at *
      have hGl := lt_of_block hgot
      have HS := Lib.hid (fun w' (hb : Below Wf.heap.size Wf w') => tells_keep HR3.out HW3.out HI3.out hgot hb10 (by omega) (by omega) (by omega) hB3 hb)
      have KK := Lib.hid (fun w5 (hb : Below Wf.heap.size Wf w5) => (kind_err w5 (hE10.below hb) ((hg3.below hb10 hg3.size).below hb (Nat.lt_of_lt_of_le hg3.size hb10.size))).mono (R' := fun e w6 => e = .returned (.int .i64 10) ∧ Below Wf.heap.size Wf w6) fun e w6 ⟨p, q⟩ => ⟨by rw [p, hkE], hb.trans (q.mono hb.size)⟩)
      have KP := Lib.hid (fun w5 (hb : Below Wf.heap.size Wf w5) => (place_err w5 (hE10.below hb)).mono (R' := fun e w6 => e = .returned (.int .i64 (at0 : Int)) ∧ Below Wf.heap.size Wf w6) fun e w6 ⟨p, q⟩ => ⟨by rw [p, hpE], hb.trans (q.mono hb.size)⟩)
      have KT := Lib.hid (fun w5 (hb : Below Wf.heap.size Wf w5) => (trim_split x w5 (by omega)).mono (R' := fun e w6 => e = .returned (.string (trimS x)) ∧ Below Wf.heap.size Wf w6) fun e w6 ⟨p, q⟩ => ⟨p, by rw [← q]; exact hb⟩)
      have KR := Lib.hid (fun w5 (hb : Below Wf.heap.size Wf w5) => (trim_ref x w5 (by omega)).mono (R' := fun e w6 => e = .returned (.string (trimS x)) ∧ Below Wf.heap.size Wf w6) fun e w6 ⟨p, q⟩ => ⟨p, hb.trans (q.mono hb.size)⟩)
      refine (whats_err Wf hE10 hck).mono ?_
      rintro e w16 ⟨u3, rfl, ho3, hb16⟩
      obtain ⟨g3, c3, rfl⟩ := ownsRow_succ ho3
      have hc3 : w16.cell? ⟨g3, 0, none⟩ = some (.string ⟨#[115, 117, 98, 116, 97, 103]⟩) := (ho3.cellAt 0 (by omega)).trans rfl
      have hbf := hb16.drew
      have hGr : w.heap.size < G := by omega
      obtain ⟨q0, q1, q2, q3, q4, q5, q6⟩ := HS.out _ hbf
      generalize trimS x = tx at *
      clear hgot hE10 hkE hpE hck hsz9 hb9 ho3
      go_wp2_with fail
      go_region_held3 (fun w' => Below w.heap.size w w' ∧ w'.cell? ⟨L + 1 + 1, 0, none⟩ = some (.int .i64 ((n + 1 : Nat) : Int)) ∧ w'.cell? ⟨L, 0, none⟩ = some (.slice (some ⟨gw, 0, none⟩) (n + 1) cw) ∧ w'.cell? ⟨G, 0, none⟩ = some (.int .i64 10) ∧ w'.cell? ⟨G, 1, none⟩ = some (.int .i64 (at0 : Int)))
        (first | exact ⟨by assumption, by assumption, by assumption, by assumption, by assumption⟩ | exact tells_after rfl hwl hGr (by assumption) (by assumption) (by assumption) (by assumption) (by assumption))
        (first
          | (go_at_call 19; (with_reducible refine (KK.out _ (by assumption)).mono ?_); rintro e w15 ⟨rfl, hb15⟩; obtain ⟨q0, q1, q2, q3, q4, q5, q6⟩ := HS.out _ hb15)
          | (go_at_call 20; (with_reducible refine (KP.out _ (by assumption)).mono ?_); rintro e w15 ⟨rfl, hb15⟩; obtain ⟨q0, q1, q2, q3, q4, q5, q6⟩ := HS.out _ hb15)
          | (go_at_call 21; (with_reducible refine (KT.out _ (by assumption)).mono ?_); rintro e w15 ⟨rfl, hb15⟩; obtain ⟨q0, q1, q2, q3, q4, q5, q6⟩ := HS.out _ hb15)
          | (go_at_call 22; (with_reducible refine (KR.out _ (by assumption)).mono ?_); rintro e w15 ⟨rfl, hb15⟩; obtain ⟨q0, q1, q2, q3, q4, q5, q6⟩ := HS.out _ hb15))
      have hzf : W3.heap.size ≤ Wf.heap.size := hb10.size
      go_wp2
      exact tells_end ((hb15.block _ (by omega)).trans ((hb10.block _ (by omega)).trans HR3.out)) ((hb15.block _ (by omega)).trans ((hb10.block _ hDl).trans HD3.out)) hDr q0 rfl rfl
end Go.Proofs.YtjajlfcmmgdfcaaDoor
