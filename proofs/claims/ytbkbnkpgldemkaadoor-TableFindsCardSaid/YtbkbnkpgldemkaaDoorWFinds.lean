/-
  finds: what Find and Prefix tell, against the document.
-/
import Derived.Test.YtbkbnkpgldemkaaDoorWPre
namespace Go.Proofs.YtbkbnkpgldemkaaDoor
open Go Go.RowKit

attribute [local go_sem] Oper.semAt_some

/-- One operation of the lexical walk, inside the widest fence: nothing is asked. -/
macro "quiet_wide_step " "(" tac:tactic ")" : tactic => `(tactic|
  (refine wpQuietIn_step (fun _ _ _ _ => trivial) (fun K hK => ?_)
   go_simp
   first
     | (refine hK _ ?_; clear hK K)
     | (apply Exists.intro
        refine ⟨fun _ => ?_, hK _ ?_⟩
        ($tac:tactic)
        clear hK K)))

theorem vt_le (K : Nat) (L : List ByteArray) (key : ByteArray) : searchW K L key + (tookW K L key).length ≤ L.length := by
  have h1 := search_le K L key
  have h2 : (tookW K L key).length ≤ (L.drop (searchW K L key)).length := List.Sublist.length_le (List.takeWhile_sublist _)
  rw [List.length_drop] at h2
  omega
theorem grown_drewN {A w : World} {row : Option Nat} (h : A.grownBy w row) (n : Nat) : A.grownBy (w.drewN n) row :=
  have hb := below_drewN (Below.refl w.heap.size w) n
  ⟨hb.os.trans h.os, hb.tape.trans h.tape, hb.output.trans h.output, Nat.le_trans h.size hb.size, fun k hk hne => (hb.block k (Nat.lt_of_lt_of_le hk h.size)).trans (h.block k hk hne)⟩
theorem findsW_end {w W4 : World} {D : Nat} {a : Act} (hr : W4.heap[w.heap.size + 1 + 1 + 1]? = some (.cells #[.bool true] 4 (0, 0))) (h1 : W4.heap[D]? = some (.deferred (some [])))
    (hw1 : w.heap.size + 1 + 1 + 1 < D) (hB : Below w.heap.size w W4) (ha : a.defers = [{ target := .collected D, args := #[] }]) (ht : a.tmps.getD 8 undef = .pointer (some ⟨w.heap.size + 1 + 1 + 1, 0, none⟩)) :
    bodyPostM Fence.wide 0 Tryd.prog Tryd.f14 (fun e w' => e = .returned (.bool true) ∧ Below w.heap.size w w') .ret a W4 := by
  have k1 : (W4.putObj D (.deferred none)).heap[w.heap.size + 1 + 1 + 1]? = some (.cells #[.bool true] 4 (0, 0)) := (World.putObj_heap_other (by omega)).trans hr
  obtain ⟨tmps, defers⟩ := a
  dsimp only at ha ht
  subst ha
  rw [Array.getD_eq_getD_getElem?] at ht
  refine ⟨by simp, .inl ⟨_, _, rfl, run_takeDeferred h1, ?_⟩⟩
  refine ⟨.bool true, by simp [results, Tryd.results14, go_sem, ht, cell_of_one k1], rfl, ?_⟩
  exact hB.trans (belowK_b (w := w) (Nat.le_refl _) _ D _ (.deferred none) (by omega) h1 rfl rfl)

set_option pp.maxSteps 1000000 in
set_option pp.deepTerms true in
set_option maxRecDepth 100000 in
set_option maxHeartbeats 8000000 in
theorem finds_any {b W K : Nat} {L : List ByteArray} (v : Value) (key : ByteArray) (w : World) (h : TabL w b W K L) (hv : RowW w v L) (hl : L.length ≤ 100) :
    Calls Tryd.prog 14 #[.pointer (some ⟨b, 0, none⟩), v, .string key, .int .i64 (K : Int)] w fun e w' => e = .returned (.bool true) ∧ Below w.heap.size w w' := by
  have HKS := Lib.hid (fun (x : ByteArray) (hx : x ∈ L) => show K ≤ x.size from by rw [h.sz x hx]; exact h.wid.kW)
  have hcases := find_cases h.rise key
  have HBI := Lib.hid (fun i r (hi : L[i]? = some r) => begins_iff (key := key) h.rise hi)
  have HT := Lib.hid h
  have HV := Lib.hid hv
  obtain ⟨ao, c, rfl, -⟩ := hv
  clear h
  refine callsIn_wide (n := 0) |>.1 ?_
  refine callsIn_of_wp_marks Tryd.func14 rfl trivial ?_ rfl
  simp only [Tryd.ntmps14, List.size_toArray, List.length_cons, List.length_nil, Nat.reduceAdd, Nat.reduceSub, Array.replicate_succ, Array.replicate_zero, List.push_toArray, List.append_toArray, List.nil_append, List.cons_append]
  gi_wp2_with fail
  obtain ⟨W0, hW0⟩ : ∃ W0, (((w.alloc (.cells #[.slice ao L.length c] 22)).alloc (.cells #[.string key] 9)).alloc (.cells #[.int .i64 (K : Int)] 3)).alloc (.cells #[.bool false] 4) = W0 := ⟨_, rfl⟩
  have hb0 : Below w.heap.size w W0 := by rw [← hW0]; exact ((((Below.refl _ w).alloc (Nat.le_refl _) _).alloc (by simp) _).alloc (by simp <;> omega) _).alloc (by simp <;> omega) _
  have hs0 : W0.heap.size = w.heap.size + 1 + 1 + 1 + 1 := by rw [← hW0]; simp
  have hl0 : W0.heap[w.heap.size]? = some (.cells #[.slice ao L.length c] 22 (0, 0)) := by rw [← hW0, Below.heap_alloc _ _ _ (by simp <;> omega), Below.heap_alloc _ _ _ (by simp <;> omega), Below.heap_alloc _ _ _ (by simp)]; exact World.alloc_heap_new w _
  have hk0 : W0.heap[w.heap.size + 1]? = some (.cells #[.string key] 9 (0, 0)) := by
    rw [← hW0, Below.heap_alloc _ _ _ (by simp <;> omega), Below.heap_alloc _ _ _ (by simp)]
    have := World.alloc_heap_new (w.alloc (.cells #[.slice ao L.length c] 22)) (.cells #[.string key] 9)
    rwa [World.size_alloc] at this
  have hz0 : W0.heap[w.heap.size + 1 + 1]? = some (.cells #[.int .i64 (K : Int)] 3 (0, 0)) := by
    rw [← hW0, Below.heap_alloc _ _ _ (by simp)]
    have := World.alloc_heap_new ((w.alloc (.cells #[.slice ao L.length c] 22)).alloc (.cells #[.string key] 9)) (.cells #[.int .i64 (K : Int)] 3)
    rwa [World.size_alloc, World.size_alloc] at this
  have hr0 : W0.heap[w.heap.size + 1 + 1 + 1]? = some (.cells #[.bool false] 4 (0, 0)) := by
    rw [← hW0]
    have := World.alloc_heap_new (((w.alloc (.cells #[.slice ao L.length c] 22)).alloc (.cells #[.string key] 9)).alloc (.cells #[.int .i64 (K : Int)] 3)) (.cells #[.bool false] 4)
    rwa [World.size_alloc, World.size_alloc, World.size_alloc] at this
  rw [hW0]
  have HX := Lib.hid (fun w5 (hb : Below W0.heap.size W0 w5) => show (w5.heap[w.heap.size]? = some (.cells #[.slice ao L.length c] 22 (0, 0)) ∧ w5.heap[w.heap.size + 1]? = some (.cells #[.string key] 9 (0, 0)) ∧ w5.heap[w.heap.size + 1 + 1]? = some (.cells #[.int .i64 (K : Int)] 3 (0, 0)) ∧ w5.heap[w.heap.size + 1 + 1 + 1]? = some (.cells #[.bool false] 4 (0, 0))) from ⟨(hb.block _ (lt_of_block hl0)).trans hl0, (hb.block _ (lt_of_block hk0)).trans hk0, (hb.block _ (lt_of_block hz0)).trans hz0, (hb.block _ (lt_of_block hr0)).trans hr0⟩)
  have HB0 := Lib.hid hb0
  have HS0 := Lib.hid hs0
  have HFI := Lib.hid ((HT.out.below hb0).find key)
  have HRV := Lib.hid (fun w5 (hb : Below W0.heap.size W0 w5) => HV.out.below (hb0.trans (hb.mono hb0.size)))
  have HRT := Lib.hid (fun w5 (hb : Below W0.heap.size W0 w5) => HT.out.below (hb0.trans (hb.mono hb0.size)))
  clear hW0 hl0 hk0 hz0 hr0 hb0 hs0
  rcases hcases with ⟨j, r0, hj, hf, hrf⟩ | ⟨hf, hrf⟩
  · rw [hf] at HFI
    have HRF := Lib.hid (fun w5 (hb : Below W0.heap.size W0 w5) => refFind_any _ L key K w5 (HRV.out w5 hb) (by omega) HKS.out)
    rw [hrf] at HRF
    have j0 : (0 : Int) ≤ ((j : Nat) : Int) := by omega
    have j1 : (j : Int) < (L.length : Int) := by have := (List.getElem?_eq_some_iff.1 hj).1; omega
    have hrr : (r0.toList == r0.toList) = true := beq_self_eq_true _
    have hrr2 : (r0.toList != r0.toList) = false := by rw [bne, hrr]; rfl
    refine ⟨trivial, rfl, (callsIn_wide.2 HFI.out).mono ?_⟩
    rintro e w1 ⟨rfl, hb1⟩
    obtain ⟨x0, x1, x2, x3⟩ := HX.out _ hb1
    have c0 := cell_of_one x0
    have c1 := cell_of_one x1
    have c2 := cell_of_one x2
    have HB1 := Lib.hid hb1
    obtain ⟨ao', c', e', hc⟩ := HRV.out _ hb1
    injection e' with q1 q2 q3
    subst q1
    subst q3
    obtain ⟨g0, o0, rfl, cj⟩ := hc j r0 hj
    clear hc
    clear x0 x1 x2 x3 hf hrf hb1
    gi_wp2_with fail
    refine ⟨trivial, rfl, (callsIn_wide.2 (HRF.out _ HB1.out)).mono ?_⟩
    rintro e w' ⟨rfl, rfl⟩
    gi_wp2_with fail
    refine ⟨trivial, rfl, (callsIn_wide.2 (prefix_make (some ⟨b, 0, none⟩) key w1)).mono ?_⟩
    rintro e w4 ⟨rfl, hw4⟩
    have hb4 : Below w1.heap.size w1 w4 := by rw [← hw4]; exact ((Below.refl _ w1).alloc (Nat.le_refl _) _).alloc (by simp) _
    have hx1 : w4.heap[w1.heap.size]? = some (.cells #[.pointer (some ⟨b, 0, none⟩)] 31 (0, 0)) := by rw [← hw4, Below.heap_alloc _ _ _ (by simp)]; exact World.alloc_heap_new w1 _
    have hx2 : w4.heap[w1.heap.size + 1]? = some (.cells #[.string key] 9 (0, 0)) := by
      rw [← hw4]
      have := World.alloc_heap_new (w1.alloc (.cells #[.pointer (some ⟨b, 0, none⟩)] 31)) (.cells #[.string key] 9)
      rwa [World.size_alloc] at this
    have HB4 := Lib.hid (HB1.out.trans (hb4.mono HB1.out.size))
    obtain ⟨B1, hB1e⟩ : ∃ n, w1.heap.size = n := ⟨_, rfl⟩
    rw [hB1e] at hx1 hx2 ⊢
    have HX1 := Lib.hid hx1
    have HX2 := Lib.hid hx2
    clear hw4 hb4 hx1 hx2 hB1e c0 c1 c2 cj
    have hnil := seqW_nil2 (.pointer (some ⟨B1, 0, none⟩)) (.pointer (some ⟨B1 + 1, 0, none⟩))
    gi_wp2_with fail
    obtain ⟨M, hM⟩ : ∃ n, w4.heap.size = n := ⟨_, rfl⟩
    obtain ⟨W7, hW7⟩ : ∃ W7, w4.alloc (.cells #[.int .i64 0] 3) = W7 := ⟨_, rfl⟩
    have hb7 : Below w4.heap.size w4 W7 := by rw [← hW7]; exact (Below.refl _ w4).alloc (Nat.le_refl _) _
    have hs7 : W7.heap.size = M + 1 := by rw [← hW7, ← hM]; simp
    have hg7 : W7.heap[M]? = some (.cells #[.int .i64 0] 3 (0, 0)) := by rw [← hW7, ← hM]; exact World.alloc_heap_new w4 _
    rw [hW7, hM]
    have hl1 := lt_of_block HX1.out
    have hl2 := lt_of_block HX2.out
    have hz0 := HB4.out.size
    have hS := HS0.out
    have HB7 := Lib.hid (HB4.out.trans (hb7.mono hz0))
    have HX17 := Lib.hid ((hb7.block _ hl1).trans HX1.out)
    have HX27 := Lib.hid ((hb7.block _ hl2).trans HX2.out)
    have HT7 := Lib.hid (HRT.out _ HB7.out)
    have hlb := lt_of_block (HRT.out _ HB4.out).tab
    rw [hM] at hl1 hl2 hlb hz0
    clear hW7 hb7 HX1 HX2 
    have HXM := Lib.hid (fun w5 (hg : W7.grownBy w5 (some M)) => HX.out w5 (HB7.out.grown hg HB7.out.size (fun r e => by have := Option.some.inj e; omega)))
    have HRM := Lib.hid (fun w5 (hg : W7.grownBy w5 (some M)) => HRV.out w5 (HB7.out.grown hg HB7.out.size (fun r e => by have := Option.some.inj e; omega)))
    have HTK := Lib.hid (show ∀ pre x, pre ++ [x] <+: prefixW K L key → ∃ r, L[searchW K L key + pre.length]? = some r ∧ x = (searchW K L key + pre.length, r) ∧ pre.length < (tookW K L key).length from fun pre x h => prefix_next h)
    have hPL := prefix_len K L key
    have hVT := vt_le K L key
    have hseq := prefL_seqW (fr := fun _ => false) (q := fun j => j < W7.heap.size ∧ j ≠ M) key HT7.out ⟨⟨by omega, by omega⟩, ⟨by omega, by omega⟩, ⟨by omega, by omega⟩⟩ HX17.out HX27.out
    obtain ⟨V, hV⟩ : ∃ V, searchW K L key = V := ⟨_, rfl⟩
    obtain ⟨T, hT⟩ : ∃ T, (tookW K L key).length = T := ⟨_, rfl⟩
    obtain ⟨PR, hPR⟩ : ∃ PR, prefixW K L key = PR := ⟨_, rfl⟩
    rw [hV, hT] at HBI
    rw [hV, hT, hPR] at HTK
    rw [hPR] at hseq hPL
    rw [hT] at hPL
    rw [hV, hT] at hVT
    clear hV hT hPR
    refine rangeQ (gf := 33) (lb := #[.pointer (some ⟨B1, 0, none⟩), .pointer (some ⟨B1 + 1, 0, none⟩)]) rfl (Go.Proofs.enters_of Tryd.func33 (by kernel_rfl) rfl) hseq (fun _ h => by cases h) (fun j h => h.1) (fun _ => rfl)
      (StPW W7 M V) (fun _ _ _ => False)
      (fun s A B row hs hg hr => ⟨ownFrom_grownW (β := Unit) (Nat.le_refl _) () A B row hs.1 hg hr, ownFrom_block (β := Unit) (by omega) () A B row hs.2 hg hr⟩)
      (fun _ _ _ _ _ hs _ _ => hs.elim)
      ⟨grown_of_below (Below.refl _ _) |> grown_anyW, hg7⟩
      (fun y => { tmps := #[Value.pointer (some { block := b, off := 0 }), Value.slice (some { block := g0, off := o0 }) L.length c, Value.string key, Value.int IntKind.i64 (K : Int), undef, Value.pointer (some { block := w.heap.size, off := 0 }), Value.pointer (some { block := w.heap.size + 1, off := 0 }), Value.pointer (some { block := w.heap.size + 1 + 1, off := 0 }), Value.pointer (some { block := w.heap.size + 1 + 1 + 1, off := 0 }), Value.string r0, Value.bool true, Value.int IntKind.i64 (j : Int), Value.func (.func 33) #[] #[Value.pointer (some { block := B1, off := 0 }), Value.pointer (some { block := B1 + 1, off := 0 })], Value.pointer (some { block := M, off := 0 }), Value.int IntKind.i64 (y.1 : Int), Value.string y.2, Value.tuple #[Value.string r0, Value.bool true], Value.pointer (some { block := b, off := 0 }), Value.string key, Value.tuple #[Value.string r0, Value.bool true], Value.string r0, Value.bool true, Value.slice (some { block := g0, off := o0 }) L.length c, Value.string key, Value.int IntKind.i64 (K : Int), Value.int IntKind.i64 (j : Int), Value.bool true, Value.int IntKind.i64 (j : Int), Value.bool true, Value.bool false, Value.bool false, Value.bool true, Value.bool false, Value.bool false, undef, undef, Value.bool false, Value.bool false, Value.bool false, Value.bool true, Value.bool true, Value.string r0, Value.slice (some { block := g0, off := o0 }) L.length c, Value.int IntKind.i64 (j : Int), Value.pointer (some { block := g0, off := o0 + j }), Value.string r0, Value.bool false, Value.bool false, Value.bool false, Value.pointer (some { block := b, off := 0 }), Value.string key, Value.func (.func 33) #[] #[Value.pointer (some { block := B1, off := 0 }), Value.pointer (some { block := B1 + 1, off := 0 })], Value.func (.func 33) #[] #[Value.pointer (some { block := B1, off := 0 }), Value.pointer (some { block := B1 + 1, off := 0 })], Value.bool false, Value.func (.func 33) #[] #[Value.pointer (some { block := B1, off := 0 }), Value.pointer (some { block := B1 + 1, off := 0 })], Value.int IntKind.i64 (y.1 : Int), Value.string y.2, undef, undef, undef, undef, undef, undef, undef, undef, undef, undef, undef, undef, undef, undef, undef, undef, undef, undef, undef, undef, undef, undef, undef, undef, undef, undef, undef, undef, undef, undef, undef, undef, undef, undef, undef, undef, undef, undef, undef, undef, undef, undef, undef, undef, undef, undef, undef, undef, undef, undef, undef, undef, undef, undef, undef, undef, undef], defers := [] })
      ?assign ?body ?done ?stop
    case assign =>
      intro l' y W3 K' hK
      gi_wp2
      exact hK
    case body =>
      rintro l' pre x W3 ⟨hgr, hgot⟩ hpre hsz3
      obtain ⟨r, hr, hx, hpT⟩ := HTK.out pre x hpre
      obtain ⟨q, hq⟩ : ∃ q, V + pre.length = q := ⟨_, rfl⟩
      rw [hq] at hr hx
      subst hx
      have HR := Lib.hid hr
      have hrl := (List.getElem?_eq_some_iff.1 hr).1
      have HG3 := Lib.hid hgr
      have HN3 := Lib.hid hgot
      have HNW := Lib.hid (show nW V (pre ++ [(q, r)]) = q + 1 by rw [nW_snoc, hq])
      have HN0 := Lib.hid (show nW V pre ≤ q ∧ (V = q ∨ nW V pre = q) by unfold nW; split <;> omega)
      have HVQ := Lib.hid (show V ≤ q ∧ q < V + T by omega)
      obtain ⟨n0, hn0⟩ : ∃ n, nW V pre = n := ⟨_, rfl⟩
      rw [hn0] at HN0 HN3
      clear hgr hgot hpre hr hn0 hq hpT
      gi_wp2_with fail
      gi_loopw [57] (fun _ wr => ∃ m : Nat, m ≤ q ∧ (V = q ∨ m = q) ∧ Hid (W7.grownBy wr (some M)) ∧ Hid (wr.heap[M]? = some (.cells #[.int .i64 (m : Int)] 3 (0, 0))) ∧ Hid (KeepQ (fun j => j < W7.heap.size ∧ j ≠ M) W7.heap.size (fun _ => false) W3 wr)) (fun _ wr => q + 1 - cellN wr M)
      case atStart => exact ⟨n0, HN0.out.1, HN0.out.2, HG3, HN3, Lib.hid (KeepQ.refl _ _ _ _)⟩
      case round =>
        obtain ⟨m, hm, hm2, HGr, HNr, HKr⟩ := hrel
        obtain ⟨x0, x1, x2, x3⟩ := HXM.out _ HGr.out
        have c0 := cell_of_one x0
        have c1 := cell_of_one x1
        have c2 := cell_of_one x2
        have c3 := cell_of_one HNr.out
        have f3 := free_of_one HNr.out
        clear x0 x1 x2 x3
        obtain ⟨y, hy⟩ : ∃ y, L[m]? = some y := ⟨_, List.getElem?_eq_getElem (by omega)⟩
        have hbi := HBI.out m y hy
        have y1 : (K : Int) ≤ (y.size : Int) := by have := HKS.out y (mem_of_at hy); omega
        have k0 : (0 : Int) ≤ (K : Int) := by omega
        have m0 : (0 : Int) ≤ (m : Int) := by omega
        have m1 : (m : Int) < (L.length : Int) := by omega
        have m3 : decide (m < L.length) = true := decide_eq_true (by omega)
        obtain ⟨ao', c', e', hc⟩ := HRM.out _ HGr.out
        injection e' with q1 q2 q3
        subst q1
        subst q3
        obtain ⟨g1, o1, hga, cy⟩ := hc m y hy
        cases hga
        clear hc
        rcases Nat.lt_or_ge m q with hmv | hmv
        · have hz : decide (V ≤ m ∧ m < V + T) = false := decide_eq_false (by have := HVQ.out; omega)
          rw [hz] at hbi
          have BG := Lib.hid (fun w5 => show Calls Tryd.prog 31 #[.string (y.extract 0 K), .string key] w5 fun e w' => e = .returned (.bool false) ∧ w' = w5 from (begins_any (keyW K y) key w5).mono fun e w' ⟨p1, p2⟩ => ⟨by rw [p1, hbi], p2.symm⟩)
          clear hbi hz hy
          gi_wp2_with fail
          refine wpIn_region_quiet_round (by kernel_rfl) (by kernel_rfl) (by kernel_rfl) ?_
          repeat (quiet_wide_step (exact ⟨rfl, CallsIn.quiet_of_same (callsIn_wide.2 (BG.out _))⟩))
          refine wpQuietIn_nil ?_
          rintro _ ⟨nq, rfl⟩
          gi_wp2_with fail
          go_roundw
          case rel => exact ⟨m + 1, by omega, by omega, Lib.hid (grown_setW (grown_drewN HGr.out nq) _), Lib.hid (one_setCell (w := wr.drewN nq) HNr.out), Lib.hid ((HKr.out.trans (KeepQ.of_below (A := wr) (below_drewN (Below.refl _ _) nq))).trans (KeepQ.setCell _ _ _ _ (p := ⟨M, 0, none⟩) _ (fun h => h.2 rfl) (by show M < W7.heap.size; omega)))⟩
          case measure =>
            have h2 : cellN ((wr.drewN nq).setCell ⟨M, 0, none⟩ (.int .i64 ((m : Int) + 1))) M = m + 1 := cellN_of (m := m + 1) (one_setCell (w := wr.drewN nq) HNr.out)
            rw [cellN_of HNr.out, h2]
            omega
        · obtain rfl : m = q := by omega
          have hz : decide (V ≤ m ∧ m < V + T) = true := decide_eq_true HVQ.out
          rw [hz] at hbi
          obtain rfl : r = y := by have := HR.out; rw [hy] at this; exact (Option.some.inj this).symm
          have BG := Lib.hid (fun w5 => show Calls Tryd.prog 31 #[.string (r.extract 0 K), .string key] w5 fun e w' => e = .returned (.bool true) ∧ w' = w5 from (begins_any (keyW K r) key w5).mono fun e w' ⟨p1, p2⟩ => ⟨by rw [p1, hbi], p2.symm⟩)
          have hrr : (r.toList == r.toList) = true := beq_self_eq_true _
          have hrr2 : (r.toList != r.toList) = false := by rw [bne, hrr]; rfl
          clear hbi hz hy
          gi_wp2_with fail
          refine wpIn_region_quiet_round (by kernel_rfl) (by kernel_rfl) (by kernel_rfl) ?_
          repeat (quiet_wide_step (exact ⟨rfl, CallsIn.quiet_of_same (callsIn_wide.2 (BG.out _))⟩))
          refine wpQuietIn_nil ?_
          rintro _ ⟨nq, rfl⟩
          gi_wp2_with fail
          exact ⟨(HKr.out.trans (KeepQ.of_below (A := wr) (below_drewN (Below.refl _ _) nq))).trans (KeepQ.setCell _ _ _ _ (p := ⟨M, 0, none⟩) _ (fun h => h.2 rfl) (by show M < W7.heap.size; omega)), grown_setW (grown_drewN HGr.out nq) _, by rw [HNW.out]; exact one_setCell (w := wr.drewN nq) HNr.out⟩
    case done =>
      rintro D ys W3 hD rfl ⟨hgr, hgot⟩ hK
      have hnL : nW V ys ≤ L.length := by unfold nW; split <;> omega
      have HNB := Lib.hid (show ∀ i r, nW V ys ≤ i → L[i]? = some r → startsW (keyW K r) key = false from fun i r hi hr => by
        rw [HBI.out i r hr, decide_eq_false_iff_not]
        unfold nW at hi
        split at hi <;> omega)
      have HG3 := Lib.hid hgr
      have HN3 := Lib.hid hgot
      have HD3 := Lib.hid hK
      have hS3 : w.heap.size + 1 + 1 + 1 < D := by omega
      obtain ⟨n0, hn0⟩ : ∃ n, nW V ys = n := ⟨_, rfl⟩
      rw [hn0] at HNB HN3 hnL
      clear hgr hgot hK hn0 hseq hPL
      gi_wp2_with fail
      gi_loopw [93] (fun _ wr => ∃ m : Nat, n0 ≤ m ∧ m ≤ L.length ∧ Hid (W7.grownBy wr (some M)) ∧ Hid (wr.heap[M]? = some (.cells #[.int .i64 (m : Int)] 3 (0, 0))) ∧ Hid (wr.heap[D]? = some (.deferred (some [])))) (fun _ wr => L.length + 1 - cellN wr M)
      case atStart => exact ⟨n0, Nat.le_refl _, hnL, HG3, HN3, HD3⟩
      case round =>
        obtain ⟨m, hm1, hm, HGr, HNr, HDr⟩ := hrel
        obtain ⟨x0, x1, x2, x3⟩ := HXM.out _ HGr.out
        have c0 := cell_of_one x0
        have c1 := cell_of_one x1
        have c2 := cell_of_one x2
        have c3 := cell_of_one HNr.out
        have f3 := free_of_one HNr.out
        have c4 := cell_of_one x3
        have f4 := free_of_one x3
        have HR3 := Lib.hid x3
        clear x0 x1 x2 x3
        have m0 : (0 : Int) ≤ (m : Int) := by omega
        rcases Nat.lt_or_ge m L.length with hmv | hmv
        · obtain ⟨y, hy⟩ : ∃ y, L[m]? = some y := ⟨_, List.getElem?_eq_getElem hmv⟩
          have hbi := HNB.out m y hm1 hy
          have y1 : (K : Int) ≤ (y.size : Int) := by have := HKS.out y (mem_of_at hy); omega
          have k0 : (0 : Int) ≤ (K : Int) := by omega
          have m4 : (m : Int) < (L.length : Int) := by omega
          have m3 : decide (m < L.length) = true := decide_eq_true hmv
          obtain ⟨ao', c', e', hc⟩ := HRM.out _ HGr.out
          injection e' with q1 q2 q3
          subst q1
          subst q3
          obtain ⟨g1, o1, hga, cy⟩ := hc m y hy
          cases hga
          have BG := Lib.hid (fun w5 => show Calls Tryd.prog 31 #[.string (y.extract 0 K), .string key] w5 fun e w' => e = .returned (.bool false) ∧ w' = w5 from (begins_any (keyW K y) key w5).mono fun e w' ⟨p1, p2⟩ => ⟨by rw [p1, hbi], p2.symm⟩)
          clear hc hbi hy
          gi_wp2_with fail
          refine wpIn_region_quiet_lit (by kernel_rfl) (by kernel_rfl) (by kernel_rfl) ?_
          repeat (quiet_wide_step (exact ⟨rfl, CallsIn.quiet_of_same (callsIn_wide.2 (BG.out _))⟩))
          refine wpQuietIn_nil ?_
          rintro _ ⟨nq, rfl⟩
          gi_wp2_with fail
          go_roundw
          case rel => exact ⟨m + 1, by omega, by omega, Lib.hid (grown_setW (grown_drewN HGr.out nq) _), Lib.hid (one_setCell (w := wr.drewN nq) HNr.out), Lib.hid ((Below.heap_setCell _ _ _ _ (by show D ≠ M; omega)).trans HDr.out)⟩
          case measure =>
            have h2 : cellN ((wr.drewN nq).setCell ⟨M, 0, none⟩ (.int .i64 ((m : Int) + 1))) M = m + 1 := cellN_of (m := m + 1) (one_setCell (w := wr.drewN nq) HNr.out)
            rw [cellN_of HNr.out, h2]
            omega
        · obtain rfl : m = L.length := by omega
          have m3 : decide (L.length < L.length) = false := decide_eq_false (by omega)
          have m5 : ((L.length : Int) == (L.length : Int)) = true := beq_self_eq_true _
          gi_wp2_with fail
          refine wpIn_region_quiet_lit (by kernel_rfl) (by kernel_rfl) (by kernel_rfl) ?_
          repeat (quiet_wide_step (fail))
          refine wpQuietIn_nil ?_
          rintro _ ⟨nq, rfl⟩
          gi_wp2_with fail
          have hBg := HB7.out.grown (grown_drewN HGr.out nq) HB7.out.size (fun r e => by have := Option.some.inj e; omega)
          exact findsW_end (D := D) (one_setCell (w := wr.drewN nq) HR3.out) ((Below.heap_setCell _ _ _ _ (by show D ≠ w.heap.size + 1 + 1 + 1; omega)).trans HDr.out) hS3 ((HB0.out.trans (hBg.mono HB0.out.size)).setCell (p := ⟨w.heap.size + 1 + 1 + 1, 0, none⟩) (by show w.heap.size ≤ w.heap.size + 1 + 1 + 1; omega) _) rfl rfl
    case stop =>
      rintro D c' pre W3 hD hpre h hK
      exact h.elim
  · rw [hf] at HFI
    have HRF := Lib.hid (fun w5 (hb : Below W0.heap.size W0 w5) => refFind_any _ L key K w5 (HRV.out w5 hb) (by omega) HKS.out)
    rw [hrf] at HRF
    skip
    refine ⟨trivial, rfl, (callsIn_wide.2 HFI.out).mono ?_⟩
    rintro e w1 ⟨rfl, hb1⟩
    obtain ⟨x0, x1, x2, x3⟩ := HX.out _ hb1
    have c0 := cell_of_one x0
    have c1 := cell_of_one x1
    have c2 := cell_of_one x2
    have HB1 := Lib.hid hb1
    skip
    clear x0 x1 x2 x3 hf hrf hb1
    gi_wp2_with fail
    refine ⟨trivial, rfl, (callsIn_wide.2 (HRF.out _ HB1.out)).mono ?_⟩
    rintro e w' ⟨rfl, rfl⟩
    gi_wp2_with fail
    refine ⟨trivial, rfl, (callsIn_wide.2 (prefix_make (some ⟨b, 0, none⟩) key w1)).mono ?_⟩
    rintro e w4 ⟨rfl, hw4⟩
    have hb4 : Below w1.heap.size w1 w4 := by rw [← hw4]; exact ((Below.refl _ w1).alloc (Nat.le_refl _) _).alloc (by simp) _
    have hx1 : w4.heap[w1.heap.size]? = some (.cells #[.pointer (some ⟨b, 0, none⟩)] 31 (0, 0)) := by rw [← hw4, Below.heap_alloc _ _ _ (by simp)]; exact World.alloc_heap_new w1 _
    have hx2 : w4.heap[w1.heap.size + 1]? = some (.cells #[.string key] 9 (0, 0)) := by
      rw [← hw4]
      have := World.alloc_heap_new (w1.alloc (.cells #[.pointer (some ⟨b, 0, none⟩)] 31)) (.cells #[.string key] 9)
      rwa [World.size_alloc] at this
    have HB4 := Lib.hid (HB1.out.trans (hb4.mono HB1.out.size))
    obtain ⟨B1, hB1e⟩ : ∃ n, w1.heap.size = n := ⟨_, rfl⟩
    rw [hB1e] at hx1 hx2 ⊢
    have HX1 := Lib.hid hx1
    have HX2 := Lib.hid hx2
    clear hw4 hb4 hx1 hx2 hB1e c0 c1 c2 
    have hnil := seqW_nil2 (.pointer (some ⟨B1, 0, none⟩)) (.pointer (some ⟨B1 + 1, 0, none⟩))
    gi_wp2_with fail
    obtain ⟨M, hM⟩ : ∃ n, w4.heap.size = n := ⟨_, rfl⟩
    obtain ⟨W7, hW7⟩ : ∃ W7, w4.alloc (.cells #[.int .i64 0] 3) = W7 := ⟨_, rfl⟩
    have hb7 : Below w4.heap.size w4 W7 := by rw [← hW7]; exact (Below.refl _ w4).alloc (Nat.le_refl _) _
    have hs7 : W7.heap.size = M + 1 := by rw [← hW7, ← hM]; simp
    have hg7 : W7.heap[M]? = some (.cells #[.int .i64 0] 3 (0, 0)) := by rw [← hW7, ← hM]; exact World.alloc_heap_new w4 _
    rw [hW7, hM]
    have hl1 := lt_of_block HX1.out
    have hl2 := lt_of_block HX2.out
    have hz0 := HB4.out.size
    have hS := HS0.out
    have HB7 := Lib.hid (HB4.out.trans (hb7.mono hz0))
    have HX17 := Lib.hid ((hb7.block _ hl1).trans HX1.out)
    have HX27 := Lib.hid ((hb7.block _ hl2).trans HX2.out)
    have HT7 := Lib.hid (HRT.out _ HB7.out)
    have hlb := lt_of_block (HRT.out _ HB4.out).tab
    rw [hM] at hl1 hl2 hlb hz0
    clear hW7 hb7 HX1 HX2 
    have HXM := Lib.hid (fun w5 (hg : W7.grownBy w5 (some M)) => HX.out w5 (HB7.out.grown hg HB7.out.size (fun r e => by have := Option.some.inj e; omega)))
    have HRM := Lib.hid (fun w5 (hg : W7.grownBy w5 (some M)) => HRV.out w5 (HB7.out.grown hg HB7.out.size (fun r e => by have := Option.some.inj e; omega)))
    have HTK := Lib.hid (show ∀ pre x, pre ++ [x] <+: prefixW K L key → ∃ r, L[searchW K L key + pre.length]? = some r ∧ x = (searchW K L key + pre.length, r) ∧ pre.length < (tookW K L key).length from fun pre x h => prefix_next h)
    have hPL := prefix_len K L key
    have hVT := vt_le K L key
    have hseq := prefL_seqW (fr := fun _ => false) (q := fun j => j < W7.heap.size ∧ j ≠ M) key HT7.out ⟨⟨by omega, by omega⟩, ⟨by omega, by omega⟩, ⟨by omega, by omega⟩⟩ HX17.out HX27.out
    obtain ⟨V, hV⟩ : ∃ V, searchW K L key = V := ⟨_, rfl⟩
    obtain ⟨T, hT⟩ : ∃ T, (tookW K L key).length = T := ⟨_, rfl⟩
    obtain ⟨PR, hPR⟩ : ∃ PR, prefixW K L key = PR := ⟨_, rfl⟩
    rw [hV, hT] at HBI
    rw [hV, hT, hPR] at HTK
    rw [hPR] at hseq hPL
    rw [hT] at hPL
    rw [hV, hT] at hVT
    clear hV hT hPR
    refine rangeQ (gf := 33) (lb := #[.pointer (some ⟨B1, 0, none⟩), .pointer (some ⟨B1 + 1, 0, none⟩)]) rfl (Go.Proofs.enters_of Tryd.func33 (by kernel_rfl) rfl) hseq (fun _ h => by cases h) (fun j h => h.1) (fun _ => rfl)
      (StPW W7 M V) (fun _ _ _ => False)
      (fun s A B row hs hg hr => ⟨ownFrom_grownW (β := Unit) (Nat.le_refl _) () A B row hs.1 hg hr, ownFrom_block (β := Unit) (by omega) () A B row hs.2 hg hr⟩)
      (fun _ _ _ _ _ hs _ _ => hs.elim)
      ⟨grown_of_below (Below.refl _ _) |> grown_anyW, hg7⟩
      (fun y => { tmps := #[Value.pointer (some { block := b, off := 0 }), Value.slice ao L.length c, Value.string key, Value.int IntKind.i64 (K : Int), undef, Value.pointer (some { block := w.heap.size, off := 0 }), Value.pointer (some { block := w.heap.size + 1, off := 0 }), Value.pointer (some { block := w.heap.size + 1 + 1, off := 0 }), Value.pointer (some { block := w.heap.size + 1 + 1 + 1, off := 0 }), Value.string ⟨#[]⟩, Value.bool false, Value.int IntKind.i64 (-1), Value.func (.func 33) #[] #[Value.pointer (some { block := B1, off := 0 }), Value.pointer (some { block := B1 + 1, off := 0 })], Value.pointer (some { block := M, off := 0 }), Value.int IntKind.i64 (y.1 : Int), Value.string y.2, Value.tuple #[Value.string ⟨#[]⟩, Value.bool false], Value.pointer (some { block := b, off := 0 }), Value.string key, Value.tuple #[Value.string ⟨#[]⟩, Value.bool false], Value.string ⟨#[]⟩, Value.bool false, Value.slice ao L.length c, Value.string key, Value.int IntKind.i64 (K : Int), Value.int IntKind.i64 (-1), Value.bool false, Value.int IntKind.i64 (-1), Value.bool false, Value.bool false, Value.bool false, Value.bool false, Value.bool true, Value.bool true, Value.string ⟨#[]⟩, Value.bool false, Value.bool false, Value.bool false, Value.bool false, Value.bool false, Value.bool false, undef, undef, undef, undef, undef, undef, Value.bool false, Value.bool false, Value.pointer (some { block := b, off := 0 }), Value.string key, Value.func (.func 33) #[] #[Value.pointer (some { block := B1, off := 0 }), Value.pointer (some { block := B1 + 1, off := 0 })], Value.func (.func 33) #[] #[Value.pointer (some { block := B1, off := 0 }), Value.pointer (some { block := B1 + 1, off := 0 })], Value.bool false, Value.func (.func 33) #[] #[Value.pointer (some { block := B1, off := 0 }), Value.pointer (some { block := B1 + 1, off := 0 })], Value.int IntKind.i64 (y.1 : Int), Value.string y.2, undef, undef, undef, undef, undef, undef, undef, undef, undef, undef, undef, undef, undef, undef, undef, undef, undef, undef, undef, undef, undef, undef, undef, undef, undef, undef, undef, undef, undef, undef, undef, undef, undef, undef, undef, undef, undef, undef, undef, undef, undef, undef, undef, undef, undef, undef, undef, undef, undef, undef, undef, undef, undef, undef, undef, undef, undef], defers := [] })
      ?assign ?body ?done ?stop
    case assign =>
      intro l' y W3 K' hK
      gi_wp2
      exact hK
    case body =>
      rintro l' pre x W3 ⟨hgr, hgot⟩ hpre hsz3
      obtain ⟨r, hr, hx, hpT⟩ := HTK.out pre x hpre
      obtain ⟨q, hq⟩ : ∃ q, V + pre.length = q := ⟨_, rfl⟩
      rw [hq] at hr hx
      subst hx
      have HR := Lib.hid hr
      have hrl := (List.getElem?_eq_some_iff.1 hr).1
      have HG3 := Lib.hid hgr
      have HN3 := Lib.hid hgot
      have HNW := Lib.hid (show nW V (pre ++ [(q, r)]) = q + 1 by rw [nW_snoc, hq])
      have HN0 := Lib.hid (show nW V pre ≤ q ∧ (V = q ∨ nW V pre = q) by unfold nW; split <;> omega)
      have HVQ := Lib.hid (show V ≤ q ∧ q < V + T by omega)
      obtain ⟨n0, hn0⟩ : ∃ n, nW V pre = n := ⟨_, rfl⟩
      rw [hn0] at HN0 HN3
      clear hgr hgot hpre hr hn0 hq hpT
      gi_wp2_with fail
      gi_loopw [57] (fun _ wr => ∃ m : Nat, m ≤ q ∧ (V = q ∨ m = q) ∧ Hid (W7.grownBy wr (some M)) ∧ Hid (wr.heap[M]? = some (.cells #[.int .i64 (m : Int)] 3 (0, 0))) ∧ Hid (KeepQ (fun j => j < W7.heap.size ∧ j ≠ M) W7.heap.size (fun _ => false) W3 wr)) (fun _ wr => q + 1 - cellN wr M)
      case atStart => exact ⟨n0, HN0.out.1, HN0.out.2, HG3, HN3, Lib.hid (KeepQ.refl _ _ _ _)⟩
      case round =>
        obtain ⟨m, hm, hm2, HGr, HNr, HKr⟩ := hrel
        obtain ⟨x0, x1, x2, x3⟩ := HXM.out _ HGr.out
        have c0 := cell_of_one x0
        have c1 := cell_of_one x1
        have c2 := cell_of_one x2
        have c3 := cell_of_one HNr.out
        have f3 := free_of_one HNr.out
        clear x0 x1 x2 x3
        obtain ⟨y, hy⟩ : ∃ y, L[m]? = some y := ⟨_, List.getElem?_eq_getElem (by omega)⟩
        have hbi := HBI.out m y hy
        have y1 : (K : Int) ≤ (y.size : Int) := by have := HKS.out y (mem_of_at hy); omega
        have k0 : (0 : Int) ≤ (K : Int) := by omega
        have m0 : (0 : Int) ≤ (m : Int) := by omega
        have m1 : (m : Int) < (L.length : Int) := by omega
        have m3 : decide (m < L.length) = true := decide_eq_true (by omega)
        obtain ⟨ao', c', e', hc⟩ := HRM.out _ HGr.out
        injection e' with q1 q2 q3
        subst q1
        subst q3
        obtain ⟨g1, o1, hga, cy⟩ := hc m y hy
        cases hga
        clear hc
        rcases Nat.lt_or_ge m q with hmv | hmv
        · have hz : decide (V ≤ m ∧ m < V + T) = false := decide_eq_false (by have := HVQ.out; omega)
          rw [hz] at hbi
          have BG := Lib.hid (fun w5 => show Calls Tryd.prog 31 #[.string (y.extract 0 K), .string key] w5 fun e w' => e = .returned (.bool false) ∧ w' = w5 from (begins_any (keyW K y) key w5).mono fun e w' ⟨p1, p2⟩ => ⟨by rw [p1, hbi], p2.symm⟩)
          clear hbi hz hy
          gi_wp2_with fail
          refine wpIn_region_quiet_round (by kernel_rfl) (by kernel_rfl) (by kernel_rfl) ?_
          repeat (quiet_wide_step (exact ⟨rfl, CallsIn.quiet_of_same (callsIn_wide.2 (BG.out _))⟩))
          refine wpQuietIn_nil ?_
          rintro _ ⟨nq, rfl⟩
          gi_wp2_with fail
          go_roundw
          case rel => exact ⟨m + 1, by omega, by omega, Lib.hid (grown_setW (grown_drewN HGr.out nq) _), Lib.hid (one_setCell (w := wr.drewN nq) HNr.out), Lib.hid ((HKr.out.trans (KeepQ.of_below (A := wr) (below_drewN (Below.refl _ _) nq))).trans (KeepQ.setCell _ _ _ _ (p := ⟨M, 0, none⟩) _ (fun h => h.2 rfl) (by show M < W7.heap.size; omega)))⟩
          case measure =>
            have h2 : cellN ((wr.drewN nq).setCell ⟨M, 0, none⟩ (.int .i64 ((m : Int) + 1))) M = m + 1 := cellN_of (m := m + 1) (one_setCell (w := wr.drewN nq) HNr.out)
            rw [cellN_of HNr.out, h2]
            omega
        · obtain rfl : m = q := by omega
          have hz : decide (V ≤ m ∧ m < V + T) = true := decide_eq_true HVQ.out
          rw [hz] at hbi
          obtain rfl : r = y := by have := HR.out; rw [hy] at this; exact (Option.some.inj this).symm
          have BG := Lib.hid (fun w5 => show Calls Tryd.prog 31 #[.string (r.extract 0 K), .string key] w5 fun e w' => e = .returned (.bool true) ∧ w' = w5 from (begins_any (keyW K r) key w5).mono fun e w' ⟨p1, p2⟩ => ⟨by rw [p1, hbi], p2.symm⟩)
          have hrr : (r.toList == r.toList) = true := beq_self_eq_true _
          have hrr2 : (r.toList != r.toList) = false := by rw [bne, hrr]; rfl
          clear hbi hz hy
          gi_wp2_with fail
          refine wpIn_region_quiet_round (by kernel_rfl) (by kernel_rfl) (by kernel_rfl) ?_
          repeat (quiet_wide_step (exact ⟨rfl, CallsIn.quiet_of_same (callsIn_wide.2 (BG.out _))⟩))
          refine wpQuietIn_nil ?_
          rintro _ ⟨nq, rfl⟩
          gi_wp2_with fail
          exact ⟨(HKr.out.trans (KeepQ.of_below (A := wr) (below_drewN (Below.refl _ _) nq))).trans (KeepQ.setCell _ _ _ _ (p := ⟨M, 0, none⟩) _ (fun h => h.2 rfl) (by show M < W7.heap.size; omega)), grown_setW (grown_drewN HGr.out nq) _, by rw [HNW.out]; exact one_setCell (w := wr.drewN nq) HNr.out⟩
    case done =>
      rintro D ys W3 hD rfl ⟨hgr, hgot⟩ hK
      have hnL : nW V ys ≤ L.length := by unfold nW; split <;> omega
      have HNB := Lib.hid (show ∀ i r, nW V ys ≤ i → L[i]? = some r → startsW (keyW K r) key = false from fun i r hi hr => by
        rw [HBI.out i r hr, decide_eq_false_iff_not]
        unfold nW at hi
        split at hi <;> omega)
      have HG3 := Lib.hid hgr
      have HN3 := Lib.hid hgot
      have HD3 := Lib.hid hK
      have hS3 : w.heap.size + 1 + 1 + 1 < D := by omega
      obtain ⟨n0, hn0⟩ : ∃ n, nW V ys = n := ⟨_, rfl⟩
      rw [hn0] at HNB HN3 hnL
      clear hgr hgot hK hn0 hseq hPL
      gi_wp2_with fail
      gi_loopw [93] (fun _ wr => ∃ m : Nat, n0 ≤ m ∧ m ≤ L.length ∧ Hid (W7.grownBy wr (some M)) ∧ Hid (wr.heap[M]? = some (.cells #[.int .i64 (m : Int)] 3 (0, 0))) ∧ Hid (wr.heap[D]? = some (.deferred (some [])))) (fun _ wr => L.length + 1 - cellN wr M)
      case atStart => exact ⟨n0, Nat.le_refl _, hnL, HG3, HN3, HD3⟩
      case round =>
        obtain ⟨m, hm1, hm, HGr, HNr, HDr⟩ := hrel
        obtain ⟨x0, x1, x2, x3⟩ := HXM.out _ HGr.out
        have c0 := cell_of_one x0
        have c1 := cell_of_one x1
        have c2 := cell_of_one x2
        have c3 := cell_of_one HNr.out
        have f3 := free_of_one HNr.out
        have c4 := cell_of_one x3
        have f4 := free_of_one x3
        have HR3 := Lib.hid x3
        clear x0 x1 x2 x3
        have m0 : (0 : Int) ≤ (m : Int) := by omega
        rcases Nat.lt_or_ge m L.length with hmv | hmv
        · obtain ⟨y, hy⟩ : ∃ y, L[m]? = some y := ⟨_, List.getElem?_eq_getElem hmv⟩
          have hbi := HNB.out m y hm1 hy
          have y1 : (K : Int) ≤ (y.size : Int) := by have := HKS.out y (mem_of_at hy); omega
          have k0 : (0 : Int) ≤ (K : Int) := by omega
          have m4 : (m : Int) < (L.length : Int) := by omega
          have m3 : decide (m < L.length) = true := decide_eq_true hmv
          obtain ⟨ao', c', e', hc⟩ := HRM.out _ HGr.out
          injection e' with q1 q2 q3
          subst q1
          subst q3
          obtain ⟨g1, o1, hga, cy⟩ := hc m y hy
          cases hga
          have BG := Lib.hid (fun w5 => show Calls Tryd.prog 31 #[.string (y.extract 0 K), .string key] w5 fun e w' => e = .returned (.bool false) ∧ w' = w5 from (begins_any (keyW K y) key w5).mono fun e w' ⟨p1, p2⟩ => ⟨by rw [p1, hbi], p2.symm⟩)
          clear hc hbi hy
          gi_wp2_with fail
          refine wpIn_region_quiet_lit (by kernel_rfl) (by kernel_rfl) (by kernel_rfl) ?_
          repeat (quiet_wide_step (exact ⟨rfl, CallsIn.quiet_of_same (callsIn_wide.2 (BG.out _))⟩))
          refine wpQuietIn_nil ?_
          rintro _ ⟨nq, rfl⟩
          gi_wp2_with fail
          go_roundw
          case rel => exact ⟨m + 1, by omega, by omega, Lib.hid (grown_setW (grown_drewN HGr.out nq) _), Lib.hid (one_setCell (w := wr.drewN nq) HNr.out), Lib.hid ((Below.heap_setCell _ _ _ _ (by show D ≠ M; omega)).trans HDr.out)⟩
          case measure =>
            have h2 : cellN ((wr.drewN nq).setCell ⟨M, 0, none⟩ (.int .i64 ((m : Int) + 1))) M = m + 1 := cellN_of (m := m + 1) (one_setCell (w := wr.drewN nq) HNr.out)
            rw [cellN_of HNr.out, h2]
            omega
        · obtain rfl : m = L.length := by omega
          have m3 : decide (L.length < L.length) = false := decide_eq_false (by omega)
          have m5 : ((L.length : Int) == (L.length : Int)) = true := beq_self_eq_true _
          gi_wp2_with fail
          refine wpIn_region_quiet_lit (by kernel_rfl) (by kernel_rfl) (by kernel_rfl) ?_
          repeat (quiet_wide_step (fail))
          refine wpQuietIn_nil ?_
          rintro _ ⟨nq, rfl⟩
          gi_wp2_with fail
          have hBg := HB7.out.grown (grown_drewN HGr.out nq) HB7.out.size (fun r e => by have := Option.some.inj e; omega)
          exact findsW_end (D := D) (one_setCell (w := wr.drewN nq) HR3.out) ((Below.heap_setCell _ _ _ _ (by show D ≠ w.heap.size + 1 + 1 + 1; omega)).trans HDr.out) hS3 ((HB0.out.trans (hBg.mono HB0.out.size)).setCell (p := ⟨w.heap.size + 1 + 1 + 1, 0, none⟩) (by show w.heap.size ≤ w.heap.size + 1 + 1 + 1; omega) _) rfl rfl
    case stop =>
      rintro D c' pre W3 hD hpre h hK
      exact h.elim
end Go.Proofs.YtbkbnkpgldemkaaDoor
