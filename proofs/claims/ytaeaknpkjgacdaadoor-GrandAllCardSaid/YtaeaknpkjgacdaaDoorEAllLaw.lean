/-
  GrandAll: it returns true.
-/
import Derived.Test.YtaeaknpkjgacdaaDoorEKit
namespace Go.Proofs.YtaeaknpkjgacdaaDoor
open Go Go.RowKit

attribute [local go_sem] Oper.semAt_some

theorem all_nil (w : World) : (binOp .eql 35 (.func (.func 26) #[] #[]) .nilFunc).run Tryd.prog w = .ok (.bool false) w := by kernel_rfl

/-- The tag told last. -/
def lastG (k : Nat) : ByteArray := match k with
  | 0 => ⟨#[]⟩
  | j + 1 => nameG j
theorem lastG_cmp (k : Nat) (hk : k < 26) : cmpS (nameG k) (lastG k) = 1 := by
  cases k with
  | zero => decide +kernel
  | succ j =>
    have := name_lt j (j + 1) hk (by omega)
    have h2 := cmpS_swap (nameG j) (nameG (j + 1))
    show cmpS (nameG (j + 1)) (nameG j) = 1
    omega
theorem lastG_size (k : Nat) (hk : k < 26) : (lastG k).size ≤ 11 := by
  cases k with
  | zero => decide
  | succ j => exact (name_size j (by omega)).2

/-- What the first range's rounds keep. -/
def AlI (w1 : World) (N : Nat) (pre : List (Nat × ByteArray)) (W : World) : Prop :=
  Below N w1 W ∧ W.heap[N]? = some (.cells #[.int .i64 (pre.length : Int)] 3 (0, 0)) ∧ W.heap[N + 1]? = some (.cells #[.string (lastG pre.length)] 9 (0, 0))
/-- What the second range's rounds keep: the count. -/
def AcI (w1 : World) (N k : Nat) (pre : List (Nat × ByteArray)) (W : World) : Prop :=
  Below N w1 W ∧ W.heap[N]? = some (.cells #[.int .i64 (pre.length : Int)] 3 (0, 0)) ∧ pre.length ≤ k
def AcX (w1 : World) (N k : Nat) (c : Code) (pre : List (Nat × ByteArray)) (W : World) : Prop :=
  c = .exit 2 ∧ Below N w1 W ∧ W.heap[N]? = some (.cells #[.int .i64 (k : Int)] 3 (0, 0)) ∧ k + 1 = pre.length

theorem all_after {w W : World} {N K : Nat} {a b c u : Value} (hN : w.heap.size < N) (hK : w.heap.size < K) (hB : Below w.heap.size w W) (h1 : W.cell? ⟨N, 0, none⟩ = some a) (h2 : W.cell? ⟨K, 0, none⟩ = some b) (h3 : W.cell? ⟨K + 1, 0, none⟩ = some c) :
    Below w.heap.size w (W.setCell ⟨w.heap.size, 0, none⟩ u) ∧ (W.setCell ⟨w.heap.size, 0, none⟩ u).cell? ⟨N, 0, none⟩ = some a ∧ (W.setCell ⟨w.heap.size, 0, none⟩ u).cell? ⟨K, 0, none⟩ = some b ∧ (W.setCell ⟨w.heap.size, 0, none⟩ u).cell? ⟨K + 1, 0, none⟩ = some c := by
  have ne : ∀ (k o : Nat), w.heap.size < k → (W.setCell ⟨w.heap.size, 0, none⟩ u).cell? ⟨k, o, none⟩ = W.cell? ⟨k, o, none⟩ := fun k o h => World.cell?_of_block (a := ⟨k, o, none⟩) (Below.heap_setCell _ _ _ _ (by show k ≠ w.heap.size; omega))
  exact ⟨hB.setCell (p := ⟨w.heap.size, 0, none⟩) (Nat.le_refl _) _, (ne _ _ hN).trans h1, (ne _ _ hK).trans h2, (ne _ _ (by omega)).trans h3⟩

theorem all_end {w W4 : World} {D D2 : Nat} {a : Act} (hr : W4.heap[w.heap.size]? = some (.cells #[.bool false] 4 (0, 0))) (h2 : W4.heap[D2]? = some (.deferred (some []))) (h1 : W4.heap[D]? = some (.deferred (some [])))
    (hd : D < D2) (hw1 : w.heap.size < D) (hw2 : w.heap.size < D2) (hB : Below w.heap.size w W4) (ha : a.defers = [{ target := .collected D2, args := #[] }, { target := .collected D, args := #[] }]) (ht : a.tmps.getD 2 undef = .pointer (some ⟨w.heap.size, 0, none⟩)) :
    bodyPostM Fence.wide 0 Tryd.prog Tryd.f5 (fun e w' => e = .returned (.bool true) ∧ Below w.heap.size w w') .ret a (W4.setCell ⟨w.heap.size, 0, none⟩ (.bool true)) := by
  have k2 : (W4.setCell ⟨w.heap.size, 0, none⟩ (.bool true)).heap[D2]? = some (.deferred (some [])) := (Below.heap_setCell _ _ _ _ (by show D2 ≠ w.heap.size; omega)).trans h2
  have k1 : ((W4.setCell ⟨w.heap.size, 0, none⟩ (.bool true)).putObj D2 (.deferred none)).heap[D]? = some (.deferred (some [])) := (World.putObj_heap_other (by omega)).trans ((Below.heap_setCell _ _ _ _ (by show D ≠ w.heap.size; omega)).trans h1)
  have kr : (((W4.setCell ⟨w.heap.size, 0, none⟩ (.bool true)).putObj D2 (.deferred none)).putObj D (.deferred none)).heap[w.heap.size]? = some (.cells #[.bool true] 4 (0, 0)) :=
    (World.putObj_heap_other (by omega)).trans ((World.putObj_heap_other (by omega)).trans (one_setCell hr))
  have hB5 := (hB.setCell (p := ⟨w.heap.size, 0, none⟩) (Nat.le_refl _) (.bool true))
  obtain ⟨tmps, defers⟩ := a
  dsimp only at ha ht
  subst ha
  rw [Array.getD_eq_getD_getElem?] at ht
  refine ⟨by simp, .inl ⟨_, _, rfl, run_takeDeferred k2, ?_⟩⟩
  refine ⟨by simp, .inl ⟨_, _, rfl, run_takeDeferred k1, ?_⟩⟩
  refine ⟨.bool true, by simp [results, Tryd.results5, go_sem, ht, cell_of_one kr], rfl, ?_⟩
  have b1 := hB5.trans (belowK_b (w := w) (Nat.le_refl _) _ D2 _ (.deferred none) (by omega) k2 rfl rfl)
  exact b1.trans (belowK_b (w := w) (Nat.le_refl _) _ D _ _ (by omega) k1 rfl rfl)

set_option maxRecDepth 100000 in
set_option maxHeartbeats 16000000 in
theorem all_law (many : Int) (w : World) (_hm : (Lit.int .i64 many).wf = true) (hg : GL w) :
    Calls Tryd.prog 5 #[.int .i64 many] w fun e w' => e = .returned (.bool true) ∧ Below w.heap.size w w' := by
  have hgs := hg.size
  obtain ⟨k, hk⟩ : ∃ k, restV many 30 = k := ⟨_, rfl⟩
  have hk30 : k < 30 := hk ▸ restV_lt many 30 (by omega)
  have RS := Lib.hid (fun w5 => show Calls Tryd.prog 11 #[.int .i64 many, .int .i64 30] w5 fun e w' => e = .returned (.int .i64 (k : Int)) ∧ w5 = w' by
    have := rest5_any many 30 w5 (by omega) (by omega)
    rwa [hk] at this)
  have HG := Lib.hid hg
  have hnil := all_nil
  clear hg hk
  refine callsIn_wide (n := 0) |>.1 ?_
  refine callsIn_of_wp_marks Tryd.func5 rfl trivial ?_ rfl
  simp only [Tryd.ntmps5, List.size_toArray, List.length_cons, List.length_nil, Nat.reduceAdd, Nat.reduceSub, Array.replicate_succ, Array.replicate_zero, List.push_toArray, List.append_toArray, List.nil_append, List.cons_append]
  gi_wp2_with fail
  obtain ⟨W0, hW0⟩ : ∃ W0, w.alloc (.cells #[.bool false] 4) = W0 := ⟨_, rfl⟩
  have hr0 : W0.heap[w.heap.size]? = some (.cells #[.bool false] 4 (0, 0)) := by rw [← hW0]; exact World.alloc_heap_new w _
  have hb0 : Below w.heap.size w W0 := by rw [← hW0]; exact (Below.refl _ w).alloc (Nat.le_refl _) _
  have hz0 : w.heap.size + 1 ≤ W0.heap.size := by rw [← hW0]; simp
  rw [hW0]
  clear hW0
  refine ⟨trivial, rfl, CallsIn.mono (callsIn_wide.2 (awake5_any W0 (HG.out.below hb0 hgs))) ?_⟩
  rintro e w1 ⟨rfl, hb1⟩
  have hr1 := (hb1.block _ (by omega)).trans hr0
  have hB1 := hb0.trans (hb1.mono hb0.size)
  have hz1 := Nat.le_trans hz0 hb1.size
  clear hr0 hb0 hz0 hb1
  have HR1 := Lib.hid hr1
  have HB1 := Lib.hid hB1
  clear hr1 hB1
  gi_wp2_with fail
  refine ⟨trivial, rfl, CallsIn.mono (callsIn_wide.2 (all_make w1)) ?_⟩
  rintro e w' ⟨rfl, rfl⟩
  obtain ⟨N, hN⟩ : ∃ N, w1.heap.size = N := ⟨_, rfl⟩
  gi_wp2_with fail
  obtain ⟨W7, hW7⟩ : ∃ W7, ((w1.alloc (.cells #[.int .i64 0] 3)).alloc (.cells #[.string ({ data := #[] } : ByteArray)] 9)) = W7 := ⟨_, rfl⟩
  have hs7 : W7.heap.size = N + 1 + 1 := by rw [← hW7]; simp [hN]
  have hb7 : Below N w1 W7 := by rw [← hW7]; exact ((Below.refl _ w1).alloc (by omega) _).alloc (by simp; omega) _
  have hn7 : W7.heap[N]? = some (.cells #[.int .i64 0] 3 (0, 0)) := by
    rw [← hW7, Below.heap_alloc _ _ _ (by simp; omega), ← hN]; exact World.alloc_heap_new w1 _
  have hm7 : W7.heap[N + 1]? = some (.cells #[.string ({ data := #[] } : ByteArray)] 9 (0, 0)) := by
    rw [← hW7, ← hN]
    have := World.alloc_heap_new (w1.alloc (.cells #[.int .i64 0] 3)) (.cells #[.string ({ data := #[] } : ByteArray)] 9)
    rwa [World.size_alloc] at this
  rw [hW7]
  clear hW7
  have hg1 : GL w1 := HG.out.below HB1.out hgs
  have hg0N : 0 < N := by omega
  have HG1 := Lib.hid (fun W (h : Below N w1 W) => hg1.below h hg0N)
  have hseq := all_seq (fr := fun _ => false) (q := fun j => j < N) (HG1.out W7 hb7)
  clear hg1
  refine rangeQ (gf := 26) (lb := #[]) rfl (Go.Proofs.enters_of Tryd.func26 (by kernel_rfl) rfl) hseq (fun _ h => by cases h) (fun j h => by omega) (fun _ => rfl)
    (AlI w1 N) (fun _ _ _ => False)
    (fun s A B row hs hg hr => ⟨ownFrom_below (β := Unit) (by omega) (by omega) () A B row hs.1 hg hr, ownFrom_block (β := Unit) (by omega) () A B row hs.2.1 hg hr, ownFrom_block (β := Unit) (by omega) () A B row hs.2.2 hg hr⟩)
    (fun _ _ _ _ _ hs _ _ => hs.elim)
    ⟨hb7, hn7, hm7⟩
    (fun y => { tmps := #[.int .i64 many, undef, .pointer (some ⟨w.heap.size, 0, none⟩), .bool true, .func (.func 26) #[] #[], .pointer (some ⟨N, 0, none⟩), .pointer (some ⟨N + 1, 0, none⟩), .int .i64 y.1, .string y.2, undef, undef, undef, undef, .bool true, .func (.func 26) #[] #[], .func (.func 26) #[] #[], .bool false, .func (.func 26) #[] #[], .int .i64 y.1, .string y.2, undef, undef, undef, undef, undef, undef, undef, undef, undef, undef, undef, undef, undef, undef, undef, undef, undef, undef, undef, undef, undef, undef, undef, undef, undef, undef, undef, undef, undef, undef, undef, undef, undef, undef, undef, undef, undef, undef, undef, undef, undef, undef, undef, undef, undef, undef, undef, undef, undef], defers := [] })
    ?assign ?body ?done ?stop
  case assign =>
    intro l' y W3 K hK
    gi_wp2
    exact hK
  case stop =>
    rintro D c pre W3 hD hpre h hK
    exact h.elim
  case body =>
    rintro l' pre x W3 ⟨hbl, hn3, hm3⟩ hpre hsz3
    obtain ⟨hj, rfl⟩ := prefix_gAll hpre
    have HE := Lib.hid (show ∀ y : Nat × ByteArray, ((pre ++ [y]).length : Int) = (pre.length : Int) + 1 from fun y => by simp)
    have HE2 := Lib.hid (show ∀ y : Nat × ByteArray, lastG (pre ++ [y]).length = nameG pre.length from fun y => by rw [List.length_append]; rfl)
    obtain ⟨j, hjl⟩ : ∃ j, pre.length = j := ⟨_, rfl⟩
    rw [hjl] at hj hn3 hm3 HE HE2
    have NA := Lib.hid ((name_any j W3 (HG1.out _ hbl)).mono (R' := fun e w6 => e = .returned (.tuple #[.string (nameG j), .bool true]) ∧ Below W3.heap.size W3 w6) fun e w6 ⟨p, q⟩ => ⟨by rw [p, nameV_in j hj], q⟩)
    have CM := Lib.hid (fun w5 => (compare_ref (nameG j) (lastG j) w5 (by have := (name_size j hj).2; omega) (by have := lastG_size j hj; omega)).mono (R' := fun e w6 => e = .returned (.int .i64 1) ∧ Below w5.heap.size w5 w6) fun e w6 ⟨p, q⟩ => ⟨by rw [p, lastG_cmp j hj], q⟩)
    have HBL := Lib.hid hbl
    have HN3 := Lib.hid hn3
    have HM3 := Lib.hid hm3
    have hl1 := lt_of_block hm3
    have hj0 : (0 : Int) ≤ (j : Int) := by omega
    have hj1 : (j : Int) ≤ 25 := by omega
    obtain ⟨nm, hnm⟩ : ∃ t, nameG j = t := ⟨_, rfl⟩
    obtain ⟨lt, hlt⟩ : ∃ t, lastG j = t := ⟨_, rfl⟩
    rw [hnm] at NA CM HE2
    rw [hlt] at CM HM3
    clear hbl hn3 hm3 hpre hseq
    dsimp only
    rw [hjl, hnm]
    clear hjl
    gi_wp2_with fail
    refine ⟨trivial, rfl, CallsIn.mono (callsIn_wide.2 NA.out) ?_⟩
    rintro e w5 ⟨rfl, hb5⟩
    have hn5 := (hb5.block N (by omega)).trans HN3.out
    have hm5 := (hb5.block (N + 1) hl1).trans HM3.out
    have c0 := cell_of_one hn5
    have c1 := cell_of_one hm5
    have hl5 := lt_of_block hm5
    have HN5 := Lib.hid hn5
    have HM5 := Lib.hid hm5
    clear hn5 hm5
    gi_wp2_with fail
    refine ⟨trivial, rfl, CallsIn.mono (callsIn_wide.2 (CM.out w5)) ?_⟩
    rintro e w6 ⟨rfl, hb6⟩
    have hn6 := (hb6.block N (by omega)).trans HN5.out
    have hm6 := (hb6.block (N + 1) hl5).trans HM5.out
    have d0 := cell_of_one hn6
    have g0 := free_of_one hn6
    have d1 := cell_of_one hm6
    have g1 := free_of_one hm6
    have HN6 := Lib.hid hn6
    have HM6 := Lib.hid hm6
    clear hn6 hm6
    gi_wp2_with fail
    have hb36 := hb5.trans (hb6.mono hb5.size)
    have hB6 : Below N w1 w6 := HBL.out.trans (hb36.mono (by omega))
    have hz6 : W7.heap.size ≤ w6.heap.size := Nat.le_trans hsz3 hb36.size
    refine ⟨((KeepQ.of_below hb36).trans (KeepQ.setCell _ _ _ _ (p := ⟨N + 1, 0, none⟩) _ (fun h => by have : N + 1 < N := h; omega) (by show N + 1 < W7.heap.size; omega))).trans (KeepQ.setCell _ _ _ _ (p := ⟨N, 0, none⟩) _ (fun h => by have : N < N := h; omega) (by show N < W7.heap.size; omega)),
      (hB6.setCell (p := ⟨N + 1, 0, none⟩) (by show N ≤ N + 1; omega) _).setCell (p := ⟨N, 0, none⟩) (Nat.le_refl _) _, ?_, ?_⟩
    · rw [HE.out]
      exact one_setCell ((Below.heap_setCell _ _ _ _ (by show N ≠ N + 1; omega)).trans HN6.out)
    · rw [HE2.out]
      exact (Below.heap_setCell _ _ _ _ (by show N + 1 ≠ N; omega)).trans (one_setCell HM6.out)
  case done =>
    rintro D ys W3 hD rfl ⟨hbl, hn3, _⟩ hK
    rw [gAll_len] at hn3
    have hDl := lt_of_block hK
    have hNl := lt_of_block hn3
    have HBL := Lib.hid hbl
    have HN3 := Lib.hid hn3
    have HD3 := Lib.hid hK
    clear hbl hn3 hK hseq
    gi_wp2_with fail
    refine ⟨trivial, rfl, CallsIn.mono (callsIn_wide.2 (RS.out _)) ?_⟩
    rintro e w' ⟨rfl, rfl⟩
    obtain ⟨K, hKe⟩ : ∃ K, W3.heap.size = K := ⟨_, rfl⟩
    gi_wp2_with fail
    obtain ⟨W8, hW8⟩ : ∃ W8, ((W3.alloc (.cells #[.int .i64 (k : Int)] 3)).alloc (.cells #[.int .i64 0] 3)) = W8 := ⟨_, rfl⟩
    have hs8 : W8.heap.size = K + 1 + 1 := by rw [← hW8]; simp [hKe]
    have hb8 : Below K W3 W8 := by rw [← hW8]; exact ((Below.refl _ W3).alloc (by omega) _).alloc (by simp; omega) _
    have hk8 : W8.heap[K]? = some (.cells #[.int .i64 (k : Int)] 3 (0, 0)) := by
      rw [← hW8, Below.heap_alloc _ _ _ (by simp; omega), ← hKe]; exact World.alloc_heap_new W3 _
    have hc8 : W8.heap[K + 1]? = some (.cells #[.int .i64 0] 3 (0, 0)) := by
      rw [← hW8, ← hKe]
      have := World.alloc_heap_new (W3.alloc (.cells #[.int .i64 (k : Int)] 3)) (.cells #[.int .i64 0] 3)
      rwa [World.size_alloc] at this
    rw [hW8]
    clear hW8
    rw [hKe] at hDl hNl
    have hb8' : Below (K + 1) W8 W8 := Below.refl _ _
    have HR8 := Lib.hid ((hb8.block w.heap.size (by omega)).trans ((HBL.out.block w.heap.size (by omega)).trans HR1.out))
    have HN8 := Lib.hid ((hb8.block N hNl).trans HN3.out)
    have HD8 := Lib.hid ((hb8.block D hDl).trans HD3.out)
    have HK8 := Lib.hid hk8
    have hB8 : Below w.heap.size w W8 := HB1.out.trans ((HBL.out.trans (hb8.mono (by omega))).mono (by omega))
    have HB8 := Lib.hid hB8
    have hg8 : GL W8 := HG1.out W8 (HBL.out.trans (hb8.mono (by omega)))
    have hseq2 := all_seq (fr := fun _ => false) (q := fun j => j < K + 1) hg8
    clear hk8 hB8 hg8 hb8 HBL HN3 HD3
    refine rangeQ (gf := 26) (lb := #[]) rfl (Go.Proofs.enters_of Tryd.func26 (by kernel_rfl) rfl) hseq2 (fun _ h => by cases h) (fun j h => by omega) (fun _ => rfl)
      (AcI W8 (K + 1) k) (AcX W8 (K + 1) k)
      (fun s A B row hs hg hr => ⟨ownFrom_below (β := Unit) (by omega) (by omega) () A B row hs.1 hg hr, ownFrom_block (β := Unit) (by omega) () A B row hs.2.1 hg hr, hs.2.2⟩)
      (fun c s A B row hs hg hr => ⟨hs.1, ownFrom_below (β := Unit) (by omega) (by omega) () A B row hs.2.1 hg hr, ownFrom_block (β := Unit) (by omega) () A B row hs.2.2.1 hg hr, hs.2.2.2⟩)
      ⟨hb8', hc8, Nat.zero_le _⟩
      (fun y => { tmps := #[.int .i64 many, undef, .pointer (some ⟨w.heap.size, 0, none⟩), .bool true, .func (.func 26) #[] #[], .pointer (some ⟨N, 0, none⟩), .pointer (some ⟨N + 1, 0, none⟩), undef, undef, undef, undef, .pointer (some ⟨K, 0, none⟩), .pointer (some ⟨K + 1, 0, none⟩), .bool true, .func (.func 26) #[] #[], .func (.func 26) #[] #[], .bool false, .func (.func 26) #[] #[], undef, undef, undef, undef, undef, undef, undef, undef, undef, undef, undef, undef, undef, undef, undef, undef, undef, undef, undef, undef, undef, undef, undef, undef, undef, undef, undef, undef, .int .i64 many, .int .i64 k, .func (.func 26) #[] #[], .int .i64 y.1, .string y.2, undef, undef, undef, undef, undef, undef, undef, undef, undef, undef, undef, undef, undef, undef, undef, undef, undef, undef], defers := [] })
      ?assign2 ?body2 ?done2 ?stop2
    case assign2 =>
      intro l' y W4 Kk hKk
      gi_wp2
      exact hKk
    case body2 =>
      rintro l' pre x W4 ⟨hbl4, hcnt, hpk⟩ hpre hsz4
      obtain ⟨hj, rfl⟩ := prefix_gAll hpre
      have c0 := cell_of_one ((hbl4.block K (by omega)).trans HK8.out)
      have c1 := cell_of_one hcnt
      have f1 := free_of_one hcnt
      have HBL4 := Lib.hid hbl4
      have HCNT := Lib.hid hcnt
      have hp0 : (0 : Int) ≤ (pre.length : Int) := by omega
      have hp1 : (pre.length : Int) ≤ 25 := by omega
      have HE := Lib.hid (show ((pre ++ [(pre.length, nameG pre.length)]).length : Int) = (pre.length : Int) + 1 by simp)
      have HE2 := Lib.hid (show (pre ++ [(pre.length, nameG pre.length)]).length = pre.length + 1 by simp)
      clear hbl4 hcnt hpre
      rcases Nat.lt_or_ge pre.length k with hlt | hge
      · have hne : ((pre.length : Int) == (k : Int)) = false := by rw [beq_eq_false_iff_ne]; omega
        gi_wp2
        exact ⟨KeepQ.setCell _ _ _ _ (p := ⟨K + 1, 0, none⟩) _ (fun h => by have : K + 1 < K + 1 := h; omega) (by show K + 1 < W8.heap.size; omega), HBL4.out.setCell (p := ⟨K + 1, 0, none⟩) (Nat.le_refl _) _, by rw [HE.out]; exact one_setCell HCNT.out, by rw [HE2.out]; omega⟩
      · obtain rfl : pre.length = k := by omega
        gi_wp2
        exact ⟨KeepQ.refl _ _ _ _, rfl, HBL4.out, HCNT.out, HE2.out.symm⟩
    case' done2 =>
      rintro D2 ys W4 hD2 rfl ⟨hbl4, hcnt, hpk⟩ hK2
      rw [gAll_len] at hcnt hpk
      obtain ⟨z, hz⟩ : ∃ z : Int, ((26 : Nat) : Int) = z := ⟨_, rfl⟩
      rw [hz] at hcnt
      have hzk : (z = (k : Int) ∧ (k : Int) ≤ 26) ∨ (z = 26 ∧ 26 < (k : Int)) := by omega
      clear hz hpk hseq2
    case' stop2 =>
      rintro D2 c pre W4 hD2 hpre ⟨rfl, hbl4, hcnt, hpk⟩ hK2
      have hl := hpre.length_le
      rw [gAll_len] at hl
      obtain ⟨z, hz⟩ : ∃ z : Int, (k : Int) = z := ⟨_, rfl⟩
      rw [hz] at hcnt
      have hzk : (z = (k : Int) ∧ (k : Int) ≤ 26) ∨ (z = 26 ∧ 26 < (k : Int)) := by omega
      clear hz hpk hseq2 hl hpre
    all_goals
      have hr4 := (hbl4.block w.heap.size (by omega)).trans HR8.out
      have hn4 : W4.heap[N]? = some (.cells #[.int .i64 26] 3 (0, 0)) := (hbl4.block N (by omega)).trans HN8.out
      have hk4 := (hbl4.block K (by omega)).trans HK8.out
      have hd4 := (hbl4.block D (by omega)).trans HD8.out
      have hB4 := HB8.out.trans (hbl4.mono (by omega))
      have c1 := cell_of_one hn4
      have c2 := cell_of_one hk4
      have c3 := cell_of_one hcnt
      have hr9 := cell_of_one hr4
      have hf9 := free_of_one hr4
      have HR4 := Lib.hid hr4
      have HD4 := Lib.hid hd4
      have HK2 := Lib.hid hK2
      clear hr4 hn4 hk4 hd4 hcnt hK2 hbl4
      gi_wp2_with fail
      refine wpIn_wide.2 ?_
      have e1 : W4.drew.cell? ⟨N, 0, none⟩ = some (.int .i64 26) := c1
      have e2 : W4.drew.cell? ⟨K, 0, none⟩ = some (.int .i64 (k : Int)) := c2
      have e3 : W4.drew.cell? ⟨K + 1, 0, none⟩ = some (.int .i64 z) := c3
      have e4 : W4.drew.cell? ⟨w.heap.size, 0, none⟩ = some (.bool false) := hr9
      have e5 : W4.drew.frozen? ⟨w.heap.size, 0, none⟩ = false := hf9
      have hBd := Below.drew hB4
      have hwN : w.heap.size < N := by omega
      have hwK : w.heap.size < K := by omega
      clear c1 c2 c3 hr9 hf9
      rcases hzk with ⟨rfl, hk26⟩ | ⟨rfl, hk26⟩
      · go_region_held3 (fun w' => Below w.heap.size w w' ∧ w'.cell? ⟨N, 0, none⟩ = some (.int .i64 26) ∧ w'.cell? ⟨K, 0, none⟩ = some (.int .i64 (k : Int)) ∧ w'.cell? ⟨K + 1, 0, none⟩ = some (.int .i64 (k : Int)))
          (first | exact ⟨by assumption, by assumption, by assumption, by assumption⟩ | exact all_after hwN hwK (by assumption) (by assumption) (by assumption) (by assumption))
          (first | (go_at_call 18; (with_reducible refine (len_any _).mono ?_); rintro e w5 ⟨rfl, rfl⟩))
        go_wp2
        gi_wp2_with fail
        exact all_end (W4 := W4.drew) HR4.out HK2.out HD4.out (by omega) (by omega) (by omega) hBd rfl rfl
      · go_region_held3 (fun w' => Below w.heap.size w w' ∧ w'.cell? ⟨N, 0, none⟩ = some (.int .i64 26) ∧ w'.cell? ⟨K, 0, none⟩ = some (.int .i64 (k : Int)) ∧ w'.cell? ⟨K + 1, 0, none⟩ = some (.int .i64 26))
          (first | exact ⟨by assumption, by assumption, by assumption, by assumption⟩ | exact all_after hwN hwK (by assumption) (by assumption) (by assumption) (by assumption))
          (first | (go_at_call 18; (with_reducible refine (len_any _).mono ?_); rintro e w5 ⟨rfl, rfl⟩))
        go_wp2
        gi_wp2_with fail
        exact all_end (W4 := W4.drew) HR4.out HK2.out HD4.out (by omega) (by omega) (by omega) hBd rfl rfl
end Go.Proofs.YtaeaknpkjgacdaaDoor
