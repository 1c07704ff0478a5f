/-
  Package split: Split.
-/
import Derived.Test.YtdgeaelblebaoaaDEach
import Derived.Test.YtdgeaelblebaoaaWhats
namespace Go.Proofs.Ytdgeaelblebaoaa
open Go Go.RowKit

attribute [local go_sem] Oper.semAt_some

def strs (l : List ByteArray) : List Value := l.map Value.string
theorem strs_length (l : List ByteArray) : (strs l).length = l.length := List.length_map ..

/-- The blocks that a round leaves alone: those below a call's start, and the iterator's own box. -/
def qOf (n b : Nat) (k : Nat) : Prop := k < n ∨ k = b

def SpI (w : World) (pre : List (Nat × ByteArray)) (W : World) : Prop :=
  ∃ v, W.heap[w.heap.size]? = some (.cells #[v] 26 (0, 0)) ∧ W.ownsRow (w.heap.size + 2) 9 1 v pre.length (strs (pre.map (·.2))) ∧ Below w.heap.size w W ∧ w.heap.size + 2 ≤ W.heap.size

theorem sp_app {hi : Nat} {w W3 w1 : World} {j : Nat} {v v' s : Value} {xs ys : List Value}
    (hR : W3.heap[w.heap.size]? = some (.cells #[v] 26 (0, 0))) (hown : W3.ownsRow (w.heap.size + 2) 9 1 v j xs) (hB : Below w.heap.size w W3) (hsz : w.heap.size + 2 ≤ W3.heap.size)
    (hown1 : w1.ownsRow (w.heap.size + 2) 9 1 v' (j + 1) ys) (hgrow : (W3.alloc (.cells #[s] 9)).grownBy w1 v.ownBlock) :
    ∃ g' cap', v' = .slice (some ⟨g', 0, none⟩) (j + 1) cap' ∧ w.heap.size + 2 ≤ g' ∧ w1.cell? ⟨w.heap.size, 0, none⟩ = some v ∧ w1.frozen? ⟨w.heap.size, 0, none⟩ = false ∧ KeepQ (qOf w.heap.size (w.heap.size + 1)) hi frS W3 w1 ∧
      Hid (Below w.heap.size w w1 ∧ w.heap.size + 2 ≤ w1.heap.size ∧ w1.heap[w.heap.size]? = some (.cells #[v] 26 (0, 0))) := by
  have hgs := hgrow.size
  have hsd : (W3.alloc (.cells #[s] 9)).heap.size = W3.heap.size + 1 := by simp
  have hne : ∀ r, v.ownBlock = some r → w.heap.size + 2 ≤ r := fun r e => (hown.lt r e).1
  have hblk : ∀ k, k < W3.heap.size → (W3.alloc (.cells #[s] 9)).heap[k]? = W3.heap[k]? := fun k hk => Below.heap_alloc W3 _ k hk
  have hR1' : w1.heap[w.heap.size]? = some (.cells #[v] 26 (0, 0)) := (hgrow.block _ (by omega) (fun e => by have := hne _ e.symm; omega)).trans ((hblk _ (by omega)).trans hR)
  have hB1 : Below w.heap.size w w1 := (hB.alloc hB.size _).grown hgrow (by omega) (fun r e => by have := hne r e; omega)
  obtain ⟨g', cap', rfl⟩ := ownsRow_succ hown1
  refine ⟨g', cap', rfl, (hown1.lt g' rfl).1, cell_of_one hR1', free_of_one hR1', ?_, hB1, by omega, hR1'⟩
  refine (KeepQ.of_below (A := W3) ((Below.refl _ W3).alloc (Nat.le_refl _) _)).trans (KeepQ.grown hgrow (fun r e => ?_))
  have hr := hne r e
  refine ⟨fun h => by unfold qOf at h; omega, .inr ?_⟩
  rcases hown.2 with ⟨rfl, _⟩ | ⟨g, cap, cur, rfl, _, hb, _⟩
  · cases e
  · cases e
    exact ⟨_, (hblk g (Array.getElem?_eq_some_iff.1 hb).1).trans hb, by simp [frS]⟩

set_option maxRecDepth 100000 in
set_option maxHeartbeats 8000000 in
theorem split_any (s : ByteArray) (w : World) (hs : s.size ≤ 1048576) :
    Calls Try.prog 44 #[.string s] w fun e w' => ∃ u, e = .returned u ∧ w'.ownsRow (w.heap.size + 2) 9 1 u (splS s).length (strs (splS s)) ∧ Below w.heap.size w w' := by
  obtain ⟨i0, hi, hz0, hz1, hz2⟩ := info_parts stringInfo
  refine callsIn_wide (n := 0) |>.1 ?_
  refine callsIn_of_wp_marks Try.func44 rfl trivial ?_ rfl
  simp only [Try.ntmps44, List.size_toArray, List.length_cons, List.length_nil, Nat.reduceAdd, Nat.reduceSub, Array.replicate_succ, Array.replicate_zero, List.push_toArray, List.append_toArray, List.nil_append, List.cons_append]
  gi_wp2_with fail
  refine ⟨trivial, rfl, (callsIn_wide.2 (each_make s _)).mono ?_⟩
  rintro e w' ⟨rfl, rfl⟩
  gi_wp2_with fail
  have hbox : ((w.alloc (.cells #[.slice none 0 0] 26)).alloc (.cells #[.string s] 9)).heap[w.heap.size]? = some (.cells #[.slice none 0 0] 26 (0, 0)) := by
    rw [Below.heap_alloc _ _ _ (by simp)]; exact World.alloc_heap_new w _
  have hbox2 : ((w.alloc (.cells #[.slice none 0 0] 26)).alloc (.cells #[.string s] 9)).heap[w.heap.size + 1]? = some (.cells #[.string s] 9 (0, 0)) := by
    have := World.alloc_heap_new (w.alloc (.cells #[.slice none 0 0] 26)) (.cells #[.string s] 9)
    rwa [World.size_alloc] at this
  have hb2 : Below w.heap.size w ((w.alloc (.cells #[.slice none 0 0] 26)).alloc (.cells #[.string s] 9)) := ((Below.refl _ w).alloc (Nat.le_refl _) _).alloc (by simp) _
  have hs2 : ((w.alloc (.cells #[.slice none 0 0] 26)).alloc (.cells #[.string s] 9)).heap.size = w.heap.size + 2 := by simp
  generalize ((w.alloc (.cells #[.slice none 0 0] 26)).alloc (.cells #[.string s] 9)) = W2 at *
  have hseq := each_seq (fr := frS) (w := W2) (q := qOf w.heap.size (w.heap.size + 1)) (by omega) (.inr rfl) hbox2
  refine rangeQ (gf := 84) (lb := #[.pointer (some ⟨w.heap.size + 1, 0, none⟩)]) rfl (Go.Proofs.enters_of Try.func84 (by kernel_rfl) rfl) hseq frS_cells (fun k h => by unfold qOf at h; omega) (fun _ => rfl)
    (SpI w) (fun _ _ _ => False)
    (fun s A B row hs hg hr => by
      obtain ⟨u, h1, h2, h3, h4⟩ := hs
      exact ⟨u, ownFrom_block (β := Unit) (by omega) () A B row h1 hg hr, ownFrom_row (β := Unit) (B := W2.heap.size) () A B row h2 hg hr, ownFrom_below (β := Unit) (n₀ := w.heap.size) (Nat.le_refl _) (by omega) () A B row h3 hg hr, Nat.le_trans h4 hg.size⟩)
    (fun _ _ _ _ _ hs _ _ => hs.elim)
    ⟨_, hbox, World.ownsRow_nil _ _ _ _, hb2, by omega⟩
    (fun x => { tmps := #[.string s, undef, .slice none 0 0, .pointer (some ⟨w.heap.size, 0, none⟩), undef, .string x.2, .string s, .func (.func 84) #[] #[.pointer (some ⟨w.heap.size + 1, 0, none⟩)], .int .i64 x.1, .string x.2, undef, undef, undef, undef, undef], defers := [] })
    ?assign ?body ?done ?stop
  case assign =>
    intro l' x W3 K hK
    gi_wp2
    exact hK
  case body =>
    rintro l' pre ⟨a, p⟩ W3 ⟨u0, hb3, ho3, hB3, hsz3'⟩ hpre hsz3
    have hpl : pre.length ≤ 1048577 := by
      have h1 := hpre.length_le
      have h2 := pieces_length s
      have h3 := splS_le s
      simp at h1; omega
    have hbd1 : pre.length + 1 ≤ maxLen := by unfold maxLen; omega
    have hbd2 : (pre.length + 1) * 16 ≤ 140737488355328 := by omega
    have hc3 := cell_of_one hb3
    have hf3 := free_of_one hb3
    have hnews : ∀ j u, [Value.string p][j]? = some u → (W3.alloc (.cells #[.string p] 9)).cell? ((⟨W3.heap.size, 0, none⟩ : Addr).add j) = some u := cell_one_new W3 (.string p) 9
    have HN := Lib.hid hnews
    have HO := Lib.hid ho3
    have HOD := Lib.hid (ho3.alloc (.cells #[.string p] 9))
    have hOne := Lib.hid hb3
    clear hb3 ho3 hnews
    gi_wp2_with (gi_at_builtin; refine wpListIn_append_own _ rfl _ _ 26 rfl (w.heap.size + 2) 9 i0 (.string ByteArray.empty) 1 16 Try.underlying26 hi hz0 hz1 hz2 rfl (by decide) _ _ _ rfl HOD.out ⟨W3.heap.size, 0, none⟩ 1 1 [.string p] rfl rfl HN.out (by intro u hu; simp at hu; subst hu; rfl) hbd1 hbd2 (by show _ ≤ (W3.alloc _).heap.size; simp; omega) ?_; intro v' w1 hown1 hgrow _; obtain ⟨g', cap', rfl, hg', hc1, hf1, hkeep, HREST⟩ := sp_app (hi := w.heap.size + 2) hOne.out HO.out hB3 hsz3' hown1 hgrow; have HO1 := Lib.hid hown1; clear hown1 hgrow)
    obtain ⟨hB1, hs1, hq1⟩ := HREST.out
    exact ⟨(hkeep.trans (KeepQ.setCell _ _ _ _ (p := ⟨w.heap.size, 0, none⟩) _ (by unfold qOf; show ¬ (w.heap.size < w.heap.size ∨ w.heap.size = w.heap.size + 1); omega) (by show w.heap.size < w.heap.size + 2; omega))), _, one_setCell hq1, by unfold strs; rw [List.map_append, List.map_append, List.length_append]; exact ownsRow_setCell_other HO1.out (by simp [Value.ownBlock]; omega) _, hB1.setCell (p := ⟨w.heap.size, 0, none⟩) (Nat.le_refl _) _, by simpa [World.setCell] using hs1⟩
  case done =>
    rintro D ys W3 hD rfl ⟨u0, hb3, ho3, hB3, hsz3'⟩ hK
    have hc3 := cell_of_one hb3
    have hf3 := free_of_one hb3
    rw [pieces_length, pieces_map] at ho3
    have HO := Lib.hid ho3
    have hsh := owns_shape0 ho3
    clear hb3 ho3
    rcases hsh with rfl | ⟨g, gc, rfl⟩
    · gi_wp2
      refine ⟨by simp, .inl ⟨_, _, rfl, run_takeDeferred hK, ?_⟩⟩
      have hfin := ownFrom_row (β := Unit) (B := 0) () W3 _ (some D) HO.out (grownBy_putObj' W3 D (.deferred none)) (fun r e => by cases e; exact ⟨Nat.zero_le _, _, hK, rfl⟩)
      refine ⟨_, results_tmp rfl _ _ _, .slice none 0 0, rfl, hfin, ?_⟩
      exact hB3.trans (belowK_b (w := w) (Nat.le_refl _) _ D _ _ (by omega) hK rfl rfl)
    · gi_wp2
      refine ⟨by simp, .inl ⟨_, _, rfl, run_takeDeferred hK, ?_⟩⟩
      have hfin := ownFrom_row (β := Unit) (B := 0) () W3 _ (some D) HO.out (grownBy_putObj' W3 D (.deferred none)) (fun r e => by cases e; exact ⟨Nat.zero_le _, _, hK, rfl⟩)
      refine ⟨_, results_tmp rfl _ _ _, .slice (some ⟨g, 0, none⟩) (splS s).length gc, rfl, hfin, ?_⟩
      exact hB3.trans (belowK_b (w := w) (Nat.le_refl _) _ D _ _ (by omega) hK rfl rfl)
  case stop =>
    rintro D c pre W3 hD hpre h hK
    exact h.elim
end Go.Proofs.Ytdgeaelblebaoaa
