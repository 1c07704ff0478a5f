/-
  Package fault: Total of an error whose row is known.
-/
import Derived.Test.YtbpihlndojnlcaaDoorPlace
namespace Go.Proofs.YtbpihlndojnlcaaDoor
open Go Go.RowKit

attribute [local go_sem] Oper.semAt_some

def totalOf (l : List (Nat × Int × ByteArray)) : Int := l.foldl (fun a x => IntKind.i64.wrap (a + x.2.1)) 0
theorem totalOf_snoc (l : List (Nat × Int × ByteArray)) (x : Nat × Int × ByteArray) : totalOf (l ++ [x]) = IntKind.i64.wrap (totalOf l + x.2.1) := by simp [totalOf]

def ToI (w : World) (pre : List (Nat × Int × ByteArray)) (W : World) : Prop :=
  W.heap[w.heap.size]? = some (.cells #[.int .i64 (totalOf pre)] 3 (0, 0)) ∧ Below w.heap.size w W

set_option maxRecDepth 100000 in
set_option maxHeartbeats 2000000 in
theorem total_chain {n₀ : Nat} {v : Value} {xs : List El} (w : World) (hlen : xs.length < 1048576) (hn₀ : n₀ ≤ w.heap.size) (hL : Chain w n₀ v xs) :
    Calls Tryd.prog 15 #[v] w fun e w' => e = .returned (.int .i64 (totalOf (fsOf xs))) ∧ Below w.heap.size w w' := by
  have HR := Lib.hid (fun w => faults_make_any hL w)
  refine callsIn_wide (n := 0) |>.1 ?_
  refine callsIn_of_wp_marks Tryd.func15 rfl trivial ?_ rfl
  simp only [Tryd.ntmps15, List.size_toArray, List.length_cons, List.length_nil, Nat.reduceAdd, Nat.reduceSub, Array.replicate_succ, Array.replicate_zero, List.push_toArray, List.append_toArray, List.nil_append, List.cons_append]
  have HL := Lib.hid hL
  clear hL
  gi_wp2_with fail
  refine ⟨trivial, rfl, (callsIn_wide.2 (HR.out _)).mono ?_⟩
  rintro e w' ⟨rfl, rfl⟩
  gi_wp2_with fail
  have hbox : ((w.alloc (.cells #[.int .i64 0] 3)).alloc (.cells #[v] 29)).heap[w.heap.size]? = some (.cells #[.int .i64 0] 3 (0, 0)) := by
    rw [Below.heap_alloc _ _ _ (by simp)]; exact World.alloc_heap_new w _
  have hbox2 : ((w.alloc (.cells #[.int .i64 0] 3)).alloc (.cells #[v] 29)).cell? ⟨w.heap.size + 1, 0, none⟩ = some v := by
    rw [World.cell?_alloc_at _ _ _ _ (by simp)]; rfl
  have hb2 : Below w.heap.size w ((w.alloc (.cells #[.int .i64 0] 3)).alloc (.cells #[v] 29)) := ((Below.refl _ w).alloc (Nat.le_refl _) _).alloc (by simp) _
  have hs2 : ((w.alloc (.cells #[.int .i64 0] 3)).alloc (.cells #[v] 29)).heap.size = w.heap.size + 2 := by simp

  generalize ((w.alloc (.cells #[.int .i64 0] 3)).alloc (.cells #[v] 29)) = W2 at *
  have hL2 : Chain W2 n₀ v xs := HL.out.below hb2 hn₀
  have hseq := faults_seq (fr := fun _ => false) (fun _ h => by cases h) (fun _ _ => rfl) (w := W2) hlen (by omega) hbox2 hL2
  refine rangeZ (gf := 32) (lb := #[.pointer (some ⟨w.heap.size + 1, 0, none⟩)]) rfl (Go.Proofs.enters_of Tryd.func32 (by kernel_rfl) rfl) hseq (fun _ h => by cases h) (by omega) (fun _ => rfl)
    (ToI w) (fun _ _ _ => False)
    (fun s A B row hs hg hr => ⟨ownFrom_block (β := Unit) (by omega) () A B row hs.1 hg hr, ownFrom_below (β := Unit) (n₀ := w.heap.size) (Nat.le_refl _) (by omega) () A B row hs.2 hg hr⟩)
    (fun _ _ _ _ _ hs _ _ => hs.elim)
    ⟨hbox, hb2⟩
    (fun x => { tmps := #[v, undef, .int .i64 0, .pointer (some ⟨w.heap.size, 0, none⟩), .pointer (some ⟨x.1, 0, none⟩), v, .func (.func 32) #[] #[.pointer (some ⟨w.heap.size + 1, 0, none⟩)], .pointer (some ⟨x.1, 0, none⟩), undef, undef, undef, undef, undef, undef, undef], defers := [] })
    ?assign ?body ?done ?stop
  case assign =>
    intro l' x W3 K hK
    gi_wp2
    exact hK
  case body =>
    rintro l' pre ⟨b, p, s⟩ W3 ⟨hb3, hB3⟩ hpre hsz3
    obtain ⟨hbn, u, hfo⟩ := hL2.fault_mem (b, p, s) (hpre.subset (by simp))
    have hfo3 : W3.heap[b]? = some (faultObj p s u) := by
      obtain ⟨_, u', hfo'⟩ := HL.out.fault_mem (b, p, s) (hpre.subset (by simp))
      have e1 := (hb2.block b (by dsimp at hbn; omega)).symm.trans hfo
      exact (hB3.block b (by dsimp at hbn; omega)).trans e1
    obtain ⟨hp0, hp1, hp2⟩ := faultObj_cell hfo3
    have hc3 := cell_of_one hb3
    have hf3 := free_of_one hb3
    have hOne := Lib.hid hb3
    have hLt := lt_of_block hb3
    clear hb3 hfo hfo3 hp1 hp2
    obtain ⟨S, hS⟩ : ∃ S, totalOf pre = S := ⟨_, rfl⟩
    rw [hS] at hc3 
    have HS := Lib.hid hS
    clear hS
    gi_wp2
    gi_region
    all_goals gi_wp2
    all_goals exact ⟨(Keep.setCell _ _ _ W3 (p := ⟨w.heap.size, 0, none⟩) _ hn₀ (by show w.heap.size < _; omega)).trans (Keep.drew _ _ _ _), by rw [totalOf_snoc, HS.out]; exact one_setCell (u := .int .i64 (IntKind.i64.wrap (S + p))) hOne.out, (hB3.setCell (p := ⟨w.heap.size, 0, none⟩) (Nat.le_refl _) _).drew⟩
  case done =>
    rintro D ys W3 hD rfl ⟨hb3, hB3⟩ hK
    have hc3 := cell_of_one hb3
    have hf3 := free_of_one hb3
    clear hb3
    gi_wp2
    refine ⟨by simp, .inl ⟨_, _, rfl, run_takeDeferred hK, ?_⟩⟩
    refine ⟨_, results_tmp rfl _ _ _, rfl, ?_⟩
    exact hB3.trans (belowK_b (w := w) (Nat.le_refl _) _ D _ _ (by omega) hK rfl rfl)
  case stop =>
    rintro D c pre W3 hD hpre h hK
    exact h.elim
end Go.Proofs.YtbpihlndojnlcaaDoor
