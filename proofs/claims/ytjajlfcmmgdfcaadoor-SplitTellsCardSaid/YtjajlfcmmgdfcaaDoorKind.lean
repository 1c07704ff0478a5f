/-
  Package fault: Kind and Has of an error whose row is known.
-/
import Derived.Test.YtjajlfcmmgdfcaaDoorFaults
import Derived.OneCell
namespace Go.Proofs.YtjajlfcmmgdfcaaDoor
open Go Go.RowKit

attribute [local go_sem] Oper.semAt_some

def kindOf : List El → Int
  | [] => 1
  | .num k :: _ => k
  | .fault _ _ _ :: r => kindOf r
/-- The value of an error with a row is nil, or of a type. -/
theorem Chain.shape {W : World} {n : Nat} {v : Value} {xs : List El} (h : Chain W n v xs) : (v = .nilIface ∧ xs = []) ∨ ∃ t u, v = .iface t u := by
  cases xs with
  | nil => exact .inl ⟨h, rfl⟩
  | cons x r => cases x <;> exact .inr ⟨_, _, h.head⟩

def KiI (w : World) (B : Nat) (pre : List El) (W : World) : Prop :=
  (∀ rest, kindOf (pre ++ rest) = kindOf rest) ∧ W.heap[B]? = some (.cells #[.int .i64 0] 37 (0, 0)) ∧ Below w.heap.size w W ∧ TypeLaid W
def KiX (w : World) (B : Nat) (c : Code) (pre : List El) (W : World) : Prop :=
  c = .ret ∧ (∃ k, (∀ rest, kindOf (pre ++ rest) = k) ∧ W.heap[B]? = some (.cells #[.int .i64 k] 37 (0, 0))) ∧ Below w.heap.size w W

theorem kind_nil (w : World) :
    Calls Tryd.prog 19 #[.nilIface] w fun e w' => e = .returned (.int .i64 0) ∧ Below w.heap.size w w' := by
  refine callsIn_wide (n := 0) |>.1 ?_
  refine callsIn_of_wp_marks Tryd.func19 rfl trivial ?_ rfl
  simp only [Tryd.ntmps19, List.size_toArray, List.length_cons, List.length_nil, Nat.reduceAdd, Nat.reduceSub, Array.replicate_succ, Array.replicate_zero, List.push_toArray, List.append_toArray, List.nil_append, List.cons_append]
  gi_wp2
  refine ⟨_, by simp [results, Tryd.results19, go_sem], rfl, ?_⟩
  exact (Below.refl _ w).alloc (Nat.le_refl _) _

set_option maxRecDepth 100000 in
set_option maxHeartbeats 2000000 in
theorem kind_chain {n₀ : Nat} {t : TypeId} {u : Value} {xs : List El} (w : World) (hlen : xs.length < 1048576) (hn₀ : n₀ ≤ w.heap.size) (hL : Chain w n₀ (.iface t u) xs) (hg : TypeLaid w) :
    Calls Tryd.prog 19 #[.iface t u] w fun e w' => e = .returned (.int .i64 (kindOf xs)) ∧ Below w.heap.size w w' := by
  refine callsIn_wide (n := 0) |>.1 ?_
  refine callsIn_of_wp_marks Tryd.func19 rfl trivial ?_ rfl
  simp only [Tryd.ntmps19, List.size_toArray, List.length_cons, List.length_nil, Nat.reduceAdd, Nat.reduceSub, Array.replicate_succ, Array.replicate_zero, List.push_toArray, List.append_toArray, List.nil_append, List.cons_append]
  have HL := Lib.hid hL
  have HG := Lib.hid hg
  clear hL hg
  gi_wp2_with fail
  refine ⟨trivial, rfl, (callsIn_wide.2 (row_make t u _)).mono ?_⟩
  rintro e w' ⟨rfl, rfl⟩
  gi_wp2_with fail
  have hbox : ((w.alloc (.cells #[.int .i64 0] 37)).alloc (.cells #[.iface t u] 35)).heap[w.heap.size]? = some (.cells #[.int .i64 0] 37 (0, 0)) := by
    rw [Below.heap_alloc _ _ _ (by simp)]; exact World.alloc_heap_new w _
  have hbox2 : ((w.alloc (.cells #[.int .i64 0] 37)).alloc (.cells #[.iface t u] 35)).cell? ⟨w.heap.size + 1, 0, none⟩ = some (.iface t u) := by
    rw [World.cell?_alloc_at _ _ _ _ (by simp)]; rfl
  have hb2 : Below w.heap.size w ((w.alloc (.cells #[.int .i64 0] 37)).alloc (.cells #[.iface t u] 35)) := ((Below.refl _ w).alloc (Nat.le_refl _) _).alloc (by simp) _
  have hs2 : ((w.alloc (.cells #[.int .i64 0] 37)).alloc (.cells #[.iface t u] 35)).heap.size = w.heap.size + 2 := by simp
  generalize ((w.alloc (.cells #[.int .i64 0] 37)).alloc (.cells #[.iface t u] 35)) = W2 at *
  have hL2 : Chain W2 n₀ (.iface t u) xs := HL.out.below hb2 hn₀
  have hg2 : TypeLaid W2 := HG.out.below hb2 HG.out.size
  have hseq := row_seq (fr := fun _ => false) (w := W2) hlen (by omega) hbox2 hL2
  refine rangeZ (gf := 42) (lb := #[.pointer (some ⟨w.heap.size + 1, 0, none⟩)]) rfl (Go.Proofs.enters_of Tryd.func42 (by kernel_rfl) rfl) hseq (fun _ h => by cases h) (by omega) (fun _ => rfl)
    (KiI w w.heap.size) (KiX w w.heap.size)
    (fun s A B row hs hg hr => ⟨hs.1, ownFrom_block (β := Unit) (by omega) () A B row hs.2.1 hg hr, ownFrom_below (β := Unit) (n₀ := w.heap.size) (Nat.le_refl _) (by omega) () A B row hs.2.2.1 hg hr, ownFrom_cell (β := Unit) (B := W2.heap.size) () A B row hs.2.2.2 hg hr⟩)
    (fun c s A B row hs hg hr => by
      obtain ⟨h1, ⟨k, h2, h3⟩, h4⟩ := hs
      exact ⟨h1, ⟨k, h2, ownFrom_block (β := Unit) (by omega) () A B row h3 hg hr⟩, ownFrom_below (β := Unit) (n₀ := w.heap.size) (Nat.le_refl _) (by omega) () A B row h4 hg hr⟩)
    ⟨fun _ => rfl, hbox, hb2, hg2⟩
    (fun x => { tmps := #[.iface t u, undef, .pointer (some ⟨w.heap.size, 0, none⟩), x.val, undef, undef, .iface t u, .bool false, .iface t u, .func (.func 42) #[] #[.pointer (some ⟨w.heap.size + 1, 0, none⟩)], x.val, undef, undef, undef, undef, undef, undef, undef], defers := [] })
    ?assign ?body ?done ?stop
  case assign =>
    intro l' x W3 K hK
    gi_wp2
    exact hK
  case body =>
    rintro l' pre x W3 ⟨hk3, hb3, hB3, hg3⟩ hpre hsz3
    have hKi := Lib.hid hk3
    have hOne := Lib.hid hb3
    have hLt := lt_of_block hb3
    clear hk3 hb3
    cases x with
    | num k =>
      simp only [El.val]
      gi_wp2_with fail
      refine ⟨trivial, rfl, CallsIn.mono (callsIn_wide.2 (asErrno_errno k W3 hg3)) ?_⟩
      rintro e W4 ⟨rfl, hb4⟩
      have hO4 : W4.heap[w.heap.size]? = some (.cells #[.int .i64 0] 37 (0, 0)) := (hb4.block _ hLt).trans hOne.out
      have hc4 := cell_of_one hO4
      have hf4 := free_of_one hO4
      have HO4 := Lib.hid hO4
      clear hO4
      gi_wp2
      refine ⟨?_, rfl, ⟨k, fun rest => by rw [List.append_assoc, hKi.out]; rfl, one_setCell HO4.out⟩, ?_⟩
      · exact (Keep.of_below hb4).trans (Keep.setCell _ _ _ _ (p := ⟨w.heap.size, 0, none⟩) _ hn₀ (by show w.heap.size < W2.heap.size; omega))
      · exact (hB3.trans (hb4.mono (by omega))).setCell (p := ⟨w.heap.size, 0, none⟩) (Nat.le_refl _) _
    | fault b p s =>
      simp only [El.val]
      gi_wp2_with fail
      refine ⟨trivial, rfl, CallsIn.mono (callsIn_wide.2 (asErrno_shell _ _ (alone_fault _) (shell_as_fault _) W3 hg3)) ?_⟩
      rintro e W4 ⟨rfl, hb4⟩
      gi_wp2
      exact ⟨Keep.of_below hb4, fun rest => by rw [List.append_assoc, hKi.out]; rfl, (hb4.block _ hLt).trans hOne.out, hB3.trans (hb4.mono (by omega)), hg3.below hb4 hg3.size⟩
  case done =>
    rintro D ys W3 hD rfl ⟨hk3, hb3, hB3, hg3⟩ hK
    have hc3 := cell_of_one hb3
    have hf3 := free_of_one hb3
    have hkx : kindOf ys = 1 := by have := hk3 []; simpa [kindOf] using this
    have HO := Lib.hid hb3
    have HK := Lib.hid hkx
    clear hb3 hkx hk3
    gi_wp2
    have hK' : (W3.setCell ⟨w.heap.size, 0, none⟩ (.int .i64 1)).heap[D]? = some (.deferred (some [])) := (Below.heap_setCell _ _ _ _ (by show D ≠ w.heap.size; omega)).trans hK
    refine ⟨by simp, .inl ⟨_, _, rfl, run_takeDeferred hK', ?_⟩⟩
    have hO4 : ((W3.setCell ⟨w.heap.size, 0, none⟩ (.int .i64 1)).putObj D (.deferred none)).heap[w.heap.size]? = some (.cells #[.int .i64 1] 37 (0, 0)) := (World.putObj_heap_other (by omega)).trans (one_setCell HO.out)
    refine ⟨.int .i64 1, by simp [results, Tryd.results19, go_sem, cell_of_one hO4], by rw [HK.out], ?_⟩
    exact (hB3.setCell (p := ⟨w.heap.size, 0, none⟩) (Nat.le_refl _) _).trans (belowK_b (w := w) (Nat.le_refl _) _ D _ _ (by omega) hK' rfl rfl)
  case stop =>
    rintro D c pre W3 hD hpre ⟨rfl, ⟨k, hk3, hb3⟩, hB3⟩ hK
    have hkx : kindOf xs = k := by obtain ⟨r, rfl⟩ := hpre; exact hk3 r
    have HO := Lib.hid hb3
    have HK := Lib.hid hkx
    clear hb3 hkx hk3
    gi_wp2
    refine ⟨by simp, .inl ⟨_, _, rfl, run_takeDeferred hK, ?_⟩⟩
    have hO4 : (W3.putObj D (.deferred none)).heap[w.heap.size]? = some (.cells #[.int .i64 k] 37 (0, 0)) := (World.putObj_heap_other (by omega)).trans HO.out
    refine ⟨.int .i64 k, by simp [results, Tryd.results19, go_sem, cell_of_one hO4], by rw [HK.out], ?_⟩
    exact hB3.trans (belowK_b (w := w) (Nat.le_refl _) _ D _ _ (by omega) hK rfl rfl)
end Go.Proofs.YtjajlfcmmgdfcaaDoor
