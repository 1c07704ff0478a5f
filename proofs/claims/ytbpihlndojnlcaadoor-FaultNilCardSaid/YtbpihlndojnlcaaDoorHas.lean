/-
  Package fault: Has of an error whose row is known.
-/
import Derived.Test.YtbpihlndojnlcaaDoorKind
namespace Go.Proofs.YtbpihlndojnlcaaDoor
open Go Go.RowKit

attribute [local go_sem] Oper.semAt_some

def hasOf (k : Int) : List El → Bool
  | [] => false
  | .num j :: r => decide (j = k) || hasOf k r
  | .fault _ _ _ :: r => hasOf k r
  | .strange _ :: r => hasOf k r

def HaI (w : World) (k : Int) (pre : List El) (W : World) : Prop :=
  (∀ rest, hasOf k (pre ++ rest) = hasOf k rest) ∧ W.heap[w.heap.size]? = some (.cells #[.int .i64 k] 24 (0, 0)) ∧ W.heap[w.heap.size + 1]? = some (.cells #[.bool false] 4 (0, 0)) ∧ Below w.heap.size w W
def HaX (w : World) (k : Int) (c : Code) (pre : List El) (W : World) : Prop :=
  c = .ret ∧ (∀ rest, hasOf k (pre ++ rest) = true) ∧ W.heap[w.heap.size + 1]? = some (.cells #[.bool true] 4 (0, 0)) ∧ Below w.heap.size w W

set_option maxRecDepth 100000 in
set_option maxHeartbeats 2000000 in
theorem has_chain {n₀ : Nat} {v : Value} {xs : List El} (k : Int) (w : World) (hlen : xs.length < 1048576) (hn₀ : n₀ ≤ w.heap.size) (hL : Chain w n₀ v xs) :
    Calls Tryd.prog 18 #[v, .int .i64 k] w fun e w' => e = .returned (.bool (hasOf k xs)) ∧ Below w.heap.size w w' := by
  have hrow : ∀ w, Calls Tryd.prog 25 #[v] w fun e w' => e = .returned (.func (.func 33) #[] #[.pointer (some ⟨w.heap.size, 0, none⟩)]) ∧ w.alloc (.cells #[v] 29) = w' := by
    rcases hL.shape with ⟨rfl, _⟩ | ⟨t, u, rfl⟩
    · exact row_make_nil
    · exact row_make t u
  refine callsIn_wide (n := 0) |>.1 ?_
  refine callsIn_of_wp_marks Tryd.func18 rfl trivial ?_ rfl
  simp only [Tryd.ntmps18, List.size_toArray, List.length_cons, List.length_nil, Nat.reduceAdd, Nat.reduceSub, Array.replicate_succ, Array.replicate_zero, List.push_toArray, List.append_toArray, List.nil_append, List.cons_append]
  have HL := Lib.hid hL
  have HR := Lib.hid hrow
  clear hL hrow
  gi_wp2_with fail
  refine ⟨trivial, rfl, (callsIn_wide.2 (HR.out _)).mono ?_⟩
  rintro e w' ⟨rfl, rfl⟩
  gi_wp2_with fail
  have hbox : (((w.alloc (.cells #[.int .i64 k] 24)).alloc (.cells #[.bool false] 4)).alloc (.cells #[v] 29)).heap[w.heap.size]? = some (.cells #[.int .i64 k] 24 (0, 0)) := by
    rw [Below.heap_alloc _ _ _ (by simp; omega), Below.heap_alloc _ _ _ (by simp)]; exact World.alloc_heap_new w _
  have hbox1 : (((w.alloc (.cells #[.int .i64 k] 24)).alloc (.cells #[.bool false] 4)).alloc (.cells #[v] 29)).heap[w.heap.size + 1]? = some (.cells #[.bool false] 4 (0, 0)) := by
    rw [Below.heap_alloc _ _ _ (by simp)]; have := World.alloc_heap_new (w.alloc (.cells #[.int .i64 k] 24)) (.cells #[.bool false] 4 (0, 0)); rwa [World.size_alloc] at this
  have hbox2 : (((w.alloc (.cells #[.int .i64 k] 24)).alloc (.cells #[.bool false] 4)).alloc (.cells #[v] 29)).cell? ⟨w.heap.size + 1 + 1, 0, none⟩ = some v := by
    rw [World.cell?_alloc_at _ _ _ _ (by simp)]; rfl
  have hb2 : Below w.heap.size w (((w.alloc (.cells #[.int .i64 k] 24)).alloc (.cells #[.bool false] 4)).alloc (.cells #[v] 29)) := (((Below.refl _ w).alloc (Nat.le_refl _) _).alloc (by simp) _).alloc (by simp; omega) _
  have hs2 : (((w.alloc (.cells #[.int .i64 k] 24)).alloc (.cells #[.bool false] 4)).alloc (.cells #[v] 29)).heap.size = w.heap.size + 3 := by simp
  generalize (((w.alloc (.cells #[.int .i64 k] 24)).alloc (.cells #[.bool false] 4)).alloc (.cells #[v] 29)) = W2 at *
  have hL2 : Chain W2 n₀ v xs := HL.out.below hb2 hn₀
  have hseq := row_seq (fr := fun _ => false) (w := W2) hlen (by omega) hbox2 hL2
  refine rangeZ (gf := 33) (lb := #[.pointer (some ⟨w.heap.size + 1 + 1, 0, none⟩)]) rfl (Go.Proofs.enters_of Tryd.func33 (by kernel_rfl) rfl) hseq (fun _ h => by cases h) (by omega) (fun _ => rfl)
    (HaI w k) (HaX w k)
    (fun s A B row hs hg hr => ⟨hs.1, ownFrom_block (β := Unit) (by omega) () A B row hs.2.1 hg hr, ownFrom_block (β := Unit) (by omega) () A B row hs.2.2.1 hg hr, ownFrom_below (β := Unit) (n₀ := w.heap.size) (Nat.le_refl _) (by omega) () A B row hs.2.2.2 hg hr⟩)
    (fun c s A B row hs hg hr => ⟨hs.1, hs.2.1, ownFrom_block (β := Unit) (by omega) () A B row hs.2.2.1 hg hr, ownFrom_below (β := Unit) (n₀ := w.heap.size) (Nat.le_refl _) (by omega) () A B row hs.2.2.2 hg hr⟩)
    ⟨fun _ => rfl, hbox, hbox1, hb2⟩
    (fun x => { tmps := #[v, .int .i64 k, undef, .pointer (some ⟨w.heap.size, 0, none⟩), .pointer (some ⟨w.heap.size + 1, 0, none⟩), x.val, v, .func (.func 33) #[] #[.pointer (some ⟨w.heap.size + 1 + 1, 0, none⟩)], x.val, undef, undef, undef], defers := [] })
    ?assign ?body ?done ?stop
  case assign =>
    intro l' x W3 K hK
    gi_wp2
    exact hK
  case body =>
    rintro l' pre x W3 ⟨hk3, hb3, hr3, hB3⟩ hpre hsz3
    have hKi := Lib.hid hk3
    have hOne := Lib.hid hb3
    have hTwo := Lib.hid hr3
    have hLt := lt_of_block hb3
    have hLt2 := lt_of_block hr3
    have hc3 := cell_of_one hb3
    clear hk3 hb3 hr3
    cases x with
    | num j =>
      simp only [El.val]
      gi_wp2_with fail
      refine ⟨trivial, rfl, CallsIn.mono (callsIn_wide.2 (isErrno_errno j k W3)) ?_⟩
      by_cases hjk : j = k
      · rw [show decide (j = k) = true by simp [hjk]]
        rintro e W4 ⟨rfl, hb4⟩
        have hO4 : W4.heap[w.heap.size + 1]? = some (.cells #[.bool false] 4 (0, 0)) := (hb4.block _ hLt2).trans hTwo.out
        have hc4 := cell_of_one hO4
        have hf4 := free_of_one hO4
        have HO4 := Lib.hid hO4
        have HJ := Lib.hid hjk
        clear hO4 hjk
        gi_wp2
        refine ⟨?_, rfl, fun rest => by rw [List.append_assoc, hKi.out]; simp [hasOf, HJ.out], one_setCell HO4.out, ?_⟩
        · exact (Keep.of_below hb4).trans (Keep.setCell _ _ _ _ (p := ⟨w.heap.size + 1, 0, none⟩) _ (by show n₀ ≤ w.heap.size + 1; omega) (by show w.heap.size + 1 < W2.heap.size; omega))
        · exact (hB3.trans (hb4.mono (by omega))).setCell (p := ⟨w.heap.size + 1, 0, none⟩) (by show w.heap.size ≤ w.heap.size + 1; omega) _
      · rw [show decide (j = k) = false by simp [hjk]]
        rintro e W4 ⟨rfl, hb4⟩
        have HJ := Lib.hid hjk
        clear hjk
        gi_wp2
        exact ⟨Keep.of_below hb4, fun rest => by rw [List.append_assoc, hKi.out]; simp [hasOf, HJ.out], (hb4.block _ hLt).trans hOne.out, (hb4.block _ hLt2).trans hTwo.out, hB3.trans (hb4.mono (by omega))⟩
    | fault b p s =>
      simp only [El.val]
      gi_wp2_with fail
      refine ⟨trivial, rfl, CallsIn.mono (callsIn_wide.2 (isErrno_shell _ _ (alone_fault _) (shell_is_fault _) k W3)) ?_⟩
      rintro e W4 ⟨rfl, hb4⟩
      gi_wp2
      exact ⟨Keep.of_below hb4, fun rest => by rw [List.append_assoc, hKi.out]; rfl, (hb4.block _ hLt).trans hOne.out, (hb4.block _ hLt2).trans hTwo.out, hB3.trans (hb4.mono (by omega))⟩
    | strange v =>
      simp only [El.val]
      gi_wp2_with fail
      refine ⟨trivial, rfl, CallsIn.mono (callsIn_wide.2 (isErrno_shell _ _ (alone_strange _) (shell_is_strange _) k W3)) ?_⟩
      rintro e W4 ⟨rfl, hb4⟩
      gi_wp2
      exact ⟨Keep.of_below hb4, fun rest => by rw [List.append_assoc, hKi.out]; rfl, (hb4.block _ hLt).trans hOne.out, (hb4.block _ hLt2).trans hTwo.out, hB3.trans (hb4.mono (by omega))⟩
  case done =>
    rintro D ys W3 hD rfl ⟨hk3, hb3, hr3, hB3⟩ hK
    have hc3 := cell_of_one hr3
    have hf3 := free_of_one hr3
    have hkx : hasOf k ys = false := by have := hk3 []; simpa [hasOf] using this
    have HO := Lib.hid hr3
    have HK := Lib.hid hkx
    clear hr3 hkx hk3 hb3
    gi_wp2
    have hK' : (W3.setCell ⟨w.heap.size + 1, 0, none⟩ (.bool false)).heap[D]? = some (.deferred (some [])) := (Below.heap_setCell _ _ _ _ (by show D ≠ w.heap.size + 1; omega)).trans hK
    refine ⟨by simp, .inl ⟨_, _, rfl, run_takeDeferred hK', ?_⟩⟩
    have hO4 : ((W3.setCell ⟨w.heap.size + 1, 0, none⟩ (.bool false)).putObj D (.deferred none)).heap[w.heap.size + 1]? = some (.cells #[.bool false] 4 (0, 0)) := (World.putObj_heap_other (by omega)).trans (one_setCell HO.out)
    refine ⟨.bool false, by simp [results, Tryd.results18, go_sem, cell_of_one hO4], by rw [HK.out], ?_⟩
    exact (hB3.setCell (p := ⟨w.heap.size + 1, 0, none⟩) (by show w.heap.size ≤ w.heap.size + 1; omega) _).trans (belowK_b (w := w) (Nat.le_refl _) _ D _ _ (by omega) hK' rfl rfl)
  case stop =>
    rintro D c pre W3 hD hpre ⟨rfl, hk3, hr3, hB3⟩ hK
    have hkx : hasOf k xs = true := by obtain ⟨r, rfl⟩ := hpre; exact hk3 r
    have HO := Lib.hid hr3
    have HK := Lib.hid hkx
    clear hr3 hkx hk3
    gi_wp2
    refine ⟨by simp, .inl ⟨_, _, rfl, run_takeDeferred hK, ?_⟩⟩
    have hO4 : (W3.putObj D (.deferred none)).heap[w.heap.size + 1]? = some (.cells #[.bool true] 4 (0, 0)) := (World.putObj_heap_other (by omega)).trans HO.out
    refine ⟨.bool true, by simp [results, Tryd.results18, go_sem, cell_of_one hO4], by rw [HK.out], ?_⟩
    exact hB3.trans (belowK_b (w := w) (Nat.le_refl _) _ D _ _ (by omega) hK rfl rfl)
end Go.Proofs.YtbpihlndojnlcaaDoor
