/-
  Package fault: Place of an error whose row is known.
-/
import Derived.Test.YtjajlfcmmgdfcaaDoorKind
namespace Go.Proofs.YtjajlfcmmgdfcaaDoor
open Go Go.RowKit

attribute [local go_sem] Oper.semAt_some

def placeOf : List (Nat × Int × ByteArray) → Int
  | [] => -1
  | (_, p, _) :: _ => p

/-- Each fault of a row lies in its block, below n. -/
theorem Chain.fault_mem {W : World} : ∀ {n : Nat} {v : Value} {xs : List El}, Chain W n v xs → ∀ x ∈ fsOf xs, x.1 < n ∧ ∃ u, W.heap[x.1]? = some (faultObj x.2.1 x.2.2 u)
  | _, _, [], _, _, hx => by simp [fsOf] at hx
  | _, _, .num _ :: _, h, x, hx => by rw [h.2] at hx; simp [fsOf] at hx
  | n, _, .fault b p s :: rest, ⟨_, h2, u, h5, h6⟩, x, hx => by
    simp only [fsOf, List.mem_cons] at hx
    rcases hx with rfl | hx
    · exact ⟨h2, u, h5⟩
    · obtain ⟨h, r⟩ := Chain.fault_mem h6 x hx
      exact ⟨by omega, r⟩
theorem faults_make_any {n : Nat} {v : Value} {xs : List El} {W : World} (hL : Chain W n v xs) (w : World) :
    Calls Tryd.prog 30 #[v] w fun e w' => e = .returned (.func (.func 41) #[] #[.pointer (some ⟨w.heap.size, 0, none⟩)]) ∧ w.alloc (.cells #[v] 35) = w' := by
  rcases hL.shape with ⟨rfl, _⟩ | ⟨t, u, rfl⟩
  · exact faults_make_nil w
  · exact faults_make t u w

def PlI (w : World) (pre : List (Nat × Int × ByteArray)) (W : World) : Prop :=
  pre = [] ∧ W.heap[w.heap.size]? = some (.cells #[.int .i64 0] 3 (0, 0)) ∧ Below w.heap.size w W
def PlX (w : World) (c : Code) (pre : List (Nat × Int × ByteArray)) (W : World) : Prop :=
  c = .ret ∧ (∃ p, (∀ rest, placeOf (pre ++ rest) = p) ∧ W.heap[w.heap.size]? = some (.cells #[.int .i64 p] 3 (0, 0))) ∧ Below w.heap.size w W

set_option maxRecDepth 100000 in
set_option maxHeartbeats 2000000 in
theorem place_chain {n₀ : Nat} {v : Value} {xs : List El} (w : World) (hlen : xs.length < 1048576) (hn₀ : n₀ ≤ w.heap.size) (hL : Chain w n₀ v xs) :
    Calls Tryd.prog 20 #[v] w fun e w' => e = .returned (.int .i64 (placeOf (fsOf xs))) ∧ Below w.heap.size w w' := by
  have HR := Lib.hid (fun w => faults_make_any hL w)
  refine callsIn_wide (n := 0) |>.1 ?_
  refine callsIn_of_wp_marks Tryd.func20 rfl trivial ?_ rfl
  simp only [Tryd.ntmps20, List.size_toArray, List.length_cons, List.length_nil, Nat.reduceAdd, Nat.reduceSub, Array.replicate_succ, Array.replicate_zero, List.push_toArray, List.append_toArray, List.nil_append, List.cons_append]
  have HL := Lib.hid hL
  clear hL
  gi_wp2_with fail
  refine ⟨trivial, rfl, (callsIn_wide.2 (HR.out _)).mono ?_⟩
  rintro e w' ⟨rfl, rfl⟩
  gi_wp2_with fail
  have hbox : ((w.alloc (.cells #[.int .i64 0] 3)).alloc (.cells #[v] 35)).heap[w.heap.size]? = some (.cells #[.int .i64 0] 3 (0, 0)) := by
    rw [Below.heap_alloc _ _ _ (by simp)]; exact World.alloc_heap_new w _
  have hbox2 : ((w.alloc (.cells #[.int .i64 0] 3)).alloc (.cells #[v] 35)).cell? ⟨w.heap.size + 1, 0, none⟩ = some v := by
    rw [World.cell?_alloc_at _ _ _ _ (by simp)]; rfl
  have hb2 : Below w.heap.size w ((w.alloc (.cells #[.int .i64 0] 3)).alloc (.cells #[v] 35)) := ((Below.refl _ w).alloc (Nat.le_refl _) _).alloc (by simp) _
  have hs2 : ((w.alloc (.cells #[.int .i64 0] 3)).alloc (.cells #[v] 35)).heap.size = w.heap.size + 2 := by simp
  generalize ((w.alloc (.cells #[.int .i64 0] 3)).alloc (.cells #[v] 35)) = W2 at *
  have hL2 : Chain W2 n₀ v xs := HL.out.below hb2 hn₀
  have hseq := faults_seq (fr := fun _ => false) (fun _ h => by cases h) (fun _ _ => rfl) (w := W2) hlen (by omega) hbox2 hL2
  refine rangeZ (gf := 41) (lb := #[.pointer (some ⟨w.heap.size + 1, 0, none⟩)]) rfl (Go.Proofs.enters_of Tryd.func41 (by kernel_rfl) rfl) hseq (fun _ h => by cases h) (by omega) (fun _ => rfl)
    (PlI w) (PlX w)
    (fun s A B row hs hg hr => ⟨hs.1, ownFrom_block (β := Unit) (by omega) () A B row hs.2.1 hg hr, ownFrom_below (β := Unit) (n₀ := w.heap.size) (Nat.le_refl _) (by omega) () A B row hs.2.2 hg hr⟩)
    (fun c s A B row hs hg hr => by
      obtain ⟨h1, ⟨k, h2, h3⟩, h4⟩ := hs
      exact ⟨h1, ⟨k, h2, ownFrom_block (β := Unit) (by omega) () A B row h3 hg hr⟩, ownFrom_below (β := Unit) (n₀ := w.heap.size) (Nat.le_refl _) (by omega) () A B row h4 hg hr⟩)
    ⟨rfl, hbox, hb2⟩
    (fun x => { tmps := #[v, undef, .pointer (some ⟨w.heap.size, 0, none⟩), .pointer (some ⟨x.1, 0, none⟩), v, .func (.func 41) #[] #[.pointer (some ⟨w.heap.size + 1, 0, none⟩)], .pointer (some ⟨x.1, 0, none⟩), undef, undef, undef, undef], defers := [] })
    ?assign ?body ?done ?stop
  case assign =>
    intro l' x W3 K hK
    gi_wp2
    exact hK
  case body =>
    rintro l' pre ⟨b, p, s⟩ W3 ⟨rfl, hb3, hB3⟩ hpre hsz3
    obtain ⟨hbn, u, hfo⟩ := hL2.fault_mem (b, p, s) (hpre.subset (by simp))
    have hfo3 : W3.heap[b]? = some (faultObj p s u) := by
      obtain ⟨_, u', hfo'⟩ := HL.out.fault_mem (b, p, s) (hpre.subset (by simp))
      have e1 := (hb2.block b (by dsimp at hbn; omega)).symm.trans hfo
      exact (hB3.block b (by dsimp at hbn; omega)).trans e1
    obtain ⟨hp0, hp1, hp2⟩ := faultObj_cell hfo3
    have hc3 := cell_of_one hb3
    have hf3 := free_of_one hb3
    have hOne := Lib.hid hb3
    have hLt := lt_of_block hb3
    clear hb3 hfo hfo3
    gi_wp2
    refine ⟨Keep.setCell _ _ _ _ (p := ⟨w.heap.size, 0, none⟩) _ hn₀ (by show w.heap.size < _; omega), rfl, ⟨p, fun rest => rfl, one_setCell hOne.out⟩, hB3.setCell (p := ⟨w.heap.size, 0, none⟩) (Nat.le_refl _) _⟩
  case done =>
    rintro D ys W3 hD hys ⟨rfl, hb3, hB3⟩ hK
    have hc3 := cell_of_one hb3
    have hf3 := free_of_one hb3
    have HO := Lib.hid hb3
    have HK := Lib.hid hys
    clear hb3 hys
    gi_wp2
    have hK' : (W3.setCell ⟨w.heap.size, 0, none⟩ (.int .i64 (-1))).heap[D]? = some (.deferred (some [])) := (Below.heap_setCell _ _ _ _ (by show D ≠ w.heap.size; omega)).trans hK
    refine ⟨by simp, .inl ⟨_, _, rfl, run_takeDeferred hK', ?_⟩⟩
    have hO4 : ((W3.setCell ⟨w.heap.size, 0, none⟩ (.int .i64 (-1))).putObj D (.deferred none)).heap[w.heap.size]? = some (.cells #[.int .i64 (-1)] 3 (0, 0)) := (World.putObj_heap_other (by omega)).trans (one_setCell HO.out)
    refine ⟨.int .i64 (-1), by simp [results, Tryd.results20, go_sem, cell_of_one hO4], by rw [← HK.out]; rfl, ?_⟩
    exact (hB3.setCell (p := ⟨w.heap.size, 0, none⟩) (Nat.le_refl _) _).trans (belowK_b (w := w) (Nat.le_refl _) _ D _ _ (by omega) hK' rfl rfl)
  case stop =>
    rintro D c pre W3 hD hpre ⟨rfl, ⟨k, hk3, hb3⟩, hB3⟩ hK
    have hkx : placeOf (fsOf xs) = k := by obtain ⟨r, hr⟩ := hpre; rw [← hr]; exact hk3 r
    have HO := Lib.hid hb3
    have HK := Lib.hid hkx
    clear hb3 hkx hk3
    gi_wp2
    refine ⟨by simp, .inl ⟨_, _, rfl, run_takeDeferred hK, ?_⟩⟩
    have hO4 : (W3.putObj D (.deferred none)).heap[w.heap.size]? = some (.cells #[.int .i64 k] 3 (0, 0)) := (World.putObj_heap_other (by omega)).trans HO.out
    refine ⟨.int .i64 k, by simp [results, Tryd.results20, go_sem, cell_of_one hO4], by rw [HK.out], ?_⟩
    exact hB3.trans (belowK_b (w := w) (Nat.le_refl _) _ D _ _ (by omega) hK rfl rfl)
end Go.Proofs.YtjajlfcmmgdfcaaDoor
