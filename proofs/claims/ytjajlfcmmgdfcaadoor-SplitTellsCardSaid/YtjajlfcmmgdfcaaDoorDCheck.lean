/-
  Package split: Check; what Kind, Place and Whats tell of its error.
-/
import Derived.Test.YtjajlfcmmgdfcaaDoorDSplit
import Derived.Test.YtjajlfcmmgdfcaaDoorNew
import Derived.Test.YtjajlfcmmgdfcaaDoorDScope
namespace Go.Proofs.YtjajlfcmmgdfcaaDoor
open Go Go.RowKit

attribute [local go_sem] Oper.semAt_some

theorem badOf_append (a b : List (Nat × ByteArray)) : badOf (a ++ b) = if badOf a = none then badOf b else badOf a := by
  induction a with
  | nil => simp [badOf]
  | cons x r ih =>
    rw [List.cons_append]
    by_cases h : okS x.2 = true
    · simp only [badOf, h, if_true]; exact ih
    · simp [badOf, h]

def CkI (w : World) (pre : List (Nat × ByteArray)) (W : World) : Prop :=
  badOf pre = none ∧ W.heap[w.heap.size]? = some (.cells #[.int .i64 0] 37 (0, 0)) ∧ W.heap[w.heap.size + 1]? = some (.cells #[.int .i64 0] 3 (0, 0)) ∧ Below w.heap.size w W
def CkX (w : World) (c : Code) (pre : List (Nat × ByteArray)) (W : World) : Prop :=
  c = .exit 0 ∧ (∃ a : Nat, (∀ rest, badOf (pre ++ rest) = some a) ∧ W.heap[w.heap.size]? = some (.cells #[.int .i64 10] 37 (0, 0)) ∧ W.heap[w.heap.size + 1]? = some (.cells #[.int .i64 (a : Int)] 3 (0, 0))) ∧ Below w.heap.size w W

/-- What Check tells of a text: nothing, or a fault in a block of its own. -/
def ErrIs (W : World) (s : ByteArray) (v : Value) : Prop :=
  (chkS s = none ∧ v = .nilIface) ∨ ∃ a b : Nat, chkS s = some a ∧ v = .iface 57 (.pointer (some ⟨b, 0, none⟩)) ∧ W.heap[b]? = some (faultObj a ⟨#[115, 117, 98, 116, 97, 103]⟩ (.iface 37 (.int .i64 10)))
theorem ErrIs.below {W W' : World} {s : ByteArray} {v : Value} (h : ErrIs W s v) (hb : Below W.heap.size W W') : ErrIs W' s v := by
  rcases h with h | ⟨a, b, h1, h2, h3⟩
  · exact .inl h
  · exact .inr ⟨a, b, h1, h2, (hb.block b (Array.getElem?_eq_some_iff.1 h3).1).trans h3⟩

theorem ck_exit {w W3 : World} {k j : Int} {hi : Nat} {fr : Obj → Bool} {a : Nat} {pre : List (Nat × ByteArray)} (h0 : W3.heap[w.heap.size]? = some (.cells #[.int .i64 k] 37 (0, 0))) (h1 : W3.heap[w.heap.size + 1]? = some (.cells #[.int .i64 j] 3 (0, 0)))
    (hB : Below w.heap.size w W3) (hhi : w.heap.size + 2 ≤ hi) (hbad : ∀ rest, badOf (pre ++ rest) = some a) :
    KeepQ (qOf w.heap.size (w.heap.size + 2)) hi fr W3 ((W3.setCell ⟨w.heap.size, 0, none⟩ (.int .i64 10)).setCell ⟨w.heap.size + 1, 0, none⟩ (.int .i64 (a : Int))) ∧
      CkX w (.exit 0) pre ((W3.setCell ⟨w.heap.size, 0, none⟩ (.int .i64 10)).setCell ⟨w.heap.size + 1, 0, none⟩ (.int .i64 (a : Int))) := by
  have e1 : (W3.setCell ⟨w.heap.size, 0, none⟩ (.int .i64 10)).heap[w.heap.size + 1]? = some (.cells #[.int .i64 j] 3 (0, 0)) := (Below.heap_setCell _ _ _ _ (by show w.heap.size + 1 ≠ w.heap.size; omega)).trans h1
  refine ⟨(KeepQ.setCell _ _ _ _ (p := ⟨w.heap.size, 0, none⟩) _ (by unfold qOf; show ¬ (w.heap.size < w.heap.size ∨ w.heap.size = w.heap.size + 2); omega) (by show w.heap.size < hi; omega)).trans
      (KeepQ.setCell _ _ _ _ (p := ⟨w.heap.size + 1, 0, none⟩) _ (by unfold qOf; show ¬ (w.heap.size + 1 < w.heap.size ∨ w.heap.size + 1 = w.heap.size + 2); omega) (by show w.heap.size + 1 < hi; omega)), rfl, ⟨a, hbad, ?_, one_setCell e1⟩, ?_⟩
  · exact (Below.heap_setCell _ _ _ _ (by show w.heap.size ≠ w.heap.size + 1; omega)).trans (one_setCell h0)
  · exact (hB.setCell (p := ⟨w.heap.size, 0, none⟩) (Nat.le_refl _) _).setCell (p := ⟨w.heap.size + 1, 0, none⟩) (by show w.heap.size ≤ w.heap.size + 1; omega) _

set_option maxRecDepth 100000 in
set_option maxHeartbeats 8000000 in
theorem check_any (s : ByteArray) (w : World) (hs : s.size ≤ 1048576) :
    Calls Tryd.prog 16 #[.string s] w fun e w' => ∃ v, e = .returned v ∧ ErrIs w' s v ∧ Below w.heap.size w w' := by
  refine callsIn_wide (n := 0) |>.1 ?_
  refine callsIn_of_wp_marks Tryd.func16 rfl trivial ?_ rfl
  simp only [Tryd.ntmps16, List.size_toArray, List.length_cons, List.length_nil, Nat.reduceAdd, Nat.reduceSub, Array.replicate_succ, Array.replicate_zero, List.push_toArray, List.append_toArray, List.nil_append, List.cons_append]
  gi_wp2_with fail
  apply wpIn_scope_straight
  gi_wp2_with fail
  apply wpIn_label
  gi_wp2_with fail
  refine ⟨trivial, rfl, (callsIn_wide.2 (each_make s _)).mono ?_⟩
  rintro e w' ⟨rfl, rfl⟩
  gi_wp2_with fail
  have hk0 : (((w.alloc (.cells #[.int .i64 0] 37)).alloc (.cells #[.int .i64 0] 3)).alloc (.cells #[.string s] 9)).heap[w.heap.size]? = some (.cells #[.int .i64 0] 37 (0, 0)) := by
    rw [Below.heap_alloc _ _ _ (by simp; omega), Below.heap_alloc _ _ _ (by simp)]; exact World.alloc_heap_new w _
  have hk1 : (((w.alloc (.cells #[.int .i64 0] 37)).alloc (.cells #[.int .i64 0] 3)).alloc (.cells #[.string s] 9)).heap[w.heap.size + 1]? = some (.cells #[.int .i64 0] 3 (0, 0)) := by
    rw [Below.heap_alloc _ _ _ (by simp)]
    have := World.alloc_heap_new (w.alloc (.cells #[.int .i64 0] 37)) (.cells #[.int .i64 0] 3)
    rwa [World.size_alloc] at this
  have hk2 : (((w.alloc (.cells #[.int .i64 0] 37)).alloc (.cells #[.int .i64 0] 3)).alloc (.cells #[.string s] 9)).heap[w.heap.size + 2]? = some (.cells #[.string s] 9 (0, 0)) := by
    have := World.alloc_heap_new ((w.alloc (.cells #[.int .i64 0] 37)).alloc (.cells #[.int .i64 0] 3)) (.cells #[.string s] 9)
    rwa [World.size_alloc, World.size_alloc] at this
  have hb2 : Below w.heap.size w (((w.alloc (.cells #[.int .i64 0] 37)).alloc (.cells #[.int .i64 0] 3)).alloc (.cells #[.string s] 9)) := (((Below.refl _ w).alloc (Nat.le_refl _) _).alloc (by simp) _).alloc (by simp; omega) _
  have hs2 : w.heap.size + 3 ≤ (((w.alloc (.cells #[.int .i64 0] 37)).alloc (.cells #[.int .i64 0] 3)).alloc (.cells #[.string s] 9)).heap.size := by simp
  generalize (((w.alloc (.cells #[.int .i64 0] 37)).alloc (.cells #[.int .i64 0] 3)).alloc (.cells #[.string s] 9)) = W2 at *
  have hseq := each_seq (fr := fun _ => false) (w := W2) (q := qOf w.heap.size (w.heap.size + 2)) (by omega) (.inr rfl) hk2
  refine rangeQ (gf := 25) (lb := #[.pointer (some ⟨w.heap.size + 2, 0, none⟩)]) rfl (Go.Proofs.enters_of Tryd.func25 (by kernel_rfl) rfl) hseq (fun _ h => by cases h) (fun k h => by unfold qOf at h; omega) (fun _ => rfl)
    (CkI w) (CkX w)
    (fun s A B row hs hg hr => ⟨hs.1, ownFrom_block (β := Unit) (by omega) () A B row hs.2.1 hg hr, ownFrom_block (β := Unit) (by omega) () A B row hs.2.2.1 hg hr, ownFrom_below (β := Unit) (n₀ := w.heap.size) (Nat.le_refl _) (by omega) () A B row hs.2.2.2 hg hr⟩)
    (fun c s A B row hs hg hr => by
      obtain ⟨h1, ⟨a, h2, h3, h4⟩, h5⟩ := hs
      exact ⟨h1, ⟨a, h2, ownFrom_block (β := Unit) (by omega) () A B row h3 hg hr, ownFrom_block (β := Unit) (by omega) () A B row h4 hg hr⟩, ownFrom_below (β := Unit) (n₀ := w.heap.size) (Nat.le_refl _) (by omega) () A B row h5 hg hr⟩)
    ⟨rfl, hk0, hk1, hb2⟩
    (fun x => { tmps := #[.string s, undef, .nilIface, .pointer (some ⟨w.heap.size, 0, none⟩), .pointer (some ⟨w.heap.size + 1, 0, none⟩), .int .i64 x.1, .string x.2, .string s, .func (.func 25) #[] #[.pointer (some ⟨w.heap.size + 2, 0, none⟩)], .int .i64 x.1, .string x.2, undef, undef, undef, undef, undef, undef, undef, undef, undef, undef, undef], defers := [] })
    ?assign ?body ?done ?stop
  case assign =>
    intro l' x W3 K hK
    gi_wp2
    exact hK
  case body =>
    rintro l' pre ⟨a, p⟩ W3 ⟨hp3, hk3, hj3, hB3⟩ hpre hsz3
    have hps : p.size ≤ maxLen := by
      have hm : p ∈ splS s := by
        rw [← pieces_map]
        exact List.mem_map.2 ⟨(a, p), hpre.subset (by simp), rfl⟩
      have := splS_size s p hm
      unfold maxLen; omega
    have hA := Lib.hid (fun w5 => alnum_any p w5 hps)
    have hP := Lib.hid hp3
    have hK3 := Lib.hid hk3
    have hJ3 := Lib.hid hj3
    have hL0 := lt_of_block hk3
    have hL1 := lt_of_block hj3
    clear hp3 hk3 hj3
    by_cases h8 : 8 < p.size
    · have hbad : okS p = false := by unfold okS; rw [decide_eq_false (by omega)]; rfl
      have hB := Lib.hid (fun rest => show badOf ((pre ++ [(a, p)]) ++ rest) = some a by rw [List.append_assoc, badOf_append, if_pos hP.out]; simp [badOf, hbad])
      have h8' : (8 : Int) < (p.size : Int) := by omega
      have c0 := cell_of_one hK3.out
      have f0 := free_of_one hK3.out
      have c1 := cell_of_one hJ3.out
      have f1 := free_of_one hJ3.out
      clear hbad
      gi_wp2
      exact ck_exit hK3.out hJ3.out hB3 (by omega) hB.out
    · have h8' : ¬ (8 : Int) < (p.size : Int) := by omega
      rcases hn : alnumS p with _ | _
      · have hbad : okS p = false := by unfold okS; rw [hn, Bool.and_false]
        have hB := Lib.hid (fun rest => show badOf ((pre ++ [(a, p)]) ++ rest) = some a by rw [List.append_assoc, badOf_append, if_pos hP.out]; simp [badOf, hbad])
        rw [hn] at hA
        clear hbad hn
        gi_wp2_with fail
        refine ⟨trivial, rfl, CallsIn.mono (callsIn_wide.2 (hA.out W3)) ?_⟩
        rintro e W4 ⟨rfl, hb4⟩
        have hK4 := Lib.hid ((hb4.block _ hL0).trans hK3.out)
        have hJ4 := Lib.hid ((hb4.block _ hL1).trans hJ3.out)
        have hB4 := Lib.hid (hB3.trans (hb4.mono (by omega)))
        have c0 := cell_of_one hK4.out
        have f0 := free_of_one hK4.out
        have c1 := cell_of_one hJ4.out
        have f1 := free_of_one hJ4.out
        gi_wp2
        obtain ⟨z1, z2⟩ := ck_exit (hi := W2.heap.size) (fr := fun _ => false) hK4.out hJ4.out hB4.out (by omega) hB.out
        exact ⟨(KeepQ.of_below hb4).trans z1, z2⟩
      · have hok : okS p = true := by unfold okS; rw [hn, decide_eq_true (by omega)]; rfl
        have hB := Lib.hid (show badOf (pre ++ [(a, p)]) = none by rw [badOf_append, if_pos hP.out]; simp [badOf, hok])
        rw [hn] at hA
        clear hok hn
        gi_wp2_with fail
        refine ⟨trivial, rfl, CallsIn.mono (callsIn_wide.2 (hA.out W3)) ?_⟩
        rintro e W4 ⟨rfl, hb4⟩
        have hK4 := Lib.hid ((hb4.block _ hL0).trans hK3.out)
        have hJ4 := Lib.hid ((hb4.block _ hL1).trans hJ3.out)
        have hB4 := Lib.hid (hB3.trans (hb4.mono (by omega)))
        gi_wp2
        exact ⟨KeepQ.of_below hb4, hB.out, hK4.out, hJ4.out, hB4.out⟩
  case done =>
    rintro D ys W3 hD rfl ⟨hp3, hk3, hj3, hB3⟩ hK
    have hN := Lib.hid (fun w5 => new_ok 0 ⟨#[115, 117, 98, 116, 97, 103]⟩ w5)
    have c0 := cell_of_one hk3
    have c1 := cell_of_one hj3
    have HP := Lib.hid (show chkS s = none from hp3)
    clear hp3 hk3 hj3
    gi_wp2_with fail
    refine ⟨trivial, rfl, CallsIn.mono (callsIn_wide.2 (hN.out W3)) ?_⟩
    rintro e W4 ⟨rfl, rfl⟩
    gi_wp2
    refine ⟨by simp, .inl ⟨_, _, rfl, run_takeDeferred hK, ?_⟩⟩
    refine ⟨_, results_tmp rfl _ _ _, .nilIface, rfl, .inl ⟨HP.out, rfl⟩, ?_⟩
    exact hB3.trans (belowK_b (w := w) (Nat.le_refl _) _ D _ _ (by omega) hK rfl rfl)
  case stop =>
    rintro D c pre W3 hD hpre ⟨rfl, ⟨a, ha, hk3, hj3⟩, hB3⟩ hK
    have hN := Lib.hid (fun w5 => new_any 10 (a : Int) ⟨#[115, 117, 98, 116, 97, 103]⟩ w5 rfl)
    have c0 := cell_of_one hk3
    have c1 := cell_of_one hj3
    have HP := Lib.hid (show chkS s = some a by obtain ⟨r, hr⟩ := hpre; unfold chkS; rw [← hr]; exact ha r)
    have hDl := lt_of_block hK
    clear ha hk3 hj3
    gi_wp2_with fail
    refine ⟨trivial, rfl, CallsIn.mono (callsIn_wide.2 (hN.out W3)) ?_⟩
    rintro e W4 ⟨rfl, hw4⟩
    have hK4 : W4.heap[D]? = some (.deferred (some [])) := by rw [← hw4]; exact (Below.heap_alloc _ _ _ hDl).trans hK
    have hF4 : W4.heap[W3.heap.size]? = some (faultObj a ⟨#[115, 117, 98, 116, 97, 103]⟩ (.iface 37 (.int .i64 10))) := by rw [← hw4]; exact World.alloc_heap_new W3 _
    have hB4 : Below w.heap.size w W4 := by rw [← hw4]; exact hB3.alloc hB3.size _
    have HW := Lib.hid hw4
    clear hw4
    gi_wp2
    refine ⟨by simp, .inl ⟨_, _, rfl, run_takeDeferred hK4, ?_⟩⟩
    refine ⟨_, results_tmp rfl _ _ _, _, rfl, .inr ⟨a, W3.heap.size, HP.out, rfl, (World.putObj_heap_other (by omega)).trans hF4⟩, ?_⟩
    exact hB4.trans (belowK_b (w := w) (Nat.le_refl _) _ D _ _ (by omega) hK4 rfl rfl)

/- What is told of it. -/
def SUB : ByteArray := ⟨#[115, 117, 98, 116, 97, 103]⟩
def kindE (s : ByteArray) : Int := if (chkS s).isNone then 0 else 10
def placeE (s : ByteArray) : Int := match chkS s with
  | none => -1
  | some a => a
theorem chain_of {W : World} {a b : Nat} (h : W.heap[b]? = some (faultObj a ⟨#[115, 117, 98, 116, 97, 103]⟩ (.iface 37 (.int .i64 10)))) :
    Chain W (b + 1) (.iface 57 (.pointer (some ⟨b, 0, none⟩))) [.fault b a ⟨#[115, 117, 98, 116, 97, 103]⟩, .num 10] :=
  ⟨rfl, Nat.lt_succ_self _, _, h, rfl, rfl⟩
theorem kind_err {s : ByteArray} {v : Value} (w : World) (h : ErrIs w s v) (hg : TypeLaid w) :
    Calls Tryd.prog 19 #[v] w fun e w' => e = .returned (.int .i64 (kindE s)) ∧ Below w.heap.size w w' := by
  rcases h with ⟨h, rfl⟩ | ⟨a, b, h, rfl, hb⟩
  · unfold kindE; rw [h]; exact kind_nil w
  · unfold kindE; rw [h]; exact kind_chain w (by simp) (lt_of_block hb) (chain_of hb) hg
theorem place_err {s : ByteArray} {v : Value} (w : World) (h : ErrIs w s v) :
    Calls Tryd.prog 20 #[v] w fun e w' => e = .returned (.int .i64 (placeE s)) ∧ Below w.heap.size w w' := by
  rcases h with ⟨h, rfl⟩ | ⟨a, b, h, rfl, hb⟩
  · unfold placeE; rw [h]; exact place_chain (xs := []) (n₀ := 0) w (by decide) (Nat.zero_le _) rfl
  · unfold placeE; rw [h]; exact place_chain w (by simp) (lt_of_block hb) (chain_of hb)
theorem whats_err {s : ByteArray} {v : Value} {a : Nat} (w : World) (h : ErrIs w s v) (ha : chkS s = some a) :
    Calls Tryd.prog 18 #[v] w fun e w' => ∃ u, e = .returned u ∧ w'.ownsRow (w.heap.size + 2) 9 1 u 1 [.string SUB] ∧ Below w.heap.size w w' := by
  rcases h with ⟨h, _⟩ | ⟨a', b, _, rfl, hb⟩
  · rw [h] at ha; cases ha
  · exact whats_chain w (by simp) (lt_of_block hb) (chain_of hb)
end Go.Proofs.YtjajlfcmmgdfcaaDoor
