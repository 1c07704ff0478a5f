/-
  slices.Values, slices.AppendSeq, slices.Collect, slices.Sorted at texts. Package table: Build.
-/
import Derived.Test.YtbafmnafhaoggaaGreatDoorWAll
import Derived.Test.YtbafmnafhaoggaaGreatDoorShelf
import Derived.LoopIn
import Derived.Maps.AppendAt
/-! slices.Values, slices.AppendSeq, slices.Collect, slices.Sorted at texts. -/
namespace Go.Proofs.YtbafmnafhaoggaaGreatDoor
open Go Go.RowKit Go.Sort

attribute [local go_sem] Oper.semAt_some

set_option maxRecDepth 100000 in
theorem values_make (ao : Option Addr) (n : Nat) (cap : Nat) (w : World) :
    Calls Tryz.prog 91 #[.slice ao n cap] w fun e w' => e = .returned (.func (.func 112) #[] #[.pointer (some ⟨w.heap.size, 0, none⟩)]) ∧ w.alloc (.cells #[.slice ao n cap] 52) = w' := by
  have hmf := makeFW
  go_enter Tryz.func91, Tryz.ntmps91
  go_wp2
  go_ret
  exact ⟨rfl, rfl⟩

set_option maxRecDepth 100000 in
set_option maxHeartbeats 4000000 in
theorem values_in (n l hi B nB : Nat) (fr : Obj → Bool) (v : Value) (L : List ByteArray) (hL : L.length ≤ 1048576) (B0 : Nat) (J Jx : List ByteArray → World → Prop) (hJ : OwnFrom B0 J)
    (hY : ∀ pre x W1, J pre W1 → pre ++ [x] <+: L → YieldAt Fence.wide (n - 1) Tryz.prog l #[.string x] W1 fun e W' =>
      (e = .returned (.bool true) ∧ J (pre ++ [x]) W' ∧ KeepQ (fun k => k < nB) hi fr W1 W') ∨ (e = .returned (.bool false) ∧ Jx (pre ++ [x]) W' ∧ KeepQ (fun k => k < nB) hi fr W1 W'))
    (w : World) (hbox : w.heap[B]? = some (.cells #[v] 52 (0, 0))) (hrow : RowB nB w v L) (h0 : J [] w) :
    CallsIn Fence.wide n Tryz.prog 112 #[.func (.yield l) #[] #[], .pointer (some ⟨B, 0, none⟩)] w fun e W' => (∃ v, e = .returned v) ∧
      ((∃ ys, ys = L ∧ J ys W') ∨ (∃ pre, pre <+: L ∧ Jx pre W')) := by
  have HJ := Lib.hid hJ
  clear hJ
  refine callsIn_of_wp Tryz.func112 rfl trivial ?_ rfl
  simp only [Tryz.ntmps112, List.size_toArray, List.length_cons, List.length_nil, Nat.reduceAdd, Nat.reduceSub, Array.replicate_succ, Array.replicate_zero, List.push_toArray, List.append_toArray, List.nil_append, List.cons_append]
  have d1 := cell_of_one hbox
  have HR := Lib.hid hrow
  obtain ⟨ao, cap, rfl, -⟩ := hrow
  clear hbox
  gi_wp2_with fail
  gi_loopw [7] (fun x wr => ∃ k : Nat, x = .int .i64 (k : Int) ∧ k ≤ L.length ∧ Hid (RowB nB wr (.slice ao L.length cap) L) ∧ J (L.take k) wr) (fun x _ => L.length + 1 - (intOf x).toNat)
  case atStart => exact ⟨0, rfl, Nat.zero_le _, HR, by simpa using h0⟩
  case round =>
    obtain ⟨k, rfl, hk, HRk, hJs⟩ := hrel
    by_cases hlt : k < L.length
    · have hlt' : (k : Int) < (L.length : Int) := by omega
      have hk0 : (0 : Int) ≤ (k : Int) := by omega
      have hd : decide (k < L.length) = true := decide_eq_true hlt
      obtain ⟨x, hx⟩ : ∃ x, L[k]? = some x := ⟨_, List.getElem?_eq_getElem hlt⟩
      obtain ⟨ao', cap', e', hc⟩ := HRk.out
      injection e' with e1 e2 e3
      subst e1
      subst e3
      obtain ⟨g, o, rfl, hg, c1⟩ := hc k x hx
      clear hc
      have HT := Lib.hid (take_nextW hx)
      obtain ⟨fn, tmps, assign, body, hy, hR⟩ := hY (L.take k) x wr hJs (by rw [← HT.out]; exact List.take_prefix _ _)
      clear hx
      gi_wp2_with fail
      refine ⟨fun h => (by simp [Fence.wide] at h), ?_⟩
      refine hR.mono ?_
      rintro e W3 (⟨rfl, hJ3, hk3⟩ | ⟨rfl, hJx3, hk3⟩)
      · have HR3 := Lib.hid (HRk.out.same fun k hk hs => hk3.blk' k hs hk)
        gi_wp2
        go_roundw
        case rel => exact ⟨k + 1, by go_num, by omega, HR3, by rw [HT.out]; exact hJ3⟩
        case measure => simp [intOf]; omega
      · gi_wp2
        refine bodyPost_ret (results_none rfl _ _ _) rfl ?_
        exact ⟨⟨_, rfl⟩, .inr ⟨_, by rw [← HT.out]; exact List.take_prefix _ _, hJx3⟩⟩
    · obtain rfl : k = L.length := by omega
      have hd : decide (L.length < L.length) = false := decide_eq_false (by omega)
      have HX := Lib.hid (show J L wr by rwa [List.take_length] at hJs)
      clear hJs
      gi_wp2
      go_end0
      exact ⟨⟨_, rfl⟩, .inl ⟨_, rfl, HX.out⟩⟩
theorem values_seq {fr : Obj → Bool} {B nB : Nat} {v : Value} {L : List ByteArray} {w : World} (hL : L.length ≤ 1048576) (hbox : w.heap[B]? = some (.cells #[v] 52 (0, 0))) (hrow : RowB nB w v L) :
    SeqQ Tryz.prog 112 #[.pointer (some ⟨B, 0, none⟩)] (fun x : ByteArray => #[.string x]) (fun k => k < nB) fr (fun ys => ys = L) (fun pre => pre <+: L) w := fun n l J Jx W hW hJ _ hY h0 =>
  values_in n l W.heap.size B nB fr v L hL _ J Jx hJ hY W ((hW.block B (lt_of_block hbox)).trans hbox) (hrow.below hW) h0

def ApI (w : World) (pre : List ByteArray) (W : World) : Prop :=
  ∃ v, W.heap[w.heap.size]? = some (.cells #[v] 52 (0, 0)) ∧ W.ownsRow (w.heap.size + 1) 9 1 v pre.length (strsW pre) ∧ Below w.heap.size w W ∧ w.heap.size + 1 ≤ W.heap.size
theorem ap_app {hi : Nat} {w W3 w1 : World} {j : Nat} {v v' s : Value} {xs ys : List Value}
    (hR : W3.heap[w.heap.size]? = some (.cells #[v] 52 (0, 0))) (hown : W3.ownsRow (w.heap.size + 1) 9 1 v j xs) (hB : Below w.heap.size w W3) (hsz : w.heap.size + 1 ≤ W3.heap.size)
    (hown1 : w1.ownsRow (w.heap.size + 1) 9 1 v' (j + 1) ys) (hgrow : (W3.alloc (.cells #[s] 9)).grownBy w1 v.ownBlock) :
    ∃ g' cap', v' = .slice (some ⟨g', 0, none⟩) (j + 1) cap' ∧ w.heap.size + 1 ≤ g' ∧ w1.cell? ⟨w.heap.size, 0, none⟩ = some v ∧ w1.frozen? ⟨w.heap.size, 0, none⟩ = false ∧ KeepQ (fun k => k < w.heap.size) hi frS W3 w1 ∧
      Hid (Below w.heap.size w w1 ∧ w.heap.size + 1 ≤ w1.heap.size ∧ w1.heap[w.heap.size]? = some (.cells #[v] 52 (0, 0))) := by
  have hgs := hgrow.size
  have hsd : (W3.alloc (.cells #[s] 9)).heap.size = W3.heap.size + 1 := by simp
  have hne : ∀ r, v.ownBlock = some r → w.heap.size + 1 ≤ r := fun r e => (hown.lt r e).1
  have hblk : ∀ k, k < W3.heap.size → (W3.alloc (.cells #[s] 9)).heap[k]? = W3.heap[k]? := fun k hk => Below.heap_alloc W3 _ k hk
  have hR1' : w1.heap[w.heap.size]? = some (.cells #[v] 52 (0, 0)) := (hgrow.block _ (by omega) (fun e => by have := hne _ e.symm; omega)).trans ((hblk _ (by omega)).trans hR)
  have hB1 : Below w.heap.size w w1 := (hB.alloc hB.size _).grown hgrow (by omega) (fun r e => by have := hne r e; omega)
  obtain ⟨g', cap', rfl⟩ := ownsRow_succ hown1
  refine ⟨g', cap', rfl, (hown1.lt g' rfl).1, cell_of_one hR1', free_of_one hR1', ?_, hB1, by omega, hR1'⟩
  refine (KeepQ.of_below (A := W3) ((Below.refl _ W3).alloc (Nat.le_refl _) _)).trans (KeepQ.grown hgrow (fun r e => ?_))
  have hr := hne r e
  refine ⟨fun h => by have h' : r < w.heap.size := h; omega, .inr ?_⟩
  rcases hown.2 with ⟨rfl, _⟩ | ⟨g, cap, cur, rfl, _, hb, _⟩
  · cases e
  · cases e
    exact ⟨_, (hblk g (Array.getElem?_eq_some_iff.1 hb).1).trans hb, by simp [frS]⟩

set_option maxRecDepth 100000 in
set_option maxHeartbeats 8000000 in
theorem appendSeq_any {B : Nat} {v : Value} {L : List ByteArray} (w : World) (hL : L.length ≤ 4000) (hbox : w.heap[B]? = some (.cells #[v] 52 (0, 0))) (hrow : RowW w v L) :
    Calls Tryz.prog 130 #[.slice none 0 0, .func (.func 112) #[] #[.pointer (some ⟨B, 0, none⟩)]] w fun e w' => ∃ u, e = .returned u ∧ (w'.ownsRow w.heap.size 9 1 u L.length (strsW L) ∧ Below w.heap.size w w') := by
  obtain ⟨i0, hi, hz0, hz1, hz2⟩ := info_parts stringInfo
  have hBl := lt_of_block hbox
  refine callsIn_wide (n := 0) |>.1 ?_
  refine callsIn_of_wp_marks Tryz.func130 rfl trivial ?_ rfl
  simp only [Tryz.ntmps130, List.size_toArray, List.length_cons, List.length_nil, Nat.reduceAdd, Nat.reduceSub, Array.replicate_succ, Array.replicate_zero, List.push_toArray, List.append_toArray, List.nil_append, List.cons_append]
  gi_wp2_with fail
  obtain ⟨W2, hW2⟩ : ∃ W2, w.alloc (.cells #[.slice none 0 0] 52) = W2 := ⟨_, rfl⟩
  have hbx : W2.heap[w.heap.size]? = some (.cells #[.slice none 0 0] 52 (0, 0)) := by rw [← hW2]; exact World.alloc_heap_new w _
  have hb2 : Below w.heap.size w W2 := by rw [← hW2]; exact (Below.refl _ w).alloc (Nat.le_refl _) _
  have hs2 : W2.heap.size = w.heap.size + 1 := by rw [← hW2]; simp
  rw [hW2]
  clear hW2
  have hseq := values_seq (fr := frS) (w := W2) (nB := w.heap.size) (by omega) ((hb2.block _ hBl).trans hbox) ((hrow.bound (Nat.le_refl _)).below hb2)
  refine rangeQ (gf := 112) (lb := #[.pointer (some ⟨B, 0, none⟩)]) rfl (Go.Proofs.enters_of Tryz.func112 (by kernel_rfl) rfl) hseq frS_cells (fun k h => by omega) (fun _ => rfl)
    (ApI w) (fun _ _ _ => False)
    (fun s A B row hs hg hr => by
      obtain ⟨u, h1, h2, h3, h4⟩ := hs
      exact ⟨u, ownFrom_block (β := Unit) (by omega) () A B row h1 hg hr, ownFrom_row (β := Unit) (B := W2.heap.size) () A B row h2 hg hr, ownFrom_belowW (β := Unit) (by omega) (Nat.le_refl _) () A B row h3 hg hr, Nat.le_trans h4 hg.size⟩)
    (fun _ _ _ _ _ hs _ _ => hs.elim)
    ⟨_, hbx, World.ownsRow_nil _ _ _ _, hb2, by omega⟩
    (fun x => { tmps := #[.slice none 0 0, .func (.func 112) #[] #[.pointer (some ⟨B, 0, none⟩)], .pointer (some ⟨w.heap.size, 0, none⟩), undef, .slice none 0 0, .string x, .func (.func 112) #[] #[.pointer (some ⟨B, 0, none⟩)], .string x, undef, undef, undef, undef, undef], defers := [] })
    ?assign ?body ?done ?stop
  case assign =>
    intro l' x W3 K hK
    gi_wp2
    exact hK
  case body =>
    rintro l' pre p W3 ⟨u0, hb3, ho3, hB3, hsz3'⟩ hpre hsz3
    have hpl : pre.length + 1 ≤ 4000 := by
      have h1 := hpre.length_le
      simp at h1; omega
    have hbd1 : pre.length + 1 ≤ maxLen := by unfold maxLen; omega
    have hbd2 : (pre.length + 1) * 16 ≤ 140737488355328 := by omega
    have hc3 := cell_of_one hb3
    have hf3 := free_of_one hb3
    have HN := Lib.hid (cell_oneW W3 (.string p) 9)
    have HO := Lib.hid ho3
    have HOD := Lib.hid (ho3.alloc (.cells #[.string p] 9))
    have hOne := Lib.hid hb3
    clear hb3 ho3
    gi_wp2_with (gi_at_builtin; refine wpListIn_append_own _ rfl _ _ 52 rfl (w.heap.size + 1) 9 i0 (.string ByteArray.empty) 1 16 Tryz.underlying52 hi hz0 hz1 hz2 rfl (by decide) _ _ _ rfl HOD.out ⟨W3.heap.size, 0, none⟩ 1 1 [.string p] rfl rfl HN.out (by intro u hu; simp at hu; subst hu; rfl) hbd1 hbd2 (by show _ ≤ (W3.alloc _).heap.size; simp; omega) ?_; intro v' w1 hown1 hgrow _; obtain ⟨g', cap', rfl, hg', hc1, hf1, hkeep, HREST⟩ := ap_app (hi := w.heap.size + 1) hOne.out HO.out hB3 hsz3' hown1 hgrow; have HO1 := Lib.hid hown1; clear hown1 hgrow)
    obtain ⟨hB1, hs1, hq1⟩ := HREST.out
    rw [hs2]
    exact ⟨(hkeep.trans (KeepQ.setCell _ _ _ _ (p := ⟨w.heap.size, 0, none⟩) _ (by show ¬ (w.heap.size < w.heap.size); omega) (by show w.heap.size < w.heap.size + 1; omega))), _, one_setCell hq1, by rw [strsW_append, List.length_append]; exact ownsRow_setCell_other HO1.out (by simp [Value.ownBlock]; omega) _, hB1.setCell (p := ⟨w.heap.size, 0, none⟩) (Nat.le_refl _) _, by simpa [World.setCell] using hs1⟩
  case done =>
    rintro D ys W3 hD rfl ⟨u0, hb3, ho3, hB3, hsz3'⟩ hK
    have hc3 := cell_of_one hb3
    have hf3 := free_of_one hb3
    have HO := Lib.hid ho3
    have hsh := owns_shape0 ho3
    clear hb3 ho3
    rcases hsh with rfl | ⟨g, gc, rfl⟩
    · gi_wp2
      refine ⟨by simp, .inl ⟨_, _, rfl, run_takeDeferred hK, ?_⟩⟩
      have hfin := ownFrom_row (β := Unit) (B := 0) () W3 _ (some D) HO.out (grownBy_putObj' W3 D (.deferred none)) (fun r e => by cases e; exact ⟨Nat.zero_le _, _, hK, rfl⟩)
      refine ⟨_, results_tmp rfl _ _ _, .slice none 0 0, rfl, own_lowW hfin (by omega), ?_⟩
      exact hB3.trans (belowK_b (w := w) (Nat.le_refl _) _ D _ _ (by omega) hK rfl rfl)
    · gi_wp2
      refine ⟨by simp, .inl ⟨_, _, rfl, run_takeDeferred hK, ?_⟩⟩
      have hfin := ownFrom_row (β := Unit) (B := 0) () W3 _ (some D) HO.out (grownBy_putObj' W3 D (.deferred none)) (fun r e => by cases e; exact ⟨Nat.zero_le _, _, hK, rfl⟩)
      refine ⟨_, results_tmp rfl _ _ _, .slice (some ⟨g, 0, none⟩) ys.length gc, rfl, own_lowW hfin (by omega), ?_⟩
      exact hB3.trans (belowK_b (w := w) (Nat.le_refl _) _ D _ _ (by omega) hK rfl rfl)
  case stop =>
    rintro D c pre W3 hD hpre h hK
    exact h.elim

set_option maxRecDepth 100000 in
theorem collect_any {B : Nat} {v : Value} {L : List ByteArray} (w : World) (hL : L.length ≤ 4000) (hbox : w.heap[B]? = some (.cells #[v] 52 (0, 0))) (hrow : RowW w v L) :
    Calls Tryz.prog 110 #[.func (.func 112) #[] #[.pointer (some ⟨B, 0, none⟩)]] w fun e w' => ∃ u, e = .returned u ∧ (w'.ownsRow w.heap.size 9 1 u L.length (strsW L) ∧ Below w.heap.size w w') := by
  have H := Lib.hid (appendSeq_any w hL hbox hrow)
  clear hbox hrow hL
  go_enter Tryz.func110, Tryz.ntmps110
  go_wp2_with (go_at_call 130; (with_reducible refine H.out.mono ?_); rintro e w1 ⟨u, rfl, hu⟩; have HU := Lib.hid hu; obtain ⟨ao, cap, hsl⟩ := (RowW.of_own hu.1).slice; subst hsl; clear hu)
  go_ret
  exact ⟨_, rfl, HU.out⟩

theorem strs_enc (l : List ByteArray) : strsW l = (l.map bL).map encStr := by
  unfold strsW
  rw [List.map_map]
  refine List.map_congr_left fun x _ => ?_
  show Value.string x = Value.string ⟨(bL x).toArray⟩
  rw [mk_bL]
theorem strs_sort (l : List ByteArray) : strsW (sortW l) = ((l.map bL).mergeSort (fun x y => decide (x ≤ y))).map encStr := by
  unfold strsW sortW
  rw [List.map_map]
  rfl
/-- slices.Sort over a row of the call's own. -/
theorem sort_own {base : Nat} {u : Value} {L : List ByteArray} (w : World) (hL : L.length ≤ 4000) (hb : base ≤ w.heap.size) (hu : w.ownsRow base 9 1 u L.length (strsW L)) :
    Calls Tryz.prog 111 #[u] w fun e w' => e = .returned (.tuple #[]) ∧ Hid (w'.ownsRow base 9 1 u L.length (strsW (sortW L)) ∧ Below base w w') := by
  rcases hu.2 with ⟨rfl, hz⟩ | ⟨g, cap, cur, rfl, hbase, hgb, r1, r2, r3, r4⟩
  · obtain rfl : L = [] := List.eq_nil_of_length_eq_zero hz
    exact (Go.Proofs.Tryz.slices_Sort_string_none none 0 w).mono fun e w' ⟨h1, h2⟩ => ⟨h1, Lib.hid (by rw [h2, show sortW [] = [] from List.eq_nil_of_length_eq_zero (sortW_len [])]; exact ⟨hu, Below.refl _ _⟩)⟩
  · have hH : Holds encStr w g 0 (L.map bL).toArray := holds_of_block hgb (by rw [List.length_map, ← strs_enc]; simpa using r4)
    have hgl : g < w.heap.size := (Array.getElem?_eq_some_iff.1 hgb).1
    have hc := Go.Proofs.Tryz.slices_Sort_string g 0 cap (L.map bL) w hH hgl (by rw [List.length_map]; omega)
    rw [List.length_map] at hc
    refine hc.mono fun e w' ⟨h1, n, os, h2⟩ => ⟨h1, Lib.hid ?_⟩
    subst h2
    refine ⟨?_, (Below.refl _ w).grown (grownBy_sorted _) hb (fun j hj => by cases hj; exact hbase)⟩
    rw [strs_sort]
    have := ownsRow_sorted (ss := L.map bL) (ts := (L.map bL).mergeSort fun x y => decide (x ≤ y)) (base := base) (n := n) (os := os) (by simp) hbase hgb (by rw [List.length_map]; exact r1) r2 r3
    rwa [List.length_map] at this
set_option maxRecDepth 100000 in
/-- slices.Sorted(slices.Values(rows)): the rows by rising bytes, in a row of the call's own. -/
theorem sorted_any {B : Nat} {v : Value} {L : List ByteArray} (w : World) (hL : L.length ≤ 4000) (hbox : w.heap[B]? = some (.cells #[v] 52 (0, 0))) (hrow : RowW w v L) :
    Calls Tryz.prog 90 #[.func (.func 112) #[] #[.pointer (some ⟨B, 0, none⟩)]] w fun e w' => ∃ u, e = .returned u ∧ (w'.ownsRow w.heap.size 9 1 u L.length (strsW (sortW L)) ∧ Below w.heap.size w w') := by
  have H := Lib.hid (collect_any w hL hbox hrow)
  clear hbox hrow
  go_enter Tryz.func90, Tryz.ntmps90
  go_wp2_with (go_at_call 110; (with_reducible refine H.out.mono ?_); rintro e w1 ⟨u, rfl, hu⟩; have HU := Lib.hid hu; have HC := Lib.hid (sort_own w1 hL hu.2.size hu.1); obtain ⟨ao, cap, hsl⟩ := (RowW.of_own hu.1).slice; subst hsl; clear hu)
  go_wp2_with (go_at_call 111; (with_reducible refine HC.out.mono ?_); rintro e w2 ⟨rfl, HS⟩)
  go_ret
  exact ⟨_, rfl, HS.out.1, HU.out.2.trans HS.out.2⟩
end Go.Proofs.YtbafmnafhaoggaaGreatDoor

/-! Package table: Build. -/
namespace Go.Proofs.YtbafmnafhaoggaaGreatDoor
open Go Go.RowKit

/-- The first row that has not so many bytes. -/
def oddW (w : Int) (l : List ByteArray) : Option Nat := l.findIdx? fun r => decide ((r.size : Int) ≠ w)
/-- What Build tells. -/
def buildE (w k : Int) (l : List ByteArray) (cat : ByteArray) : Option (Int × Int) :=
  if k < 1 ∨ w < k ∨ 255 < w then some (1, 0)
  else match oddW w l with
    | some i => some (12, (i : Int))
    | none => newE w k cat
theorem buildE_bad {w k : Int} {l : List ByteArray} {c : ByteArray} (h : k < 1 ∨ w < k ∨ 255 < w) : buildE w k l c = some (1, 0) := if_pos h
theorem buildE_ok {w k : Int} {l : List ByteArray} {c : ByteArray} (h : ¬ (k < 1 ∨ w < k ∨ 255 < w)) : buildE w k l c = match oddW w l with
    | some i => some (12, (i : Int))
    | none => newE w k c := if_neg h

theorem join_own {base : Nat} {u : Value} {L : List ByteArray} (w : World) (hL : L.length ≤ 4000) (hu : w.ownsRow base 9 1 u L.length (strsW L)) (hsz : (catW L).size ≤ 1048576) :
    Calls Tryz.prog 56 #[u, .string ⟨#[]⟩] w fun e w' => e = .returned (.string (catW L)) ∧ Below w.heap.size w w' := by
  rcases hu.2 with ⟨rfl, hz⟩ | ⟨g, cap, cur, rfl, hbase, hgb, r1, r2, r3, r4⟩
  · obtain rfl : L = [] := List.eq_nil_of_length_eq_zero hz
    exact (Go.Proofs.Tryz.strings_Join_none none 0 ⟨#[]⟩ w).mono fun e w' ⟨h1, h2⟩ => ⟨h1, by rw [h2]; exact Below.refl _ _⟩
  · have hc : ∀ (j : Nat) x, L[j]? = some x → w.cell? ⟨g, 0 + j, none⟩ = some (.string x) := fun j x hx => by
      have := hu.cells rfl j (.string x) (by simp [strsW, hx])
      rwa [Addr.add_lit] at this
    have hj := joinW L
    have hlen : (Lib.join (L.map (·.data.toList)) (⟨#[]⟩ : ByteArray).data.toList).length = (catW L).size := by rw [← hj]; rfl
    have := Go.Proofs.Tryz.strings_Join g 0 cap L ⟨#[]⟩ w hc (lt_of_block hgb) (by omega) r1 (by rw [hlen]; omega)
    rwa [hj] at this

set_option maxRecDepth 100000 in
set_option maxHeartbeats 2000000 in
theorem build_table (wi ki : Int) (v : Value) (l : List ByteArray) (w : World) (hv : RowW w v l) (hl : l.length ≤ 4000) (hs : ∀ x ∈ l, x.size ≤ 140737488351232) :
    Calls Tryz.prog 57 #[.int .i64 wi, .int .i64 ki, v] w fun e w' => ∃ t u, e = .returned (.tuple #[t, u]) ∧ (MadeW w' t u wi ki (catW (sortW l)) (buildE wi ki l (catW (sortW l))) ∧ Below w.heap.size w w') := by
  by_cases hbad : ki < 1 ∨ wi < ki ∨ 255 < wi
  · have HC := Lib.hid (sizesW_bad wi ki w hbad)
    have HE := Lib.hid (buildE_bad (l := l) (c := catW (sortW l)) hbad)
    obtain ⟨ao, cap, rfl, -⟩ := hv
    clear hbad hl hs
    go_enter Tryz.func57, Tryz.ntmps57
    go_wp2_with (go_at_call 88; (with_reducible refine HC.out.mono ?_); rintro e w1 ⟨v, rfl, hv⟩; obtain ⟨t, u, rfl⟩ := hv.1.iface; have HV := Lib.hid hv; clear hv)
    go_ret2
    exact ⟨_, _, rfl, by rw [HE.out]; exact ⟨rfl, HV.out.1⟩, HV.out.2⟩
  · have HE := Lib.hid (buildE_ok (l := l) (c := catW (sortW l)) hbad)
    obtain ⟨W, rfl⟩ : ∃ W : Nat, wi = (W : Int) := ⟨wi.toNat, by omega⟩
    obtain ⟨K, rfl⟩ : ∃ K : Nat, ki = (K : Int) := ⟨ki.toNat, by omega⟩
    have h1 : 0 < K := by omega
    have h2 : K ≤ W := by omega
    have h3 : W ≤ 255 := by omega
    clear hbad
    have HC := Lib.hid (sizesW_ok W K w h1 h2 h3)
    have HV := Lib.hid hv
    obtain ⟨ao, cap, rfl, -⟩ := hv
    have HS := Lib.hid hs
    clear hs
    go_enter Tryz.func57, Tryz.ntmps57
    go_wp2_with (go_at_call 88; (with_reducible refine HC.out.mono ?_); rintro e w' ⟨rfl, rfl⟩)
    go_loop [19] (fun x => ∃ k : Nat, x = .int .i64 (k : Int) ∧ k ≤ l.length ∧ Hid (∀ i r, l[i]? = some r → i < k → r.size = W)) (fun x => l.length + 1 - (intOf x).toNat)
    case atStart => exact ⟨0, rfl, Nat.zero_le _, Lib.hid (fun i r _ h => absurd h (Nat.not_lt_zero _))⟩
    case round =>
      obtain ⟨k, rfl, hk, HK⟩ := hrel
      by_cases hlt : k < l.length
      · have hlt' : (k : Int) < (l.length : Int) := by omega
        have hd : decide (k < l.length) = true := decide_eq_true hlt
        have hk0 : (0 : Int) ≤ (k : Int) := by omega
        obtain ⟨x, hx⟩ : ∃ x, l[k]? = some x := ⟨_, List.getElem?_eq_getElem hlt⟩
        obtain ⟨ao', cap', e', hc⟩ := HV.out
        injection e' with a1 a2 a3
        subst a1
        subst a3
        obtain ⟨g, o, rfl, c1⟩ := hc k x hx
        have hxs := HS.out x (mem_of_at hx)
        clear hc
        by_cases hsz : x.size = W
        · have hd2 : ((x.size : Int) == (W : Int)) = true := by rw [beq_iff_eq]; omega
          have HK2 := Lib.hid (show ∀ i r, l[i]? = some r → i < k + 1 → r.size = W from fun i r hr hi => by
            rcases Nat.lt_or_eq_of_le (Nat.le_of_lt_succ hi) with h | h
            · exact HK.out i r hr h
            · rw [h, hx] at hr; cases hr; exact hsz)
          clear hx hsz
          go_wp2
          go_round
          case rel => exact ⟨k + 1, by go_num, by omega, HK2⟩
          case measure => simp [intOf]; omega
        · have hd2 : ((x.size : Int) == (W : Int)) = false := by rw [beq_eq_false_iff_ne]; omega
          have HO := Lib.hid (show oddW (W : Int) l = some k from by
            unfold oddW
            rw [List.findIdx?_eq_some_iff_getElem]
            obtain ⟨hk', rfl⟩ := List.getElem?_eq_some_iff.1 hx
            refine ⟨hk', by simpa [Int.natCast_inj] using hsz, fun j hj => ?_⟩
            have := HK.out j _ (List.getElem?_eq_getElem (by omega)) hj
            simp [this])
          have HN := Lib.hid (newW_any 12 (k : Int) w (by decide))
          clear hx hsz
          go_wp2_with (go_at_call 26; (with_reducible refine HN.out.mono ?_); rintro e w1 ⟨v, rfl, hv⟩; obtain ⟨t, u, rfl⟩ := hv.1.iface; have HV2 := Lib.hid hv; clear hv)
          go_ret2
          exact ⟨_, _, rfl, by rw [HE.out, HO.out]; exact ⟨rfl, HV2.out.1⟩, HV2.out.2⟩
      · obtain rfl : k = l.length := by omega
        have hd : decide (l.length < l.length) = false := decide_eq_false (by omega)
        have hall : ∀ x ∈ l, x.size = W := by
          intro x hx
          obtain ⟨i, hi⟩ := List.getElem?_of_mem hx
          exact HK.out i x hi (List.getElem?_eq_some_iff.1 hi).1
        have HO := Lib.hid (show oddW (W : Int) l = none from List.findIdx?_eq_none_iff.2 fun x hx => by simp [hall x hx])
        have hcl : (catW (sortW l)).size ≤ 1048576 := by
          rw [cat_size (sortW_size hall), sortW_len]
          have : l.length * W ≤ 4000 * 255 := Nat.mul_le_mul hl h3
          omega
        have HVM := Lib.hid (fun w5 => values_make ao l.length cap w5)
        have hb0 : Below w.heap.size w (w.alloc (.cells #[.slice ao l.length cap] 52)) := (Below.refl _ w).alloc (Nat.le_refl _) _
        have HSO := Lib.hid (sorted_any (w.alloc (.cells #[.slice ao l.length cap] 52)) hl (World.alloc_heap_new w _) (HV.out.below hb0))
        have HB0 := Lib.hid hb0
        have HNT := Lib.hid (fun w5 => new_table (W : Int) (K : Int) (catW (sortW l)) w5 hcl)
        clear hall hlt hk HK
        go_wp2_with (first
          | (go_at_call 91; refine (HVM.out _).mono ?_; rintro e w1 ⟨rfl, rfl⟩)
          | (go_at_call 90; (with_reducible refine HSO.out.mono ?_); rintro e w1 ⟨u, rfl, hu⟩; have HU := Lib.hid hu; have HJ := Lib.hid (join_own w1 (by rw [sortW_len]; exact hl) (by rw [sortW_len]; exact hu.1) hcl); obtain ⟨ao2, cap2, hsl⟩ := (RowW.of_own (by rw [sortW_len]; exact hu.1 : w1.ownsRow _ 9 1 u (sortW l).length (strsW (sortW l)))).slice; subst hsl; clear hu)
          | (go_at_call 56; (with_reducible refine HJ.out.mono ?_); rintro e w2 ⟨rfl, hb2⟩; have HB2 := Lib.hid hb2; clear hb2)
          | (go_at_call 89; (with_reducible refine (HNT.out _).mono ?_); rintro e w3 ⟨t, u, rfl, hu⟩; have HN := Lib.hid hu; clear hu))
        go_ret2
        refine ⟨_, _, rfl, by rw [HE.out, HO.out]; exact HN.out.1, ?_⟩
        have b1 := HB0.out.trans (HU.out.2.mono HB0.out.size)
        have b2 := b1.trans (HB2.out.mono b1.size)
        exact b2.trans (HN.out.2.mono b2.size)
end Go.Proofs.YtbafmnafhaoggaaGreatDoor
