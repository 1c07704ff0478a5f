/-
  Package grand: Len, Regular, All and its iterator. Package grand: Name. The document's List, Name and Find of layer 5; the statements' own rest.
-/
import Derived.Test.YtbafmnafhaoggaaGreatDoorETags
import Derived.OwnWalkIn
import Derived.OneCell
import Derived.TacticsInMore
import Derived.LoopNIn
import Derived.LoopIn
import Derived.RangeFuncKeeps
import Derived.Shelf.Abstract
import Derived.IntWalk
/-! Package grand: Len, Regular, All and its iterator. -/
namespace Go.Proofs.YtbafmnafhaoggaaGreatDoor
open Go Go.RowKit

attribute [local go_sem] Oper.semAt_some

set_option maxRecDepth 100000 in
theorem all_make (w : World) : Calls Tryz.prog 163 #[] w fun e w' => e = .returned (.func (.func 176) #[] #[]) ∧ w = w' := by
  go_enter Tryz.func163, Tryz.ntmps163
  go_wp2
  go_ret
  exact ⟨rfl, rfl⟩

/-- All, with their numbers. -/
def gAll : List (Nat × ByteArray) := (List.range 26).map fun k => (k, nameG k)
theorem gAll_len : gAll.length = 26 := by simp [gAll]
theorem gAll_take (k : Nat) (hk : k < 26) : gAll.take (k + 1) = gAll.take k ++ [(k, nameG k)] := by
  rw [List.take_add_one]
  congr 1
  simp [gAll, hk]
theorem gAll_prefix (k : Nat) : gAll.take k <+: gAll := List.take_prefix _ _
theorem index_tag (k : Nat) (hk : k < 26) (w : World) : (Instr.index 236 (.agg gC.toArray) (.int .i64 (k : Int))).run Tryz.prog w = .ok (.agg #[.string (nameG k), .bool (regG k)]) w := by
  have h : k = 0 ∨ k = 1 ∨ k = 2 ∨ k = 3 ∨ k = 4 ∨ k = 5 ∨ k = 6 ∨ k = 7 ∨ k = 8 ∨ k = 9 ∨ k = 10 ∨ k = 11 ∨ k = 12 ∨ k = 13 ∨ k = 14 ∨ k = 15 ∨ k = 16 ∨ k = 17 ∨ k = 18 ∨ k = 19 ∨ k = 20 ∨ k = 21 ∨ k = 22 ∨ k = 23 ∨ k = 24 ∨ k = 25 := by omega
  rcases h with rfl | rfl | rfl | rfl | rfl | rfl | rfl | rfl | rfl | rfl | rfl | rfl | rfl | rfl | rfl | rfl | rfl | rfl | rfl | rfl | rfl | rfl | rfl | rfl | rfl | rfl <;> (show _ = _; kernel_rfl)

theorem wpListIn_load_tags {F : Fence} {n : Nat} {w : World} {ops : Array Oper} {rest : List Oper} {o : Oper} {a : Act} {Q : Exit → Act → World → Prop}
    (hg : o.guard = none) (hop : o.op = .load 236 (.global 1)) (h : GL w) {gc : Array Value} (hgc : gC.toArray = gc)
    (hK : wpListIn F n Tryz.prog ops Q rest (a.put o.dst (.agg gc)) w) : wpListIn F n Tryz.prog ops Q (o :: rest) a w := by
  refine wpListIn_plain hg fun K hK' => ?_
  unfold Oper.wpIn
  refine ⟨?_, ?_⟩
  · simp [Oper.about, hop]
  · rw [Oper.semAt_plain F _ _ (by rw [hop]; intro c hc'; cases hc')]
    have he : a.eval (.global 1) = .pointer (some ⟨1, 0, none⟩) := rfl
    simp only [execOp, hop, he, Sem.run_bind, h.load, Result.andThen]
    rw [hgc]
    exact hK' _ _ hK

set_option maxRecDepth 100000 in
set_option maxHeartbeats 4000000 in
theorem all_in (n l hi : Nat) (q : Nat → Prop) (fr : Obj → Bool) (B0 : Nat) (J Jx : List (Nat × ByteArray) → World → Prop) (hJ : OwnFrom B0 J)
    (hY : ∀ pre (x : Nat × ByteArray) W, J pre W → pre ++ [x] <+: gAll → YieldAt Fence.wide (n - 1) Tryz.prog l #[.int .i64 x.1, .string x.2] W fun e W' =>
      (e = .returned (.bool true) ∧ J (pre ++ [x]) W' ∧ KeepQ q hi fr W W') ∨ (e = .returned (.bool false) ∧ Jx (pre ++ [x]) W' ∧ KeepQ q hi fr W W'))
    (W : World) (hg : GL W) (h0 : J [] W) :
    CallsIn Fence.wide n Tryz.prog 176 #[.func (.yield l) #[] #[]] W fun e W' => (∃ v, e = .returned v) ∧
      ((∃ ys, ys = gAll ∧ J ys W') ∨ (∃ pre, pre <+: gAll ∧ Jx pre W')) := by
  have HG := Lib.hid hg
  clear hg
  refine callsIn_of_wp Tryz.func176 rfl trivial ?_ rfl
  simp only [Tryz.ntmps176, List.size_toArray, List.length_cons, List.length_nil, Nat.reduceAdd, Nat.reduceSub, Array.replicate_succ, Array.replicate_zero, List.push_toArray, List.append_toArray, List.nil_append, List.cons_append]
  have hidx := index_tag
  obtain ⟨gc, hgc⟩ : ∃ g, gC.toArray = g := ⟨_, rfl⟩
  rw [hgc] at hidx
  have HGC := Lib.hid hgc
  clear hgc
  gi_wp2_with (refine wpListIn_load_tags rfl rfl HG.out HGC.out ?_)
  clear HG HGC
  gi_loopw [5] (fun x wr => ∃ k : Nat, x = .int .i64 (k : Int) ∧ k ≤ 26 ∧ J (gAll.take k) wr) (fun x _ => 27 - (intOf x).toNat)
  case atStart => exact ⟨0, rfl, Nat.zero_le _, h0⟩
  case round =>
    obtain ⟨k, rfl, hk, hJs⟩ := hrel
    by_cases hlt : k < 26
    · have hlt' : (k : Int) < 26 := by omega
      have hk0 : (0 : Int) ≤ (k : Int) := by omega
      have hi := hidx k hlt
      have hp := gAll_take k hlt
      have hJ1 := hJ.alloc (.cells #[.string (nameG k), .bool (regG k)] 235) hJs
      have hpre : gAll.take k ++ [(k, nameG k)] <+: gAll := by rw [← hp]; exact gAll_prefix _
      obtain ⟨fn, tmps, assign, body, hy, hR⟩ := hY _ (k, nameG k) _ hJ1 hpre
      have HP := Lib.hid hp
      clear hp hJ1
      gi_wp2_with fail
      refine ⟨fun h => (by simp [Fence.wide] at h), ?_⟩
      refine hR.mono ?_
      rintro e W3 (⟨rfl, hJ3, hk3⟩ | ⟨rfl, hJx3, hk3⟩)
      · gi_wp2
        go_roundw
        case rel => exact ⟨k + 1, by go_num, by omega, by rw [HP.out]; exact hJ3⟩
        case measure => simp [intOf]; omega
      · gi_wp2
        refine bodyPost_ret (results_none rfl _ _ _) rfl ?_
        exact ⟨⟨_, rfl⟩, .inr ⟨_, hpre, hJx3⟩⟩
    · obtain rfl : k = 26 := by omega
      gi_wp2
      go_end0
      exact ⟨⟨_, rfl⟩, .inl ⟨_, rfl, by rwa [List.take_of_length_le (by rw [gAll_len]; exact Nat.le_refl _)] at hJs⟩⟩

theorem all_seq {fr : Obj → Bool} {q : Nat → Prop} {w : World} (hg : GL w) :
    SeqQ Tryz.prog 176 #[] (fun x : Nat × ByteArray => #[.int .i64 x.1, .string x.2]) q fr (fun ys => ys = gAll) (fun pre => pre <+: gAll) w := fun n l J Jx W hW hJ _ hY h0 =>
  all_in n l W.heap.size q fr _ J Jx hJ hY W (hg.below hW hg.size) h0
theorem prefix_gAll {pre : List (Nat × ByteArray)} {x : Nat × ByteArray} (h : pre ++ [x] <+: gAll) : pre.length < 26 ∧ x = (pre.length, nameG pre.length) := by
  obtain ⟨r, hr⟩ := h
  have hl := congrArg List.length hr
  rw [gAll_len] at hl
  simp at hl
  have h1 : pre.length < 26 := by omega
  refine ⟨h1, ?_⟩
  have h2 := congrArg (fun l => l[pre.length]?) hr
  simpa [gAll, h1] using h2
end Go.Proofs.YtbafmnafhaoggaaGreatDoor

/-! Package grand: Name. -/
namespace Go.Proofs.YtbafmnafhaoggaaGreatDoor
open Go Go.RowKit

attribute [local go_sem] Oper.semAt_some

theorem ownFrom_below {β : Type} {B B0 : Nat} {W0 : World} (hB : B0 ≤ B) (hs0 : B0 ≤ W0.heap.size) : OwnFrom B (fun (_ : β) W => Below B0 W0 W) :=
  fun _ _ _ _ hs hg hr => hs.grown hg (Nat.le_trans hs0 hs.size) (fun r e => by have := (hr r e).1; omega)

/-- Among the tags told so far there is none with this number; nothing has been written. -/
def NmI (W0 : World) (i : Int) (pre : List (Nat × ByteArray)) (W : World) : Prop := Below W0.heap.size W0 W ∧ ∀ k : Nat, k < pre.length → (k : Int) ≠ i
def NmX (w : World) (L : Nat) (i : Int) (c : Code) (pre : List (Nat × ByteArray)) (W : World) : Prop :=
  c = .ret ∧ (∃ k, pre.length = k + 1 ∧ (k : Int) = i ∧ W.heap[L + 1]? = some (.cells #[.string (nameG k)] 9 (0, 0)) ∧ W.heap[L + 1 + 1]? = some (.cells #[.bool true] 4 (0, 0))) ∧ Below L w W

/-- The name of a number, and whether there is one. -/
def nameV (i : Int) : ByteArray × Bool := if 0 ≤ i ∧ i < 26 then (nameG i.toNat, true) else (⟨#[]⟩, false)
theorem nameV_in (k : Nat) (hk : k < 26) : nameV (k : Int) = (nameG k, true) := by
  unfold nameV
  rw [if_pos ⟨by omega, by omega⟩, Int.toNat_natCast]
theorem nameV_out (i : Int) (h : i < 0 ∨ 26 ≤ i) : nameV i = (⟨#[]⟩, false) := by
  unfold nameV
  rw [if_neg (by omega)]

theorem name_end {w W : World} {D : Nat} {a : Act} {s : ByteArray} {b : Bool} {i : Int} (hv : nameV i = (s, b))
    (hr : W.heap[w.heap.size + 1]? = some (.cells #[.string s] 9 (0, 0))) (hr2 : W.heap[w.heap.size + 1 + 1]? = some (.cells #[.bool b] 4 (0, 0))) (h1 : W.heap[D]? = some (.deferred (some [])))
    (hw1 : w.heap.size + 1 + 1 < D) (hB : Below w.heap.size w W) (ha : a.defers = [{ target := .collected D, args := #[] }]) (ht : a.tmps.getD 2 undef = .pointer (some ⟨w.heap.size + 1, 0, none⟩)) (ht3 : a.tmps.getD 3 undef = .pointer (some ⟨w.heap.size + 1 + 1, 0, none⟩)) :
    bodyPostM Fence.wide 0 Tryz.prog Tryz.f139 (fun e w' => e = .returned (.tuple #[.string (nameV i).1, .bool (nameV i).2]) ∧ Below w.heap.size w w') .ret a W := by
  have k1 : (W.putObj D (.deferred none)).heap[w.heap.size + 1]? = some (.cells #[.string s] 9 (0, 0)) := (World.putObj_heap_other (by omega)).trans hr
  have k2 : (W.putObj D (.deferred none)).heap[w.heap.size + 1 + 1]? = some (.cells #[.bool b] 4 (0, 0)) := (World.putObj_heap_other (by omega)).trans hr2
  obtain ⟨tmps, defers⟩ := a
  dsimp only at ha ht ht3
  subst ha
  rw [Array.getD_eq_getD_getElem?] at ht ht3
  rw [hv]
  refine ⟨by simp, .inl ⟨_, _, rfl, run_takeDeferred h1, ?_⟩⟩
  refine ⟨.tuple #[.string s, .bool b], by simp [results, Tryz.results139, go_sem, ht, ht3, cell_of_one k1, cell_of_one k2], rfl, ?_⟩
  exact hB.trans (belowK_b (w := w) (Nat.le_refl _) _ D _ (.deferred none) (by omega) h1 rfl rfl)

set_option maxRecDepth 100000 in
set_option maxHeartbeats 4000000 in
theorem name_any (i : Int) (w : World) (hg : GL w) :
    Calls Tryz.prog 139 #[.int .i64 i] w fun e w' => e = .returned (.tuple #[.string (nameV i).1, .bool (nameV i).2]) ∧ Below w.heap.size w w' := by
  have HG := Lib.hid hg
  clear hg
  refine callsIn_wide (n := 0) |>.1 ?_
  refine callsIn_of_wp_marks Tryz.func139 rfl trivial ?_ rfl
  simp only [Tryz.ntmps139, List.size_toArray, List.length_cons, List.length_nil, Nat.reduceAdd, Nat.reduceSub, Array.replicate_succ, Array.replicate_zero, List.push_toArray, List.append_toArray, List.nil_append, List.cons_append]
  gi_wp2_with fail
  obtain ⟨W0, hW0⟩ : ∃ W0, (((w.alloc (.cells #[.int .i64 i] 3)).alloc (.cells #[.string ({ data := #[] } : ByteArray)] 9)).alloc (.cells #[.bool false] 4)) = W0 := ⟨_, rfl⟩
  have hb0 : Below w.heap.size w W0 := by rw [← hW0]; exact (((Below.refl _ w).alloc (Nat.le_refl _) _).alloc (by simp) _).alloc (by simp; omega) _
  have hs0 : W0.heap.size = w.heap.size + 1 + 1 + 1 := by rw [← hW0]; simp
  have hx0 : W0.heap[w.heap.size]? = some (.cells #[.int .i64 i] 3 (0, 0)) := by
    rw [← hW0, Below.heap_alloc _ _ _ (by simp; omega), Below.heap_alloc _ _ _ (by simp)]; exact World.alloc_heap_new w _
  have hy0 : W0.heap[w.heap.size + 1]? = some (.cells #[.string ({ data := #[] } : ByteArray)] 9 (0, 0)) := by
    rw [← hW0, Below.heap_alloc _ _ _ (by simp)]
    have := World.alloc_heap_new (w.alloc (.cells #[.int .i64 i] 3)) (.cells #[.string ({ data := #[] } : ByteArray)] 9)
    rwa [World.size_alloc] at this
  have hz0 : W0.heap[w.heap.size + 1 + 1]? = some (.cells #[.bool false] 4 (0, 0)) := by
    rw [← hW0]
    have := World.alloc_heap_new ((w.alloc (.cells #[.int .i64 i] 3)).alloc (.cells #[.string ({ data := #[] } : ByteArray)] 9)) (.cells #[.bool false] 4)
    rwa [World.size_alloc, World.size_alloc] at this
  rw [hW0]
  clear hW0
  have HX0 := Lib.hid hx0
  have HY0 := Lib.hid hy0
  have HZ0 := Lib.hid hz0
  have HB0 := Lib.hid hb0
  have hg0 := HG.out.below hb0 HG.out.size
  clear hx0 hy0 hz0 hb0
  refine ⟨trivial, rfl, CallsIn.mono (callsIn_wide.2 (all_make W0)) ?_⟩
  rintro e w' ⟨rfl, rfl⟩
  gi_wp2_with fail
  have hseq := all_seq (fr := fun _ => false) (q := fun j => j < w.heap.size) hg0
  clear hg0
  refine rangeQ (gf := 176) (lb := #[]) rfl (Go.Proofs.enters_of Tryz.func176 (by kernel_rfl) rfl) hseq (fun _ h => by cases h) (fun j h => by omega) (fun _ => rfl)
    (NmI W0 i) (NmX w w.heap.size i)
    (fun s A B row hs hg hr => ⟨ownFrom_below (β := Unit) (Nat.le_refl _) (Nat.le_refl _) () A B row hs.1 hg hr, hs.2⟩)
    (fun c s A B row hs hg hr => ⟨hs.1, by
      obtain ⟨k, e1, e2, e3, e4⟩ := hs.2.1
      exact ⟨k, e1, e2, ownFrom_block (β := Unit) (by omega) () A B row e3 hg hr, ownFrom_block (β := Unit) (by omega) () A B row e4 hg hr⟩, ownFrom_below (β := Unit) (by omega) (Nat.le_refl _) () A B row hs.2.2 hg hr⟩)
    ⟨Below.refl _ _, fun k hk => by simp at hk⟩
    (fun y => { tmps := #[.int .i64 i, .pointer (some ⟨w.heap.size, 0, none⟩), .pointer (some ⟨w.heap.size + 1, 0, none⟩), .pointer (some ⟨w.heap.size + 1 + 1, 0, none⟩), .int .i64 y.1, .string y.2, .func (.func 176) #[] #[], .int .i64 y.1, .string y.2, undef, undef, undef, undef], defers := [] })
    ?assign ?body ?done ?stop
  case assign =>
    intro l' y W3 K hK
    gi_wp2
    exact hK
  case body =>
    rintro l' pre x W3 ⟨hbl, hne⟩ hpre hsz3
    obtain ⟨hk, rfl⟩ := prefix_gAll hpre
    have hx3 := (hbl.block _ (lt_of_block HX0.out)).trans HX0.out
    have hy3 := (hbl.block _ (lt_of_block HY0.out)).trans HY0.out
    have hz3 := (hbl.block _ (lt_of_block HZ0.out)).trans HZ0.out
    have c0 := cell_of_one hx3
    have c1 := cell_of_one hy3
    have f1 := free_of_one hy3
    have c2 := cell_of_one hz3
    have f2 := free_of_one hz3
    have HBL := Lib.hid hbl
    have HY3 := Lib.hid hy3
    have HZ3 := Lib.hid hz3
    obtain ⟨k, hkl⟩ : ∃ k, pre.length = k := ⟨_, rfl⟩
    rw [hkl] at hk hne hpre ⊢
    have HPL := Lib.hid hkl
    clear hbl hx3 hy3 hz3 hkl hpre hsz3
    dsimp only
    by_cases he : (k : Int) = i
    · have hei : ((k : Int) == i) = true := by rw [beq_iff_eq]; exact he
      gi_wp2_with fail
      have hb1 : Below w.heap.size W3 (W3.setCell ⟨w.heap.size + 1, 0, none⟩ (.string (nameG k))) := (Below.refl _ W3).setCell (p := ⟨w.heap.size + 1, 0, none⟩) (by show w.heap.size ≤ w.heap.size + 1; omega) _
      have hb2 : Below w.heap.size W3 ((W3.setCell ⟨w.heap.size + 1, 0, none⟩ (.string (nameG k))).setCell ⟨w.heap.size + 1 + 1, 0, none⟩ (.bool true)) := hb1.setCell (p := ⟨w.heap.size + 1 + 1, 0, none⟩) (by show w.heap.size ≤ w.heap.size + 1 + 1; omega) _
      refine ⟨(KeepQ.setCell _ _ _ _ (p := ⟨w.heap.size + 1, 0, none⟩) _ (fun h => by have : w.heap.size + 1 < w.heap.size := h; omega) (by show w.heap.size + 1 < W0.heap.size; omega)).trans (KeepQ.setCell _ _ _ _ (p := ⟨w.heap.size + 1 + 1, 0, none⟩) _ (fun h => by have : w.heap.size + 1 + 1 < w.heap.size := h; omega) (by show w.heap.size + 1 + 1 < W0.heap.size; omega)), rfl,
        ⟨k, by simp [HPL.out], he, (Below.heap_setCell _ _ _ _ (by show w.heap.size + 1 ≠ w.heap.size + 1 + 1; omega)).trans (one_setCell HY3.out), one_setCell ((Below.heap_setCell _ _ _ _ (by show w.heap.size + 1 + 1 ≠ w.heap.size + 1; omega)).trans HZ3.out)⟩,
        HB0.out.trans ((HBL.out.mono (by omega)).trans hb2)⟩
    · have hei : ((k : Int) == i) = false := by rw [beq_eq_false_iff_ne]; exact he
      gi_wp2_with fail
      refine ⟨KeepQ.refl _ _ _ _, HBL.out, fun j hj => ?_⟩
      rw [List.length_append, List.length_singleton, HPL.out] at hj
      rcases Nat.lt_or_eq_of_le (Nat.le_of_lt_succ hj) with h | h
      · exact hne j h
      · rw [h]; exact he
  case done =>
    rintro D ys W3 hD rfl ⟨hbl, hne⟩ hK
    rw [gAll_len] at hne
    have hout : i < 0 ∨ 26 ≤ i := by
      rcases Int.lt_or_le i 0 with h | h
      · exact .inl h
      · rcases Int.lt_or_le i 26 with h' | h'
        · exact (hne i.toNat (by omega) (by omega)).elim
        · exact .inr h'
    have hy3 := (hbl.block _ (lt_of_block HY0.out)).trans HY0.out
    have hz3 := (hbl.block _ (lt_of_block HZ0.out)).trans HZ0.out
    have c1 := cell_of_one hy3
    have f1 := free_of_one hy3
    have c2 := cell_of_one hz3
    have f2 := free_of_one hz3
    have hB3 : Below w.heap.size w W3 := HB0.out.trans (hbl.mono (by omega))
    have HY3 := Lib.hid hy3
    have HZ3 := Lib.hid hz3
    have HK := Lib.hid hK
    have HV := Lib.hid (nameV_out i hout)
    clear hbl hne hy3 hz3 hK hout hseq
    gi_wp2_with fail
    have e1 : ∀ j, j ≠ w.heap.size + 1 → j ≠ w.heap.size + 1 + 1 → ((W3.setCell ⟨w.heap.size + 1, 0, none⟩ (.string ({ data := #[] } : ByteArray))).setCell ⟨w.heap.size + 1 + 1, 0, none⟩ (.bool false)).heap[j]? = W3.heap[j]? := fun j h1 h2 =>
      (Below.heap_setCell _ _ _ _ (by show j ≠ w.heap.size + 1 + 1; exact h2)).trans (Below.heap_setCell _ _ _ _ (by show j ≠ w.heap.size + 1; exact h1))
    refine name_end HV.out ((Below.heap_setCell _ _ _ _ (by show w.heap.size + 1 ≠ w.heap.size + 1 + 1; omega)).trans (one_setCell HY3.out)) (one_setCell ((Below.heap_setCell _ _ _ _ (by show w.heap.size + 1 + 1 ≠ w.heap.size + 1; omega)).trans HZ3.out))
      ((e1 D (by omega) (by omega)).trans HK.out) (by omega)
      ((hB3.setCell (p := ⟨w.heap.size + 1, 0, none⟩) (by show w.heap.size ≤ w.heap.size + 1; omega) _).setCell (p := ⟨w.heap.size + 1 + 1, 0, none⟩) (by show w.heap.size ≤ w.heap.size + 1 + 1; omega) _) rfl rfl rfl
  case stop =>
    rintro D c pre W3 hD hpre ⟨rfl, ⟨k, e1, e2, e3, e4⟩, hbl⟩ hK
    have hl := hpre.length_le
    rw [gAll_len, e1] at hl
    have HV := Lib.hid (show nameV i = (nameG k, true) by rw [← e2]; exact nameV_in k (by omega))
    clear hseq
    gi_wp2_with fail
    exact name_end HV.out e3 e4 hK (by omega) hbl rfl rfl rfl
end Go.Proofs.YtbafmnafhaoggaaGreatDoor

/-! The document's List, Name and Find of layer 5; the statements' own rest. -/
namespace Go.Proofs.YtbafmnafhaoggaaGreatDoor
open Go Go.RowKit

/-- The document's list lies in block b. -/
def LG (b : Nat) (W : World) : Prop := ∀ k, k < 26 → W.cell? ⟨b, k, none⟩ = some (.string (starG k))
theorem LG.below {b B : Nat} {w w' : World} (h : LG b w) (hb : Below B w w') (hB : b < B) : LG b w' := fun k hk => (hb.cell (p := ⟨b, k, none⟩) hB).trans (h k hk)
theorem texts_ne {p q : ByteArray} (h : ¬ p = q) : (p.toList == q.toList) = false := by
  rw [beq_eq_false_iff_ne]
  intro e
  apply h
  rw [ByteArray.toList_eq, ByteArray.toList_eq] at e
  exact ByteArray.ext (Array.toList_inj.1 e)
end Go.Proofs.YtbafmnafhaoggaaGreatDoor
