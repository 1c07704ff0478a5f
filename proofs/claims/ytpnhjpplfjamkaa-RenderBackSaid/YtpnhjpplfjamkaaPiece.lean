/-
  A function that holds a label, inside a fence: the scope is passed where no goto leaves it. No program is named here. strings.IndexByte and strings.LastIndexByte of the mark; package split: single, Trim. Package split: single, Trim. Package split: Each and its iterator. Package split: Split. The document's Same: are two rows of texts the same? Package split: Check; what Kind, Place and Whats tell of its error. The statements' own (layer 4): awake and short. What the laws of layer 4 share: contracts that go on from the start of the law.
-/
import Derived.TacticsIn
import Derived.WalkMore
import Derived.Test.YtpnhjpplfjamkaaSeqs
import Derived.Test.YtpnhjpplfjamkaaBMaths
import Derived.Test.YtpnhjpplfjamkaaBase
import Derived.Lib.Walk
import Derived.Lib.Strings
import Derived.BigGuard
import Derived.BigQuiet
import Derived.Deep.QuietTactic
import Derived.OwnWalkIn
import Derived.OneCell
import Derived.TacticsInMore
import Derived.LoopNIn
import Derived.LoopIn
import Derived.Test.YtpnhjpplfjamkaaFault
/-! A function that holds a label, inside a fence: the scope is passed where no goto leaves it. No program is named here. -/
namespace Go.Proofs.Ytpnhjpplfjamkaa
open Go

variable {F : Fence} {n : Nat} {P : Program} {b : Frame} {a : Act} {k : List Go.Item} {cs : List Frame} {w : World} {Q : Exit → Act → World → Prop}

end Go.Proofs.Ytpnhjpplfjamkaa

/-! strings.IndexByte and strings.LastIndexByte of the mark; package split: single, Trim. -/
namespace Go.Proofs.Ytpnhjpplfjamkaa
open Go Go.RowKit

set_option maxRecDepth 100000 in
theorem slIndex_any (s : ByteArray) (w : World) :
    Calls Try.prog 78 #[.string s, .int .u8 45] w fun e w' => e = .returned (.int .i64 (Lib.indexByte (bs s) 45)) ∧ w = w' := by
  have hx := @run_callFunc_extern Try.prog 83 _ Extern.BytealgIndexByte.indexByte Try.func83 (by kernel_rfl) (by kernel_rfl) (by kernel_rfl) (by kernel_rfl)
  have hX := Lib.hid hx
  clear hx
  go_enter Try.func78, Try.ntmps78
  go_wp2
  rw [hX.out, Lib.run_indexByteString]
  simp only [Result.andThen]
  rw [Oper.upon_value]
  go_wp2
  go_ret
  exact ⟨rfl, rfl⟩
set_option maxRecDepth 100000 in
theorem index_any (s : ByteArray) (w : World) :
    Calls Try.prog 57 #[.string s, .int .u8 45] w fun e w' => e = .returned (.int .i64 (Lib.indexByte (bs s) 45)) ∧ w = w' := by
  go_enter Try.func57, Try.ntmps57
  go_wp2_with (go_at_call 78; refine (slIndex_any _ _).mono ?_; rintro e w' ⟨rfl, rfl⟩)
  go_ret
  exact ⟨rfl, rfl⟩

theorem bs_get (s : ByteArray) (k : Nat) (h : k < s.size) : (bs s)[k]? = some s[k] := by
  show s.data.toList[k]? = _
  rw [Array.getElem?_toList]
  exact Array.getElem?_eq_getElem h
end Go.Proofs.Ytpnhjpplfjamkaa

/-! Package split: single, Trim. -/
namespace Go.Proofs.Ytpnhjpplfjamkaa
open Go Go.RowKit

theorem mark_true {c : UInt8} (h : c = 45) : ((c.toNat : Int) == 45) = true ∧ ((c.toNat : Int) != 45) = false := by rw [h]; exact ⟨rfl, rfl⟩
theorem mark_false {c : UInt8} (h : c ≠ 45) : ((c.toNat : Int) == 45) = false ∧ ((c.toNat : Int) != 45) = true := by
  have e : ((c.toNat : Int) == 45) = false := by
    rw [beq_eq_false_iff_ne]
    exact fun e => h (UInt8.toNat_inj.1 (by have : c.toNat = 45 := by omega
                                            simpa using this))
  exact ⟨e, by rw [bne, e]; rfl⟩

end Go.Proofs.Ytpnhjpplfjamkaa

/-! Package split: Each and its iterator. -/
namespace Go.Proofs.Ytpnhjpplfjamkaa
open Go Go.RowKit

attribute [local go_sem] Oper.semAt_some

set_option maxRecDepth 100000 in
theorem each_make (s : ByteArray) (w : World) :
    Calls Try.prog 42 #[.string s] w fun e w' => e = .returned (.func (.func 56) #[] #[.pointer (some ⟨w.heap.size, 0, none⟩)]) ∧ w.alloc (.cells #[.string s] 9) = w' := by
  have hmf : ∀ (fn : Fn) (first cap : Array Value) (w : World), (Instr.makeFunc fn first cap).run Try.prog w = .ok (.func fn first cap) w := fun _ _ _ _ => rfl
  go_enter Try.func42, Try.ntmps42
  go_wp2
  go_ret
  exact ⟨rfl, rfl⟩

theorem drop_extract (s : ByteArray) (a : Nat) : s.extract a s.size = ofL ((bs s).drop a) := by
  apply ofL_ext
  rw [bs_ofL, bs_extract, List.take_of_length_le]
  rw [List.length_drop, size_bs]
  exact Nat.le_refl _
/-- One round of Each: the last piece, or one piece more. -/
theorem each_step (s : ByteArray) (a : Nat) (ha : a ≤ s.size) :
    (Lib.indexByte (bs (s.extract a s.size)) 45 = -1 ∧ placed a (spl ((bs s).drop a)) = [(a, s.extract a s.size)]) ∨
    ∃ m : Nat, Lib.indexByte (bs (s.extract a s.size)) 45 = (m : Int) ∧ a + m + 1 ≤ s.size ∧ placed a (spl ((bs s).drop a)) = (a, s.extract a (a + m)) :: placed (a + m + 1) (spl ((bs s).drop (a + m + 1))) := by
  rw [drop_extract, bs_ofL]
  rcases idx_cases ((bs s).drop a) with ⟨h1, h2⟩ | ⟨p, r, h1, h2, h3⟩
  · refine .inl ⟨h1, ?_⟩
    rw [spl_plain h2]; rfl
  · refine .inr ⟨p.length, h1, ?_, ?_⟩
    · have := congrArg List.length h2
      rw [List.length_drop, size_bs] at this
      simp at this; omega
    · have hr : (bs s).drop (a + p.length + 1) = r := by
        have e := congrArg (List.drop (p.length + 1)) h2
        rw [List.drop_drop, ← Nat.add_assoc] at e
        rw [e, show p ++ 45 :: r = (p ++ [45]) ++ r by simp, List.drop_left' (by simp)]
      have hp : s.extract a (a + p.length) = ofL p := by
        apply ofL_ext
        rw [bs_ofL, bs_extract, h2, show a + p.length - a = p.length by omega, List.take_left]
      rw [hr, hp]
      conv => lhs; rw [h2, spl_app, spl_plain h3]
      rfl

theorem slice_mid (s : ByteArray) (a m : Nat) (h : a + m ≤ s.size) (w : World) :
    (Instr.slice 9 (.string s) (some (.int .i64 (a : Int))) (some (.int .i64 ((a : Int) + (m : Int)))) none).run Try.prog w = .ok (.string (s.extract a (a + m))) w := by
  rw [run_slice_string w 9 s .i64 .i64 (a : Int) ((a : Int) + (m : Int)) Try.underlying9 (by omega) (by omega) (by omega), show ((a : Int) + (m : Int)).toNat = a + m by omega, Int.toNat_natCast]

set_option maxRecDepth 100000 in
set_option maxHeartbeats 4000000 in
theorem each_in (n l Bn hi : Nat) (q : Nat → Prop) (fr : Obj → Bool) (s : ByteArray) (hs : s.size ≤ 140737488351232) (hq : q Bn) (J Jx : List (Nat × ByteArray) → World → Prop)
    (hY : ∀ pre (x : Nat × ByteArray) W, J pre W → pre ++ [x] <+: pieces s → YieldAt Fence.wide (n - 1) Try.prog l #[.int .i64 x.1, .string x.2] W fun e W' =>
      (e = .returned (.bool true) ∧ J (pre ++ [x]) W' ∧ KeepQ q hi fr W W') ∨ (e = .returned (.bool false) ∧ Jx (pre ++ [x]) W' ∧ KeepQ q hi fr W W'))
    (W : World) (hBn : W.heap[Bn]? = some (.cells #[.string s] 9 (0, 0))) (h0 : J [] W) :
    CallsIn Fence.wide n Try.prog 56 #[.func (.yield l) #[] #[], .pointer (some ⟨Bn, 0, none⟩)] W fun e W' => (∃ v, e = .returned v) ∧
      ((∃ ys, ys = pieces s ∧ J ys W') ∨ (∃ pre, pre <+: pieces s ∧ Jx pre W')) := by
  refine callsIn_of_wp Try.func56 rfl trivial ?_ rfl
  simp only [Try.ntmps56, List.size_toArray, List.length_cons, List.length_nil, Nat.reduceAdd, Nat.reduceSub, Array.replicate_succ, Array.replicate_zero, List.push_toArray, List.append_toArray, List.nil_append, List.cons_append]
  have HBn := Lib.hid hBn
  clear hBn
  gi_wp2
  gi_loopw [3] (fun x wr => ∃ (pre : List (Nat × ByteArray)) (a : Nat), x = .int .i64 a ∧ a ≤ s.size ∧ Hid (pieces s = pre ++ placed a (spl ((bs s).drop a))) ∧ Hid (wr.heap[Bn]? = some (.cells #[.string s] 9 (0, 0))) ∧ J pre wr)
    (fun x _ => s.size + 1 - (intOf x).toNat)
  case atStart => exact ⟨[], 0, rfl, Nat.zero_le _, Lib.hid (by rfl), HBn, h0⟩
  case round =>
    obtain ⟨pre, a, rfl, ha, HP, HB, hJs⟩ := hrel
    have hc := cell_of_one HB.out
    have hi0 : (0 : Int) ≤ (a : Int) := by omega
    have hi1 : (a : Int) ≤ (s.size : Int) := by omega
    have HI := Lib.hid (fun w5 => index_any (s.extract a s.size) w5)
    rcases each_step s a ha with ⟨h1, h2⟩ | ⟨m, h1, h3, h2⟩
    · rw [h1] at HI
      have hp := HP.out
      rw [h2] at hp
      obtain ⟨fn, tmps, assign, body, hy, hR⟩ := hY pre (a, s.extract a s.size) wr hJs (by rw [hp]; exact List.prefix_refl _)
      have HP2 := Lib.hid hp
      clear h1 h2 hp
      gi_wp2_with fail
      refine ⟨trivial, fun h => (by simp [Fence.wide] at h), (callsIn_wide.2 (HI.out _)).mono ?_⟩
      rintro e w' ⟨rfl, rfl⟩
      gi_wp2
      refine ⟨fun h => (by simp [Fence.wide] at h), ?_⟩
      refine hR.mono ?_
      rintro e W3 (⟨rfl, hJ3, hk3⟩ | ⟨rfl, hJx3, hk3⟩)
      · gi_wp2
        refine bodyPost_ret (results_none rfl _ _ _) rfl ?_
        exact ⟨⟨_, rfl⟩, .inl ⟨_, HP2.out.symm, hJ3⟩⟩
      · gi_wp2
        refine bodyPost_ret (results_none rfl _ _ _) rfl ?_
        exact ⟨⟨_, rfl⟩, .inr ⟨_, by rw [HP2.out]; exact List.prefix_refl _, hJx3⟩⟩
    · rw [h1] at HI
      have hp := HP.out
      rw [h2] at hp
      obtain ⟨fn, tmps, assign, body, hy, hR⟩ := hY pre (a, s.extract a (a + m)) wr hJs ⟨placed (a + m + 1) (spl ((bs s).drop (a + m + 1))), by rw [hp]; simp⟩
      have HP2 := Lib.hid hp
      have hm0 : (0 : Int) ≤ (m : Int) := by omega
      have hm1 : (a : Int) + (m : Int) ≤ (s.size : Int) := by omega
      have hsl := slice_mid s a m (by omega)
      clear h1 h2 hp
      gi_wp2_with fail
      refine ⟨trivial, fun h => (by simp [Fence.wide] at h), (callsIn_wide.2 (HI.out _)).mono ?_⟩
      rintro e w' ⟨rfl, rfl⟩
      gi_wp2
      refine ⟨fun h => (by simp [Fence.wide] at h), ?_⟩
      refine hR.mono ?_
      rintro e W3 (⟨rfl, hJ3, hk3⟩ | ⟨rfl, hJx3, hk3⟩)
      · have HB3 := Lib.hid (hk3.blk _ _ HB.out (.inl hq))
        gi_wp2
        go_roundw
        case rel => exact ⟨_, a + m + 1, by go_num, by omega, Lib.hid (by rw [HP2.out]; simp), HB3, hJ3⟩
        case measure => simp [intOf]; omega
      · gi_wp2
        refine bodyPost_ret (results_none rfl _ _ _) rfl ?_
        exact ⟨⟨_, rfl⟩, .inr ⟨_, ⟨_, by rw [HP2.out, List.append_assoc]; rfl⟩, hJx3⟩⟩

theorem each_seq {fr : Obj → Bool} {Bn : Nat} {s : ByteArray} {w : World} {q : Nat → Prop} (hs : s.size ≤ 140737488351232) (hq : q Bn) (hBn : w.heap[Bn]? = some (.cells #[.string s] 9 (0, 0))) :
    SeqQ Try.prog 56 #[.pointer (some ⟨Bn, 0, none⟩)] (fun x : Nat × ByteArray => #[.int .i64 x.1, .string x.2]) q fr (fun ys => ys = pieces s) (fun pre => pre <+: pieces s) w := fun n l J Jx W hW _ _ hY h0 =>
  each_in n l Bn W.heap.size q fr s hs hq J Jx hY W ((hW.block Bn (Array.getElem?_eq_some_iff.1 hBn).1).trans hBn) h0
end Go.Proofs.Ytpnhjpplfjamkaa

/-! Package split: Split. -/
namespace Go.Proofs.Ytpnhjpplfjamkaa
open Go Go.RowKit

attribute [local go_sem] Oper.semAt_some

def strs (l : List ByteArray) : List Value := l.map Value.string
theorem strs_length (l : List ByteArray) : (strs l).length = l.length := List.length_map ..

/-- The blocks that a round leaves alone: those below a call's start, and the iterator's own box. -/
def qOf (n b : Nat) (k : Nat) : Prop := k < n ∨ k = b

def SpI (w : World) (pre : List (Nat × ByteArray)) (W : World) : Prop :=
  ∃ v, W.heap[w.heap.size]? = some (.cells #[v] 26 (0, 0)) ∧ W.ownsRow (w.heap.size + 2) 9 1 v pre.length (strs (pre.map (·.2))) ∧ Below w.heap.size w W ∧ w.heap.size + 2 ≤ W.heap.size

theorem sp_app {hi : Nat} {w W3 w1 : World} {j : Nat} {v v' s : Value} {xs ys : List Value}
    (hR : W3.heap[w.heap.size]? = some (.cells #[v] 26 (0, 0))) (hown : W3.ownsRow (w.heap.size + 2) 9 1 v j xs) (hB : Below w.heap.size w W3) (hsz : w.heap.size + 2 ≤ W3.heap.size)
    (hown1 : w1.ownsRow (w.heap.size + 2) 9 1 v' (j + 1) ys) (hgrow : (W3.alloc (.cells #[s] 9)).grownBy w1 v.ownBlock) :
    ∃ g' cap', v' = .slice (some ⟨g', 0, none⟩) (j + 1) cap' ∧ w.heap.size + 2 ≤ g' ∧ w1.cell? ⟨w.heap.size, 0, none⟩ = some v ∧ w1.frozen? ⟨w.heap.size, 0, none⟩ = false ∧ KeepQ (qOf w.heap.size (w.heap.size + 1)) hi frS W3 w1 ∧
      Hid (Below w.heap.size w w1 ∧ w.heap.size + 2 ≤ w1.heap.size ∧ w1.heap[w.heap.size]? = some (.cells #[v] 26 (0, 0))) := by
  have hgs := hgrow.size
  have hsd : (W3.alloc (.cells #[s] 9)).heap.size = W3.heap.size + 1 := by simp
  have hne : ∀ r, v.ownBlock = some r → w.heap.size + 2 ≤ r := fun r e => (hown.lt r e).1
  have hblk : ∀ k, k < W3.heap.size → (W3.alloc (.cells #[s] 9)).heap[k]? = W3.heap[k]? := fun k hk => Below.heap_alloc W3 _ k hk
  have hR1' : w1.heap[w.heap.size]? = some (.cells #[v] 26 (0, 0)) := (hgrow.block _ (by omega) (fun e => by have := hne _ e.symm; omega)).trans ((hblk _ (by omega)).trans hR)
  have hB1 : Below w.heap.size w w1 := (hB.alloc hB.size _).grown hgrow (by omega) (fun r e => by have := hne r e; omega)
  obtain ⟨g', cap', rfl⟩ := ownsRow_succ hown1
  refine ⟨g', cap', rfl, (hown1.lt g' rfl).1, cell_of_one hR1', free_of_one hR1', ?_, hB1, by omega, hR1'⟩
  refine (KeepQ.of_below (A := W3) ((Below.refl _ W3).alloc (Nat.le_refl _) _)).trans (KeepQ.grown hgrow (fun r e => ?_))
  have hr := hne r e
  refine ⟨fun h => by unfold qOf at h; omega, .inr ?_⟩
  rcases hown.2 with ⟨rfl, _⟩ | ⟨g, cap, cur, rfl, _, hb, _⟩
  · cases e
  · cases e
    exact ⟨_, (hblk g (Array.getElem?_eq_some_iff.1 hb).1).trans hb, by simp [frS]⟩

set_option maxRecDepth 100000 in
set_option maxHeartbeats 8000000 in
theorem split_any (s : ByteArray) (w : World) (hs : s.size ≤ 1048576) :
    Calls Try.prog 52 #[.string s] w fun e w' => ∃ u, e = .returned u ∧ w'.ownsRow (w.heap.size + 2) 9 1 u (splS s).length (strs (splS s)) ∧ Below w.heap.size w w' := by
  obtain ⟨i0, hi, hz0, hz1, hz2⟩ := info_parts stringInfo
  refine callsIn_wide (n := 0) |>.1 ?_
  refine callsIn_of_wp_marks Try.func52 rfl trivial ?_ rfl
  simp only [Try.ntmps52, List.size_toArray, List.length_cons, List.length_nil, Nat.reduceAdd, Nat.reduceSub, Array.replicate_succ, Array.replicate_zero, List.push_toArray, List.append_toArray, List.nil_append, List.cons_append]
  gi_wp2_with fail
  refine ⟨trivial, rfl, (callsIn_wide.2 (each_make s _)).mono ?_⟩
  rintro e w' ⟨rfl, rfl⟩
  gi_wp2_with fail
  have hbox : ((w.alloc (.cells #[.slice none 0 0] 26)).alloc (.cells #[.string s] 9)).heap[w.heap.size]? = some (.cells #[.slice none 0 0] 26 (0, 0)) := by
    rw [Below.heap_alloc _ _ _ (by simp)]; exact World.alloc_heap_new w _
  have hbox2 : ((w.alloc (.cells #[.slice none 0 0] 26)).alloc (.cells #[.string s] 9)).heap[w.heap.size + 1]? = some (.cells #[.string s] 9 (0, 0)) := by
    have := World.alloc_heap_new (w.alloc (.cells #[.slice none 0 0] 26)) (.cells #[.string s] 9)
    rwa [World.size_alloc] at this
  have hb2 : Below w.heap.size w ((w.alloc (.cells #[.slice none 0 0] 26)).alloc (.cells #[.string s] 9)) := ((Below.refl _ w).alloc (Nat.le_refl _) _).alloc (by simp) _
  have hs2 : ((w.alloc (.cells #[.slice none 0 0] 26)).alloc (.cells #[.string s] 9)).heap.size = w.heap.size + 2 := by simp
  generalize ((w.alloc (.cells #[.slice none 0 0] 26)).alloc (.cells #[.string s] 9)) = W2 at *
  have hseq := each_seq (fr := frS) (w := W2) (q := qOf w.heap.size (w.heap.size + 1)) (by omega) (.inr rfl) hbox2
  refine rangeQ (gf := 56) (lb := #[.pointer (some ⟨w.heap.size + 1, 0, none⟩)]) rfl (Go.Proofs.enters_of Try.func56 (by kernel_rfl) rfl) hseq frS_cells (fun k h => by unfold qOf at h; omega) (fun _ => rfl)
    (SpI w) (fun _ _ _ => False)
    (fun s A B row hs hg hr => by
      obtain ⟨u, h1, h2, h3, h4⟩ := hs
      exact ⟨u, ownFrom_block (β := Unit) (by omega) () A B row h1 hg hr, ownFrom_row (β := Unit) (B := W2.heap.size) () A B row h2 hg hr, ownFrom_below (β := Unit) (n₀ := w.heap.size) (Nat.le_refl _) (by omega) () A B row h3 hg hr, Nat.le_trans h4 hg.size⟩)
    (fun _ _ _ _ _ hs _ _ => hs.elim)
    ⟨_, hbox, World.ownsRow_nil _ _ _ _, hb2, by omega⟩
    (fun x => { tmps := #[.string s, undef, .slice none 0 0, .pointer (some ⟨w.heap.size, 0, none⟩), undef, .string x.2, .string s, .func (.func 56) #[] #[.pointer (some ⟨w.heap.size + 1, 0, none⟩)], .int .i64 x.1, .string x.2, undef, undef, undef, undef, undef], defers := [] })
    ?assign ?body ?done ?stop
  case assign =>
    intro l' x W3 K hK
    gi_wp2
    exact hK
  case body =>
    rintro l' pre ⟨a, p⟩ W3 ⟨u0, hb3, ho3, hB3, hsz3'⟩ hpre hsz3
    have hpl : pre.length ≤ 1048577 := by
      have h1 := hpre.length_le
      have h2 := pieces_length s
      have h3 := splS_le s
      simp at h1; omega
    have hbd1 : pre.length + 1 ≤ maxLen := by unfold maxLen; omega
    have hbd2 : (pre.length + 1) * 16 ≤ 140737488355328 := by omega
    have hc3 := cell_of_one hb3
    have hf3 := free_of_one hb3
    have hnews : ∀ j u, [Value.string p][j]? = some u → (W3.alloc (.cells #[.string p] 9)).cell? ((⟨W3.heap.size, 0, none⟩ : Addr).add j) = some u := cell_one_new W3 (.string p) 9
    have HN := Lib.hid hnews
    have HO := Lib.hid ho3
    have HOD := Lib.hid (ho3.alloc (.cells #[.string p] 9))
    have hOne := Lib.hid hb3
    clear hb3 ho3 hnews
    gi_wp2_with (gi_at_builtin; refine wpListIn_append_own _ rfl _ _ 26 rfl (w.heap.size + 2) 9 i0 (.string ByteArray.empty) 1 16 Try.underlying26 hi hz0 hz1 hz2 rfl (by decide) _ _ _ rfl HOD.out ⟨W3.heap.size, 0, none⟩ 1 1 [.string p] rfl rfl HN.out (by intro u hu; simp at hu; subst hu; rfl) hbd1 hbd2 (by show _ ≤ (W3.alloc _).heap.size; simp; omega) ?_; intro v' w1 hown1 hgrow _; obtain ⟨g', cap', rfl, hg', hc1, hf1, hkeep, HREST⟩ := sp_app (hi := w.heap.size + 2) hOne.out HO.out hB3 hsz3' hown1 hgrow; have HO1 := Lib.hid hown1; clear hown1 hgrow)
    obtain ⟨hB1, hs1, hq1⟩ := HREST.out
    exact ⟨(hkeep.trans (KeepQ.setCell _ _ _ _ (p := ⟨w.heap.size, 0, none⟩) _ (by unfold qOf; show ¬ (w.heap.size < w.heap.size ∨ w.heap.size = w.heap.size + 1); omega) (by show w.heap.size < w.heap.size + 2; omega))), _, one_setCell hq1, by unfold strs; rw [List.map_append, List.map_append, List.length_append]; exact ownsRow_setCell_other HO1.out (by simp [Value.ownBlock]; omega) _, hB1.setCell (p := ⟨w.heap.size, 0, none⟩) (Nat.le_refl _) _, by simpa [World.setCell] using hs1⟩
  case done =>
    rintro D ys W3 hD rfl ⟨u0, hb3, ho3, hB3, hsz3'⟩ hK
    have hc3 := cell_of_one hb3
    have hf3 := free_of_one hb3
    rw [pieces_length, pieces_map] at ho3
    have HO := Lib.hid ho3
    have hsh := owns_shape0 ho3
    clear hb3 ho3
    rcases hsh with rfl | ⟨g, gc, rfl⟩
    · gi_wp2
      refine ⟨by simp, .inl ⟨_, _, rfl, run_takeDeferred hK, ?_⟩⟩
      have hfin := ownFrom_row (β := Unit) (B := 0) () W3 _ (some D) HO.out (grownBy_putObj' W3 D (.deferred none)) (fun r e => by cases e; exact ⟨Nat.zero_le _, _, hK, rfl⟩)
      refine ⟨_, results_tmp rfl _ _ _, .slice none 0 0, rfl, hfin, ?_⟩
      exact hB3.trans (belowK_b (w := w) (Nat.le_refl _) _ D _ _ (by omega) hK rfl rfl)
    · gi_wp2
      refine ⟨by simp, .inl ⟨_, _, rfl, run_takeDeferred hK, ?_⟩⟩
      have hfin := ownFrom_row (β := Unit) (B := 0) () W3 _ (some D) HO.out (grownBy_putObj' W3 D (.deferred none)) (fun r e => by cases e; exact ⟨Nat.zero_le _, _, hK, rfl⟩)
      refine ⟨_, results_tmp rfl _ _ _, .slice (some ⟨g, 0, none⟩) (splS s).length gc, rfl, hfin, ?_⟩
      exact hB3.trans (belowK_b (w := w) (Nat.le_refl _) _ D _ _ (by omega) hK rfl rfl)
  case stop =>
    rintro D c pre W3 hD hpre h hK
    exact h.elim
end Go.Proofs.Ytpnhjpplfjamkaa

/-! The document's Same: are two rows of texts the same? -/
namespace Go.Proofs.Ytpnhjpplfjamkaa
open Go Go.RowKit

theorem own_lower {w : World} {base base' : Nat} {e : TypeId} {size : Nat} {v : Value} {n : Nat} {xs : List Value} (h : w.ownsRow base e size v n xs) (hb : base' ≤ base) : w.ownsRow base' e size v n xs := by
  obtain ⟨h1, h2⟩ := h
  refine ⟨h1, ?_⟩
  rcases h2 with h2 | ⟨g, cap, cur, a, b, c⟩
  · exact .inl h2
  · exact .inr ⟨g, cap, cur, a, by omega, c⟩
theorem own_below {w w' : World} {base : Nat} {e : TypeId} {size : Nat} {v : Value} {n : Nat} {xs : List Value} (h : w.ownsRow base e size v n xs) (hb : Below w.heap.size w w') : w'.ownsRow base e size v n xs :=
  h.kept (grown_of_below hb) (by cases hv : v.ownBlock <;> simp)
theorem strs_get {l : List ByteArray} {k : Nat} {p : ByteArray} (h : l[k]? = some p) : (strs l)[k]? = some (.string p) := by
  unfold strs; rw [List.getElem?_map, h]; rfl
theorem own_cell {w : World} {base g cap n : Nat} {l : List ByteArray} (h : w.ownsRow base 9 1 (.slice (some ⟨g, 0, none⟩) n cap) n (strs l)) : ∀ i p, l[i]? = some p → w.cell? ⟨g, i, none⟩ = some (.string p) := fun i p hp => by
  have hl : l.length = n := by have := h.1; rw [strs_length] at this; omega
  have hi := (List.getElem?_eq_some_iff.1 hp).1
  exact (h.cellAt i (by omega)).trans (strs_get hp)

theorem toList_ne {p q : ByteArray} (h : ¬ p = q) : (p.toList == q.toList) = false := by
  rw [beq_eq_false_iff_ne, ByteArray.toList_eq, ByteArray.toList_eq]
  exact fun e => h (ofL_ext e)
end Go.Proofs.Ytpnhjpplfjamkaa

/-! Package split: Check; what Kind, Place and Whats tell of its error. -/
namespace Go.Proofs.Ytpnhjpplfjamkaa
open Go Go.RowKit

attribute [local go_sem] Oper.semAt_some

/- What is told of it. -/
end Go.Proofs.Ytpnhjpplfjamkaa

/-! The statements' own (layer 4): awake and short. -/
namespace Go.Proofs.Ytpnhjpplfjamkaa
open Go Go.RowKit

end Go.Proofs.Ytpnhjpplfjamkaa

/-! What the laws of layer 4 share: contracts that go on from the start of the law. -/
namespace Go.Proofs.Ytpnhjpplfjamkaa
open Go Go.RowKit

/-- Where a piece stands. -/
theorem placed_at (s : ByteArray) : ∀ (n a : Nat), s.size - a = n → a ≤ s.size → ∀ y ∈ placed a (spl ((bs s).drop a)), y.1 + y.2.size ≤ s.size ∧ s.extract y.1 (y.1 + y.2.size) = y.2 := by
  intro n
  induction n using Nat.strongRecOn with
  | _ n ih =>
    intro a hn ha y hy
    rcases each_step s a ha with ⟨_, h2⟩ | ⟨m, _, h3, h2⟩
    · rw [h2] at hy
      obtain rfl := List.mem_singleton.1 hy
      have e : (s.extract a s.size).size = s.size - a := by rw [ByteArray.size_extract]; omega
      refine ⟨by simp only [e]; omega, ?_⟩
      simp only [e]
      rw [show a + (s.size - a) = s.size by omega]
    · rw [h2] at hy
      rcases List.mem_cons.1 hy with rfl | hy
      · have e : (s.extract a (a + m)).size = m := by rw [ByteArray.size_extract]; omega
        refine ⟨by simp only [e]; omega, ?_⟩
        simp only [e]
      · exact ih (s.size - (a + m + 1)) (by omega) (a + m + 1) rfl (by omega) y hy
theorem pieces_at {s : ByteArray} {y : Nat × ByteArray} (h : y ∈ pieces s) : y.1 + y.2.size ≤ s.size ∧ s.extract y.1 (y.1 + y.2.size) = y.2 :=
  placed_at s s.size 0 rfl (Nat.zero_le _) y h
theorem prefix_get {s : ByteArray} {pre : List (Nat × ByteArray)} {y : Nat × ByteArray} (h : pre ++ [y] <+: pieces s) : (pieces s)[pre.length]? = some y ∧ (splS s)[pre.length]? = some y.2 ∧ y ∈ pieces s ∧ pre.length + 1 ≤ (splS s).length := by
  have h1 : (pieces s)[pre.length]? = some y := by
    obtain ⟨r, hr⟩ := h
    rw [← hr, List.append_assoc, List.getElem?_append_right (Nat.le_refl _)]; simp
  refine ⟨h1, ?_, h.subset (by simp), ?_⟩
  · rw [← pieces_map, List.getElem?_map, h1]; rfl
  · have := h.length_le
    rw [pieces_length] at this
    simpa using this

theorem bs_glue (a b : ByteArray) : bs (a ++ ⟨#[45]⟩ ++ b) = bs a ++ 45 :: bs b := by
  simp [bs, ByteArray.data_append]
theorem strs_append (a b : List ByteArray) : strs (a ++ b) = strs a ++ strs b := List.map_append ..

end Go.Proofs.Ytpnhjpplfjamkaa
