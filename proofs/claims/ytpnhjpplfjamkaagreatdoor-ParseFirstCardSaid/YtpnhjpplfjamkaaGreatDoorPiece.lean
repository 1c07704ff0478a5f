/-
  A function that holds a label, inside a fence: the scope is passed where no goto leaves it. No program is named here. strings.IndexByte and strings.LastIndexByte of the mark; package split: single, Trim. Package split: single, Trim. Package split: Each and its iterator. Package split: Split. The document's Same: are two rows of texts the same? Package split: Check; what Kind, Place and Whats tell of its error. The statements' own (layer 4): awake and short. What the laws of layer 4 share: contracts that go on from the start of the law.
-/
import Derived.TacticsIn
import Derived.WalkMore
import Derived.Test.YtpnhjpplfjamkaaGreatDoorSeqs
import Derived.Test.YtpnhjpplfjamkaaGreatDoorBMaths
import Derived.Test.YtpnhjpplfjamkaaGreatDoorBase
import Derived.Lib.Walk
import Derived.Lib.Strings
import Derived.BigGuard
import Derived.BigQuiet
import Derived.Deep.QuietTactic
import Derived.OwnWalkIn
import Derived.OneCell
import Derived.TacticsInMore
import Derived.LoopNIn
import Derived.LoopIn
import Derived.Test.YtpnhjpplfjamkaaGreatDoorFault
/-! A function that holds a label, inside a fence: the scope is passed where no goto leaves it. No program is named here. -/
namespace Go.Proofs.YtpnhjpplfjamkaaGreatDoor
open Go

variable {F : Fence} {n : Nat} {P : Program} {b : Frame} {a : Act} {k : List Go.Item} {cs : List Frame} {w : World} {Q : Exit → Act → World → Prop}

theorem stepR_scope {c : Code} : step P (lone (b.atR a (.code (.scope c) :: k)) cs w) = .next (lone (b.atR a (.code c :: .inScope c :: k)) cs w) :=
  step_lone_go (by simp [stepG, stepG.exec, Frame.atR])
theorem stepR_inScope {c : Code} : step P (lone (b.atR a (.inScope c :: k)) cs w) = .next (lone (b.atR a k) cs w) :=
  step_lone_go (by simp [stepG, stepG.exec, Frame.atR])

theorem wpIn_scope_straight {c : Code} (h : c.wpIn F n P (Exit.noGoto Q) a w) : (Code.scope c).wpIn F n P Q a w := by
  intro b k cs hro hb hr
  have h0 : (lone (b.atR a (.code (.scope c) :: k)) cs w).fenced P F := fenced_calm hb hr rfl
  obtain ⟨e, a₁, w₁, hq, harr⟩ := h b (.inScope c :: k) cs hro hb hr
  cases e with
  | normal => exact ⟨.normal, a₁, w₁, hq, .head h0 stepR_scope (StepsIn.trans harr (.one (fenced_calm hb hr rfl) stepR_inScope))⟩
  | exit id =>
    have hx : exitTo id (.inScope c :: k) = exitTo id k := by simp [exitTo]
    exact ⟨.exit id, a₁, w₁, hq, fun k' hk => .head h0 stepR_scope (harr.1 k' (by rw [hx]; exact hk)),
      fun hr' hk => let ⟨k₁, h1, h2⟩ := harr.2 hr' (by rw [hx]; exact hk); ⟨k₁, h1, .head h0 stepR_scope h2⟩⟩
  | goto l => exact hq.elim
  | ret => exact ⟨_, a₁, w₁, hq, .of_steps (.one h0 stepR_scope) harr⟩
  | panic ch => exact ⟨_, a₁, w₁, hq, .of_steps (.one h0 stepR_scope) harr⟩
  | outgrown => exact ⟨_, a₁, w₁, hq, .of_steps (.one h0 stepR_scope) harr⟩
end Go.Proofs.YtpnhjpplfjamkaaGreatDoor

/-! strings.IndexByte and strings.LastIndexByte of the mark; package split: single, Trim. -/
namespace Go.Proofs.YtpnhjpplfjamkaaGreatDoor
open Go Go.RowKit

set_option maxRecDepth 100000 in
theorem slIndex_any (s : ByteArray) (w : World) :
    Calls Tryz.prog 99 #[.string s, .int .u8 45] w fun e w' => e = .returned (.int .i64 (Lib.indexByte (bs s) 45)) ∧ w = w' := by
  have hx := @run_callFunc_extern Tryz.prog 113 _ Extern.BytealgIndexByte.indexByte Tryz.func113 (by kernel_rfl) (by kernel_rfl) (by kernel_rfl) (by kernel_rfl)
  have hX := Lib.hid hx
  clear hx
  go_enter Tryz.func99, Tryz.ntmps99
  go_wp2
  rw [hX.out, Lib.run_indexByteString]
  simp only [Result.andThen]
  rw [Oper.upon_value]
  go_wp2
  go_ret
  exact ⟨rfl, rfl⟩
set_option maxRecDepth 100000 in
theorem index_any (s : ByteArray) (w : World) :
    Calls Tryz.prog 84 #[.string s, .int .u8 45] w fun e w' => e = .returned (.int .i64 (Lib.indexByte (bs s) 45)) ∧ w = w' := by
  go_enter Tryz.func84, Tryz.ntmps84
  go_wp2_with (go_at_call 99; refine (slIndex_any _ _).mono ?_; rintro e w' ⟨rfl, rfl⟩)
  go_ret
  exact ⟨rfl, rfl⟩

theorem bs_get (s : ByteArray) (k : Nat) (h : k < s.size) : (bs s)[k]? = some s[k] := by
  show s.data.toList[k]? = _
  rw [Array.getElem?_toList]
  exact Array.getElem?_eq_getElem h
end Go.Proofs.YtpnhjpplfjamkaaGreatDoor

/-! Package split: single, Trim. -/
namespace Go.Proofs.YtpnhjpplfjamkaaGreatDoor
open Go Go.RowKit

theorem mark_true {c : UInt8} (h : c = 45) : ((c.toNat : Int) == 45) = true ∧ ((c.toNat : Int) != 45) = false := by rw [h]; exact ⟨rfl, rfl⟩
theorem mark_false {c : UInt8} (h : c ≠ 45) : ((c.toNat : Int) == 45) = false ∧ ((c.toNat : Int) != 45) = true := by
  have e : ((c.toNat : Int) == 45) = false := by
    rw [beq_eq_false_iff_ne]
    exact fun e => h (UInt8.toNat_inj.1 (by have : c.toNat = 45 := by omega
                                            simpa using this))
  exact ⟨e, by rw [bne, e]; rfl⟩

end Go.Proofs.YtpnhjpplfjamkaaGreatDoor

/-! Package split: Each and its iterator. -/
namespace Go.Proofs.YtpnhjpplfjamkaaGreatDoor
open Go Go.RowKit

attribute [local go_sem] Oper.semAt_some

set_option maxRecDepth 100000 in
theorem each_make (s : ByteArray) (w : World) :
    Calls Tryz.prog 67 #[.string s] w fun e w' => e = .returned (.func (.func 83) #[] #[.pointer (some ⟨w.heap.size, 0, none⟩)]) ∧ w.alloc (.cells #[.string s] 9) = w' := by
  have hmf : ∀ (fn : Fn) (first cap : Array Value) (w : World), (Instr.makeFunc fn first cap).run Tryz.prog w = .ok (.func fn first cap) w := fun _ _ _ _ => rfl
  go_enter Tryz.func67, Tryz.ntmps67
  go_wp2
  go_ret
  exact ⟨rfl, rfl⟩

theorem drop_extract (s : ByteArray) (a : Nat) : s.extract a s.size = ofL ((bs s).drop a) := by
  apply ofL_ext
  rw [bs_ofL, bs_extract, List.take_of_length_le]
  rw [List.length_drop, size_bs]
  exact Nat.le_refl _
/-- One round of Each: the last piece, or one piece more. -/
theorem each_step (s : ByteArray) (a : Nat) (ha : a ≤ s.size) :
    (Lib.indexByte (bs (s.extract a s.size)) 45 = -1 ∧ placed a (spl ((bs s).drop a)) = [(a, s.extract a s.size)]) ∨
    ∃ m : Nat, Lib.indexByte (bs (s.extract a s.size)) 45 = (m : Int) ∧ a + m + 1 ≤ s.size ∧ placed a (spl ((bs s).drop a)) = (a, s.extract a (a + m)) :: placed (a + m + 1) (spl ((bs s).drop (a + m + 1))) := by
  rw [drop_extract, bs_ofL]
  rcases idx_cases ((bs s).drop a) with ⟨h1, h2⟩ | ⟨p, r, h1, h2, h3⟩
  · refine .inl ⟨h1, ?_⟩
    rw [spl_plain h2]; rfl
  · refine .inr ⟨p.length, h1, ?_, ?_⟩
    · have := congrArg List.length h2
      rw [List.length_drop, size_bs] at this
      simp at this; omega
    · have hr : (bs s).drop (a + p.length + 1) = r := by
        have e := congrArg (List.drop (p.length + 1)) h2
        rw [List.drop_drop, ← Nat.add_assoc] at e
        rw [e, show p ++ 45 :: r = (p ++ [45]) ++ r by simp, List.drop_left' (by simp)]
      have hp : s.extract a (a + p.length) = ofL p := by
        apply ofL_ext
        rw [bs_ofL, bs_extract, h2, show a + p.length - a = p.length by omega, List.take_left]
      rw [hr, hp]
      conv => lhs; rw [h2, spl_app, spl_plain h3]
      rfl

theorem slice_mid (s : ByteArray) (a m : Nat) (h : a + m ≤ s.size) (w : World) :
    (Instr.slice 9 (.string s) (some (.int .i64 (a : Int))) (some (.int .i64 ((a : Int) + (m : Int)))) none).run Tryz.prog w = .ok (.string (s.extract a (a + m))) w := by
  rw [run_slice_string w 9 s .i64 .i64 (a : Int) ((a : Int) + (m : Int)) Tryz.underlying9 (by omega) (by omega) (by omega), show ((a : Int) + (m : Int)).toNat = a + m by omega, Int.toNat_natCast]

set_option maxRecDepth 100000 in
set_option maxHeartbeats 4000000 in
theorem each_in (n l Bn hi : Nat) (q : Nat → Prop) (fr : Obj → Bool) (s : ByteArray) (hs : s.size ≤ 140737488351232) (hq : q Bn) (J Jx : List (Nat × ByteArray) → World → Prop)
    (hY : ∀ pre (x : Nat × ByteArray) W, J pre W → pre ++ [x] <+: pieces s → YieldAt Fence.wide (n - 1) Tryz.prog l #[.int .i64 x.1, .string x.2] W fun e W' =>
      (e = .returned (.bool true) ∧ J (pre ++ [x]) W' ∧ KeepQ q hi fr W W') ∨ (e = .returned (.bool false) ∧ Jx (pre ++ [x]) W' ∧ KeepQ q hi fr W W'))
    (W : World) (hBn : W.heap[Bn]? = some (.cells #[.string s] 9 (0, 0))) (h0 : J [] W) :
    CallsIn Fence.wide n Tryz.prog 83 #[.func (.yield l) #[] #[], .pointer (some ⟨Bn, 0, none⟩)] W fun e W' => (∃ v, e = .returned v) ∧
      ((∃ ys, ys = pieces s ∧ J ys W') ∨ (∃ pre, pre <+: pieces s ∧ Jx pre W')) := by
  refine callsIn_of_wp Tryz.func83 rfl trivial ?_ rfl
  simp only [Tryz.ntmps83, List.size_toArray, List.length_cons, List.length_nil, Nat.reduceAdd, Nat.reduceSub, Array.replicate_succ, Array.replicate_zero, List.push_toArray, List.append_toArray, List.nil_append, List.cons_append]
  have HBn := Lib.hid hBn
  clear hBn
  gi_wp2
  gi_loopw [3] (fun x wr => ∃ (pre : List (Nat × ByteArray)) (a : Nat), x = .int .i64 a ∧ a ≤ s.size ∧ Hid (pieces s = pre ++ placed a (spl ((bs s).drop a))) ∧ Hid (wr.heap[Bn]? = some (.cells #[.string s] 9 (0, 0))) ∧ J pre wr)
    (fun x _ => s.size + 1 - (intOf x).toNat)
  case atStart => exact ⟨[], 0, rfl, Nat.zero_le _, Lib.hid (by rfl), HBn, h0⟩
  case round =>
    obtain ⟨pre, a, rfl, ha, HP, HB, hJs⟩ := hrel
    have hc := cell_of_one HB.out
    have hi0 : (0 : Int) ≤ (a : Int) := by omega
    have hi1 : (a : Int) ≤ (s.size : Int) := by omega
    have HI := Lib.hid (fun w5 => index_any (s.extract a s.size) w5)
    rcases each_step s a ha with ⟨h1, h2⟩ | ⟨m, h1, h3, h2⟩
    · rw [h1] at HI
      have hp := HP.out
      rw [h2] at hp
      obtain ⟨fn, tmps, assign, body, hy, hR⟩ := hY pre (a, s.extract a s.size) wr hJs (by rw [hp]; exact List.prefix_refl _)
      have HP2 := Lib.hid hp
      clear h1 h2 hp
      gi_wp2_with fail
      refine ⟨trivial, fun h => (by simp [Fence.wide] at h), (callsIn_wide.2 (HI.out _)).mono ?_⟩
      rintro e w' ⟨rfl, rfl⟩
      gi_wp2
      refine ⟨fun h => (by simp [Fence.wide] at h), ?_⟩
      refine hR.mono ?_
      rintro e W3 (⟨rfl, hJ3, hk3⟩ | ⟨rfl, hJx3, hk3⟩)
      · gi_wp2
        refine bodyPost_ret (results_none rfl _ _ _) rfl ?_
        exact ⟨⟨_, rfl⟩, .inl ⟨_, HP2.out.symm, hJ3⟩⟩
      · gi_wp2
        refine bodyPost_ret (results_none rfl _ _ _) rfl ?_
        exact ⟨⟨_, rfl⟩, .inr ⟨_, by rw [HP2.out]; exact List.prefix_refl _, hJx3⟩⟩
    · rw [h1] at HI
      have hp := HP.out
      rw [h2] at hp
      obtain ⟨fn, tmps, assign, body, hy, hR⟩ := hY pre (a, s.extract a (a + m)) wr hJs ⟨placed (a + m + 1) (spl ((bs s).drop (a + m + 1))), by rw [hp]; simp⟩
      have HP2 := Lib.hid hp
      have hm0 : (0 : Int) ≤ (m : Int) := by omega
      have hm1 : (a : Int) + (m : Int) ≤ (s.size : Int) := by omega
      have hsl := slice_mid s a m (by omega)
      clear h1 h2 hp
      gi_wp2_with fail
      refine ⟨trivial, fun h => (by simp [Fence.wide] at h), (callsIn_wide.2 (HI.out _)).mono ?_⟩
      rintro e w' ⟨rfl, rfl⟩
      gi_wp2
      refine ⟨fun h => (by simp [Fence.wide] at h), ?_⟩
      refine hR.mono ?_
      rintro e W3 (⟨rfl, hJ3, hk3⟩ | ⟨rfl, hJx3, hk3⟩)
      · have HB3 := Lib.hid (hk3.blk _ _ HB.out (.inl hq))
        gi_wp2
        go_roundw
        case rel => exact ⟨_, a + m + 1, by go_num, by omega, Lib.hid (by rw [HP2.out]; simp), HB3, hJ3⟩
        case measure => simp [intOf]; omega
      · gi_wp2
        refine bodyPost_ret (results_none rfl _ _ _) rfl ?_
        exact ⟨⟨_, rfl⟩, .inr ⟨_, ⟨_, by rw [HP2.out, List.append_assoc]; rfl⟩, hJx3⟩⟩

theorem each_seq {fr : Obj → Bool} {Bn : Nat} {s : ByteArray} {w : World} {q : Nat → Prop} (hs : s.size ≤ 140737488351232) (hq : q Bn) (hBn : w.heap[Bn]? = some (.cells #[.string s] 9 (0, 0))) :
    SeqQ Tryz.prog 83 #[.pointer (some ⟨Bn, 0, none⟩)] (fun x : Nat × ByteArray => #[.int .i64 x.1, .string x.2]) q fr (fun ys => ys = pieces s) (fun pre => pre <+: pieces s) w := fun n l J Jx W hW _ _ hY h0 =>
  each_in n l Bn W.heap.size q fr s hs hq J Jx hY W ((hW.block Bn (Array.getElem?_eq_some_iff.1 hBn).1).trans hBn) h0
end Go.Proofs.YtpnhjpplfjamkaaGreatDoor

/-! Package split: Split. -/
namespace Go.Proofs.YtpnhjpplfjamkaaGreatDoor
open Go Go.RowKit

attribute [local go_sem] Oper.semAt_some

def strs (l : List ByteArray) : List Value := l.map Value.string
theorem strs_length (l : List ByteArray) : (strs l).length = l.length := List.length_map ..

/-- The blocks that a round leaves alone: those below a call's start, and the iterator's own box. -/
def qOf (n b : Nat) (k : Nat) : Prop := k < n ∨ k = b

end Go.Proofs.YtpnhjpplfjamkaaGreatDoor

/-! The document's Same: are two rows of texts the same? -/
namespace Go.Proofs.YtpnhjpplfjamkaaGreatDoor
open Go Go.RowKit

theorem own_lower {w : World} {base base' : Nat} {e : TypeId} {size : Nat} {v : Value} {n : Nat} {xs : List Value} (h : w.ownsRow base e size v n xs) (hb : base' ≤ base) : w.ownsRow base' e size v n xs := by
  obtain ⟨h1, h2⟩ := h
  refine ⟨h1, ?_⟩
  rcases h2 with h2 | ⟨g, cap, cur, a, b, c⟩
  · exact .inl h2
  · exact .inr ⟨g, cap, cur, a, by omega, c⟩
theorem strs_get {l : List ByteArray} {k : Nat} {p : ByteArray} (h : l[k]? = some p) : (strs l)[k]? = some (.string p) := by
  unfold strs; rw [List.getElem?_map, h]; rfl
theorem own_cell {w : World} {base g cap n : Nat} {l : List ByteArray} (h : w.ownsRow base 9 1 (.slice (some ⟨g, 0, none⟩) n cap) n (strs l)) : ∀ i p, l[i]? = some p → w.cell? ⟨g, i, none⟩ = some (.string p) := fun i p hp => by
  have hl : l.length = n := by have := h.1; rw [strs_length] at this; omega
  have hi := (List.getElem?_eq_some_iff.1 hp).1
  exact (h.cellAt i (by omega)).trans (strs_get hp)

theorem toList_ne {p q : ByteArray} (h : ¬ p = q) : (p.toList == q.toList) = false := by
  rw [beq_eq_false_iff_ne, ByteArray.toList_eq, ByteArray.toList_eq]
  exact fun e => h (ofL_ext e)
end Go.Proofs.YtpnhjpplfjamkaaGreatDoor

/-! Package split: Check; what Kind, Place and Whats tell of its error. -/
namespace Go.Proofs.YtpnhjpplfjamkaaGreatDoor
open Go Go.RowKit

attribute [local go_sem] Oper.semAt_some

theorem badOf_append (a b : List (Nat × ByteArray)) : badOf (a ++ b) = if badOf a = none then badOf b else badOf a := by
  induction a with
  | nil => simp [badOf]
  | cons x r ih =>
    rw [List.cons_append]
    by_cases h : okS x.2 = true
    · simp only [badOf, h, if_true]; exact ih
    · simp [badOf, h]

def CkI (w : World) (pre : List (Nat × ByteArray)) (W : World) : Prop :=
  badOf pre = none ∧ W.heap[w.heap.size]? = some (.cells #[.int .i64 0] 44 (0, 0)) ∧ W.heap[w.heap.size + 1]? = some (.cells #[.int .i64 0] 3 (0, 0)) ∧ Below w.heap.size w W
def CkX (w : World) (c : Code) (pre : List (Nat × ByteArray)) (W : World) : Prop :=
  c = .exit 0 ∧ (∃ a : Nat, (∀ rest, badOf (pre ++ rest) = some a) ∧ W.heap[w.heap.size]? = some (.cells #[.int .i64 10] 44 (0, 0)) ∧ W.heap[w.heap.size + 1]? = some (.cells #[.int .i64 (a : Int)] 3 (0, 0))) ∧ Below w.heap.size w W

/-- What Check tells of a text: nothing, or a fault in a block of its own. -/
def ErrIs (W : World) (s : ByteArray) (v : Value) : Prop :=
  (chkS s = none ∧ v = .nilIface) ∨ ∃ a b : Nat, chkS s = some a ∧ v = .iface 82 (.pointer (some ⟨b, 0, none⟩)) ∧ W.heap[b]? = some (faultObj a ⟨#[115, 117, 98, 116, 97, 103]⟩ (.iface 44 (.int .i64 10)))
theorem ErrIs.below {W W' : World} {s : ByteArray} {v : Value} (h : ErrIs W s v) (hb : Below W.heap.size W W') : ErrIs W' s v := by
  rcases h with h | ⟨a, b, h1, h2, h3⟩
  · exact .inl h
  · exact .inr ⟨a, b, h1, h2, (hb.block b (Array.getElem?_eq_some_iff.1 h3).1).trans h3⟩

theorem ck_exit {w W3 : World} {k j : Int} {hi : Nat} {fr : Obj → Bool} {a : Nat} {pre : List (Nat × ByteArray)} (h0 : W3.heap[w.heap.size]? = some (.cells #[.int .i64 k] 44 (0, 0))) (h1 : W3.heap[w.heap.size + 1]? = some (.cells #[.int .i64 j] 3 (0, 0)))
    (hB : Below w.heap.size w W3) (hhi : w.heap.size + 2 ≤ hi) (hbad : ∀ rest, badOf (pre ++ rest) = some a) :
    KeepQ (qOf w.heap.size (w.heap.size + 2)) hi fr W3 ((W3.setCell ⟨w.heap.size, 0, none⟩ (.int .i64 10)).setCell ⟨w.heap.size + 1, 0, none⟩ (.int .i64 (a : Int))) ∧
      CkX w (.exit 0) pre ((W3.setCell ⟨w.heap.size, 0, none⟩ (.int .i64 10)).setCell ⟨w.heap.size + 1, 0, none⟩ (.int .i64 (a : Int))) := by
  have e1 : (W3.setCell ⟨w.heap.size, 0, none⟩ (.int .i64 10)).heap[w.heap.size + 1]? = some (.cells #[.int .i64 j] 3 (0, 0)) := (Below.heap_setCell _ _ _ _ (by show w.heap.size + 1 ≠ w.heap.size; omega)).trans h1
  refine ⟨(KeepQ.setCell _ _ _ _ (p := ⟨w.heap.size, 0, none⟩) _ (by unfold qOf; show ¬ (w.heap.size < w.heap.size ∨ w.heap.size = w.heap.size + 2); omega) (by show w.heap.size < hi; omega)).trans
      (KeepQ.setCell _ _ _ _ (p := ⟨w.heap.size + 1, 0, none⟩) _ (by unfold qOf; show ¬ (w.heap.size + 1 < w.heap.size ∨ w.heap.size + 1 = w.heap.size + 2); omega) (by show w.heap.size + 1 < hi; omega)), rfl, ⟨a, hbad, ?_, one_setCell e1⟩, ?_⟩
  · exact (Below.heap_setCell _ _ _ _ (by show w.heap.size ≠ w.heap.size + 1; omega)).trans (one_setCell h0)
  · exact (hB.setCell (p := ⟨w.heap.size, 0, none⟩) (Nat.le_refl _) _).setCell (p := ⟨w.heap.size + 1, 0, none⟩) (by show w.heap.size ≤ w.heap.size + 1; omega) _

set_option maxRecDepth 100000 in
set_option maxHeartbeats 8000000 in
theorem check_any (s : ByteArray) (w : World) (hs : s.size ≤ 1048576) :
    Calls Tryz.prog 116 #[.string s] w fun e w' => ∃ v, e = .returned v ∧ ErrIs w' s v ∧ Below w.heap.size w w' := by
  refine callsIn_wide (n := 0) |>.1 ?_
  refine callsIn_of_wp_marks Tryz.func116 rfl trivial ?_ rfl
  simp only [Tryz.ntmps116, List.size_toArray, List.length_cons, List.length_nil, Nat.reduceAdd, Nat.reduceSub, Array.replicate_succ, Array.replicate_zero, List.push_toArray, List.append_toArray, List.nil_append, List.cons_append]
  gi_wp2_with fail
  apply wpIn_scope_straight
  gi_wp2_with fail
  apply wpIn_label
  gi_wp2_with fail
  refine ⟨trivial, rfl, (callsIn_wide.2 (each_make s _)).mono ?_⟩
  rintro e w' ⟨rfl, rfl⟩
  gi_wp2_with fail
  have hk0 : (((w.alloc (.cells #[.int .i64 0] 44)).alloc (.cells #[.int .i64 0] 3)).alloc (.cells #[.string s] 9)).heap[w.heap.size]? = some (.cells #[.int .i64 0] 44 (0, 0)) := by
    rw [Below.heap_alloc _ _ _ (by simp; omega), Below.heap_alloc _ _ _ (by simp)]; exact World.alloc_heap_new w _
  have hk1 : (((w.alloc (.cells #[.int .i64 0] 44)).alloc (.cells #[.int .i64 0] 3)).alloc (.cells #[.string s] 9)).heap[w.heap.size + 1]? = some (.cells #[.int .i64 0] 3 (0, 0)) := by
    rw [Below.heap_alloc _ _ _ (by simp)]
    have := World.alloc_heap_new (w.alloc (.cells #[.int .i64 0] 44)) (.cells #[.int .i64 0] 3)
    rwa [World.size_alloc] at this
  have hk2 : (((w.alloc (.cells #[.int .i64 0] 44)).alloc (.cells #[.int .i64 0] 3)).alloc (.cells #[.string s] 9)).heap[w.heap.size + 2]? = some (.cells #[.string s] 9 (0, 0)) := by
    have := World.alloc_heap_new ((w.alloc (.cells #[.int .i64 0] 44)).alloc (.cells #[.int .i64 0] 3)) (.cells #[.string s] 9)
    rwa [World.size_alloc, World.size_alloc] at this
  have hb2 : Below w.heap.size w (((w.alloc (.cells #[.int .i64 0] 44)).alloc (.cells #[.int .i64 0] 3)).alloc (.cells #[.string s] 9)) := (((Below.refl _ w).alloc (Nat.le_refl _) _).alloc (by simp) _).alloc (by simp; omega) _
  have hs2 : w.heap.size + 3 ≤ (((w.alloc (.cells #[.int .i64 0] 44)).alloc (.cells #[.int .i64 0] 3)).alloc (.cells #[.string s] 9)).heap.size := by simp
  generalize (((w.alloc (.cells #[.int .i64 0] 44)).alloc (.cells #[.int .i64 0] 3)).alloc (.cells #[.string s] 9)) = W2 at *
  have hseq := each_seq (fr := fun _ => false) (w := W2) (q := qOf w.heap.size (w.heap.size + 2)) (by omega) (.inr rfl) hk2
  refine rangeQ (gf := 83) (lb := #[.pointer (some ⟨w.heap.size + 2, 0, none⟩)]) rfl (Go.Proofs.enters_of Tryz.func83 (by kernel_rfl) rfl) hseq (fun _ h => by cases h) (fun k h => by unfold qOf at h; omega) (fun _ => rfl)
    (CkI w) (CkX w)
    (fun s A B row hs hg hr => ⟨hs.1, ownFrom_block (β := Unit) (by omega) () A B row hs.2.1 hg hr, ownFrom_block (β := Unit) (by omega) () A B row hs.2.2.1 hg hr, ownFrom_below (β := Unit) (n₀ := w.heap.size) (Nat.le_refl _) (by omega) () A B row hs.2.2.2 hg hr⟩)
    (fun c s A B row hs hg hr => by
      obtain ⟨h1, ⟨a, h2, h3, h4⟩, h5⟩ := hs
      exact ⟨h1, ⟨a, h2, ownFrom_block (β := Unit) (by omega) () A B row h3 hg hr, ownFrom_block (β := Unit) (by omega) () A B row h4 hg hr⟩, ownFrom_below (β := Unit) (n₀ := w.heap.size) (Nat.le_refl _) (by omega) () A B row h5 hg hr⟩)
    ⟨rfl, hk0, hk1, hb2⟩
    (fun x => { tmps := #[.string s, undef, .nilIface, .pointer (some ⟨w.heap.size, 0, none⟩), .pointer (some ⟨w.heap.size + 1, 0, none⟩), .int .i64 x.1, .string x.2, .string s, .func (.func 83) #[] #[.pointer (some ⟨w.heap.size + 2, 0, none⟩)], .int .i64 x.1, .string x.2, undef, undef, undef, undef, undef, undef, undef, undef, undef, undef, undef], defers := [] })
    ?assign ?body ?done ?stop
  case assign =>
    intro l' x W3 K hK
    gi_wp2
    exact hK
  case body =>
    rintro l' pre ⟨a, p⟩ W3 ⟨hp3, hk3, hj3, hB3⟩ hpre hsz3
    have hps : p.size ≤ maxLen := by
      have hm : p ∈ splS s := by
        rw [← pieces_map]
        exact List.mem_map.2 ⟨(a, p), hpre.subset (by simp), rfl⟩
      have := splS_size s p hm
      unfold maxLen; omega
    have hA := Lib.hid (fun w5 => alnum_any p w5 hps)
    have hP := Lib.hid hp3
    have hK3 := Lib.hid hk3
    have hJ3 := Lib.hid hj3
    have hL0 := lt_of_block hk3
    have hL1 := lt_of_block hj3
    clear hp3 hk3 hj3
    by_cases h8 : 8 < p.size
    · have hbad : okS p = false := by unfold okS; rw [decide_eq_false (by omega)]; rfl
      have hB := Lib.hid (fun rest => show badOf ((pre ++ [(a, p)]) ++ rest) = some a by rw [List.append_assoc, badOf_append, if_pos hP.out]; simp [badOf, hbad])
      have h8' : (8 : Int) < (p.size : Int) := by omega
      have c0 := cell_of_one hK3.out
      have f0 := free_of_one hK3.out
      have c1 := cell_of_one hJ3.out
      have f1 := free_of_one hJ3.out
      clear hbad
      gi_wp2
      exact ck_exit hK3.out hJ3.out hB3 (by omega) hB.out
    · have h8' : ¬ (8 : Int) < (p.size : Int) := by omega
      rcases hn : alnumS p with _ | _
      · have hbad : okS p = false := by unfold okS; rw [hn, Bool.and_false]
        have hB := Lib.hid (fun rest => show badOf ((pre ++ [(a, p)]) ++ rest) = some a by rw [List.append_assoc, badOf_append, if_pos hP.out]; simp [badOf, hbad])
        rw [hn] at hA
        clear hbad hn
        gi_wp2_with fail
        refine ⟨trivial, rfl, CallsIn.mono (callsIn_wide.2 (hA.out W3)) ?_⟩
        rintro e W4 ⟨rfl, hb4⟩
        have hK4 := Lib.hid ((hb4.block _ hL0).trans hK3.out)
        have hJ4 := Lib.hid ((hb4.block _ hL1).trans hJ3.out)
        have hB4 := Lib.hid (hB3.trans (hb4.mono (by omega)))
        have c0 := cell_of_one hK4.out
        have f0 := free_of_one hK4.out
        have c1 := cell_of_one hJ4.out
        have f1 := free_of_one hJ4.out
        gi_wp2
        obtain ⟨z1, z2⟩ := ck_exit (hi := W2.heap.size) (fr := fun _ => false) hK4.out hJ4.out hB4.out (by omega) hB.out
        exact ⟨(KeepQ.of_below hb4).trans z1, z2⟩
      · have hok : okS p = true := by unfold okS; rw [hn, decide_eq_true (by omega)]; rfl
        have hB := Lib.hid (show badOf (pre ++ [(a, p)]) = none by rw [badOf_append, if_pos hP.out]; simp [badOf, hok])
        rw [hn] at hA
        clear hok hn
        gi_wp2_with fail
        refine ⟨trivial, rfl, CallsIn.mono (callsIn_wide.2 (hA.out W3)) ?_⟩
        rintro e W4 ⟨rfl, hb4⟩
        have hK4 := Lib.hid ((hb4.block _ hL0).trans hK3.out)
        have hJ4 := Lib.hid ((hb4.block _ hL1).trans hJ3.out)
        have hB4 := Lib.hid (hB3.trans (hb4.mono (by omega)))
        gi_wp2
        exact ⟨KeepQ.of_below hb4, hB.out, hK4.out, hJ4.out, hB4.out⟩
  case done =>
    rintro D ys W3 hD rfl ⟨hp3, hk3, hj3, hB3⟩ hK
    have hN := Lib.hid (fun w5 => new_ok 0 ⟨#[115, 117, 98, 116, 97, 103]⟩ w5)
    have c0 := cell_of_one hk3
    have c1 := cell_of_one hj3
    have HP := Lib.hid (show chkS s = none from hp3)
    clear hp3 hk3 hj3
    gi_wp2_with fail
    refine ⟨trivial, rfl, CallsIn.mono (callsIn_wide.2 (hN.out W3)) ?_⟩
    rintro e W4 ⟨rfl, rfl⟩
    gi_wp2
    refine ⟨by simp, .inl ⟨_, _, rfl, run_takeDeferred hK, ?_⟩⟩
    refine ⟨_, results_tmp rfl _ _ _, .nilIface, rfl, .inl ⟨HP.out, rfl⟩, ?_⟩
    exact hB3.trans (belowK_b (w := w) (Nat.le_refl _) _ D _ _ (by omega) hK rfl rfl)
  case stop =>
    rintro D c pre W3 hD hpre ⟨rfl, ⟨a, ha, hk3, hj3⟩, hB3⟩ hK
    have hN := Lib.hid (fun w5 => new_any 10 (a : Int) ⟨#[115, 117, 98, 116, 97, 103]⟩ w5 rfl)
    have c0 := cell_of_one hk3
    have c1 := cell_of_one hj3
    have HP := Lib.hid (show chkS s = some a by obtain ⟨r, hr⟩ := hpre; unfold chkS; rw [← hr]; exact ha r)
    have hDl := lt_of_block hK
    clear ha hk3 hj3
    gi_wp2_with fail
    refine ⟨trivial, rfl, CallsIn.mono (callsIn_wide.2 (hN.out W3)) ?_⟩
    rintro e W4 ⟨rfl, hw4⟩
    have hK4 : W4.heap[D]? = some (.deferred (some [])) := by rw [← hw4]; exact (Below.heap_alloc _ _ _ hDl).trans hK
    have hF4 : W4.heap[W3.heap.size]? = some (faultObj a ⟨#[115, 117, 98, 116, 97, 103]⟩ (.iface 44 (.int .i64 10))) := by rw [← hw4]; exact World.alloc_heap_new W3 _
    have hB4 : Below w.heap.size w W4 := by rw [← hw4]; exact hB3.alloc hB3.size _
    have HW := Lib.hid hw4
    clear hw4
    gi_wp2
    refine ⟨by simp, .inl ⟨_, _, rfl, run_takeDeferred hK4, ?_⟩⟩
    refine ⟨_, results_tmp rfl _ _ _, _, rfl, .inr ⟨a, W3.heap.size, HP.out, rfl, (World.putObj_heap_other (by omega)).trans hF4⟩, ?_⟩
    exact hB4.trans (belowK_b (w := w) (Nat.le_refl _) _ D _ _ (by omega) hK4 rfl rfl)

/- What is told of it. -/
end Go.Proofs.YtpnhjpplfjamkaaGreatDoor

/-! The statements' own (layer 4): awake and short. -/
namespace Go.Proofs.YtpnhjpplfjamkaaGreatDoor
open Go Go.RowKit

end Go.Proofs.YtpnhjpplfjamkaaGreatDoor

/-! What the laws of layer 4 share: contracts that go on from the start of the law. -/
namespace Go.Proofs.YtpnhjpplfjamkaaGreatDoor
open Go Go.RowKit

/-- Where a piece stands. -/
theorem placed_at (s : ByteArray) : ∀ (n a : Nat), s.size - a = n → a ≤ s.size → ∀ y ∈ placed a (spl ((bs s).drop a)), y.1 + y.2.size ≤ s.size ∧ s.extract y.1 (y.1 + y.2.size) = y.2 := by
  intro n
  induction n using Nat.strongRecOn with
  | _ n ih =>
    intro a hn ha y hy
    rcases each_step s a ha with ⟨_, h2⟩ | ⟨m, _, h3, h2⟩
    · rw [h2] at hy
      obtain rfl := List.mem_singleton.1 hy
      have e : (s.extract a s.size).size = s.size - a := by rw [ByteArray.size_extract]; omega
      refine ⟨by simp only [e]; omega, ?_⟩
      simp only [e]
      rw [show a + (s.size - a) = s.size by omega]
    · rw [h2] at hy
      rcases List.mem_cons.1 hy with rfl | hy
      · have e : (s.extract a (a + m)).size = m := by rw [ByteArray.size_extract]; omega
        refine ⟨by simp only [e]; omega, ?_⟩
        simp only [e]
      · exact ih (s.size - (a + m + 1)) (by omega) (a + m + 1) rfl (by omega) y hy
theorem pieces_at {s : ByteArray} {y : Nat × ByteArray} (h : y ∈ pieces s) : y.1 + y.2.size ≤ s.size ∧ s.extract y.1 (y.1 + y.2.size) = y.2 :=
  placed_at s s.size 0 rfl (Nat.zero_le _) y h
theorem prefix_get {s : ByteArray} {pre : List (Nat × ByteArray)} {y : Nat × ByteArray} (h : pre ++ [y] <+: pieces s) : (pieces s)[pre.length]? = some y ∧ (splS s)[pre.length]? = some y.2 ∧ y ∈ pieces s ∧ pre.length + 1 ≤ (splS s).length := by
  have h1 : (pieces s)[pre.length]? = some y := by
    obtain ⟨r, hr⟩ := h
    rw [← hr, List.append_assoc, List.getElem?_append_right (Nat.le_refl _)]; simp
  refine ⟨h1, ?_, h.subset (by simp), ?_⟩
  · rw [← pieces_map, List.getElem?_map, h1]; rfl
  · have := h.length_le
    rw [pieces_length] at this
    simpa using this

theorem bs_glue (a b : ByteArray) : bs (a ++ ⟨#[45]⟩ ++ b) = bs a ++ 45 :: bs b := by
  simp [bs, ByteArray.data_append]
theorem strs_append (a b : List ByteArray) : strs (a ++ b) = strs a ++ strs b := List.map_append ..

end Go.Proofs.YtpnhjpplfjamkaaGreatDoor
