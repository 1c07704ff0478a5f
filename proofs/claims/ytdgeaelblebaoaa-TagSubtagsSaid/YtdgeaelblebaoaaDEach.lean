/-
  Package split: Each and its iterator.
-/
import Derived.Test.YtdgeaelblebaoaaDTrim
import Derived.Test.YtdgeaelblebaoaaDSeq
import Derived.OwnWalkIn
import Derived.OneCell
import Derived.TacticsInMore
import Derived.LoopNIn
import Derived.LoopIn
namespace Go.Proofs.Ytdgeaelblebaoaa
open Go Go.RowKit

attribute [local go_sem] Oper.semAt_some

theorem each_make (s : ByteArray) (w : World) :
    Calls Try.prog 65 #[.string s] w fun e w' => e = .returned (.func (.func 84) #[] #[.pointer (some ⟨w.heap.size, 0, none⟩)]) ∧ w.alloc (.cells #[.string s] 9) = w' := by
  have hmf : ∀ (fn : Fn) (first cap : Array Value) (w : World), (Instr.makeFunc fn first cap).run Try.prog w = .ok (.func fn first cap) w := fun _ _ _ _ => rfl
  go_enter Try.func65, Try.ntmps65
  go_wp2
  go_ret
  exact ⟨rfl, rfl⟩

theorem drop_extract (s : ByteArray) (a : Nat) : s.extract a s.size = ofL ((bs s).drop a) := by
  apply ofL_ext
  rw [bs_ofL, bs_extract, List.take_of_length_le]
  rw [List.length_drop, size_bs]
  exact Nat.le_refl _
/-- One round of Each: the last piece, or one piece more. -/
theorem each_step (s : ByteArray) (a : Nat) (ha : a ≤ s.size) :
    (Lib.indexByte (bs (s.extract a s.size)) 45 = -1 ∧ placed a (spl ((bs s).drop a)) = [(a, s.extract a s.size)]) ∨
    ∃ m : Nat, Lib.indexByte (bs (s.extract a s.size)) 45 = (m : Int) ∧ a + m + 1 ≤ s.size ∧ placed a (spl ((bs s).drop a)) = (a, s.extract a (a + m)) :: placed (a + m + 1) (spl ((bs s).drop (a + m + 1))) := by
  rw [drop_extract, bs_ofL]
  rcases idx_cases ((bs s).drop a) with ⟨h1, h2⟩ | ⟨p, r, h1, h2, h3⟩
  · refine .inl ⟨h1, ?_⟩
    rw [spl_plain h2]; rfl
  · refine .inr ⟨p.length, h1, ?_, ?_⟩
    · have := congrArg List.length h2
      rw [List.length_drop, size_bs] at this
      simp at this; omega
    · have hr : (bs s).drop (a + p.length + 1) = r := by
        have e := congrArg (List.drop (p.length + 1)) h2
        rw [List.drop_drop, ← Nat.add_assoc] at e
        rw [e, show p ++ 45 :: r = (p ++ [45]) ++ r by simp, List.drop_left' (by simp)]
      have hp : s.extract a (a + p.length) = ofL p := by
        apply ofL_ext
        rw [bs_ofL, bs_extract, h2, show a + p.length - a = p.length by omega, List.take_left]
      rw [hr, hp]
      conv => lhs; rw [h2, spl_app, spl_plain h3]
      rfl

theorem slice_mid (s : ByteArray) (a m : Nat) (h : a + m ≤ s.size) (w : World) :
    (Instr.slice 9 (.string s) (some (.int .i64 (a : Int))) (some (.int .i64 ((a : Int) + (m : Int)))) none).run Try.prog w = .ok (.string (s.extract a (a + m))) w := by
  rw [run_slice_string w 9 s .i64 .i64 (a : Int) ((a : Int) + (m : Int)) Try.underlying9 (by omega) (by omega) (by omega), show ((a : Int) + (m : Int)).toNat = a + m by omega, Int.toNat_natCast]

set_option maxRecDepth 100000 in
set_option maxHeartbeats 4000000 in
theorem each_in (n l Bn hi : Nat) (q : Nat → Prop) (fr : Obj → Bool) (s : ByteArray) (hs : s.size ≤ 140737488351232) (hq : q Bn) (J Jx : List (Nat × ByteArray) → World → Prop)
    (hY : ∀ pre (x : Nat × ByteArray) W, J pre W → pre ++ [x] <+: pieces s → YieldAt Fence.wide (n - 1) Try.prog l #[.int .i64 x.1, .string x.2] W fun e W' =>
      (e = .returned (.bool true) ∧ J (pre ++ [x]) W' ∧ KeepQ q hi fr W W') ∨ (e = .returned (.bool false) ∧ Jx (pre ++ [x]) W' ∧ KeepQ q hi fr W W'))
    (W : World) (hBn : W.heap[Bn]? = some (.cells #[.string s] 9 (0, 0))) (h0 : J [] W) :
    CallsIn Fence.wide n Try.prog 84 #[.func (.yield l) #[] #[], .pointer (some ⟨Bn, 0, none⟩)] W fun e W' => (∃ v, e = .returned v) ∧
      ((∃ ys, ys = pieces s ∧ J ys W') ∨ (∃ pre, pre <+: pieces s ∧ Jx pre W')) := by
  refine callsIn_of_wp Try.func84 rfl trivial ?_ rfl
  simp only [Try.ntmps84, List.size_toArray, List.length_cons, List.length_nil, Nat.reduceAdd, Nat.reduceSub, Array.replicate_succ, Array.replicate_zero, List.push_toArray, List.append_toArray, List.nil_append, List.cons_append]
  have HBn := Lib.hid hBn
  clear hBn
  gi_wp2
  gi_loopw [3] (fun x wr => ∃ (pre : List (Nat × ByteArray)) (a : Nat), x = .int .i64 a ∧ a ≤ s.size ∧ Hid (pieces s = pre ++ placed a (spl ((bs s).drop a))) ∧ Hid (wr.heap[Bn]? = some (.cells #[.string s] 9 (0, 0))) ∧ J pre wr)
    (fun x _ => s.size + 1 - (intOf x).toNat)
  case atStart => exact ⟨[], 0, rfl, Nat.zero_le _, Lib.hid (by rfl), HBn, h0⟩
  case round =>
    obtain ⟨pre, a, rfl, ha, HP, HB, hJs⟩ := hrel
    have hc := cell_of_one HB.out
    have hi0 : (0 : Int) ≤ (a : Int) := by omega
    have hi1 : (a : Int) ≤ (s.size : Int) := by omega
    have HI := Lib.hid (fun w5 => index_any (s.extract a s.size) w5)
    rcases each_step s a ha with ⟨h1, h2⟩ | ⟨m, h1, h3, h2⟩
    · rw [h1] at HI
      have hp := HP.out
      rw [h2] at hp
      obtain ⟨fn, tmps, assign, body, hy, hR⟩ := hY pre (a, s.extract a s.size) wr hJs (by rw [hp]; exact List.prefix_refl _)
      have HP2 := Lib.hid hp
      clear h1 h2 hp
      gi_wp2_with fail
      refine ⟨trivial, fun h => (by simp [Fence.wide] at h), (callsIn_wide.2 (HI.out _)).mono ?_⟩
      rintro e w' ⟨rfl, rfl⟩
      gi_wp2
      refine ⟨fun h => (by simp [Fence.wide] at h), ?_⟩
      refine hR.mono ?_
      rintro e W3 (⟨rfl, hJ3, hk3⟩ | ⟨rfl, hJx3, hk3⟩)
      · gi_wp2
        refine bodyPost_ret (results_none rfl _ _ _) rfl ?_
        exact ⟨⟨_, rfl⟩, .inl ⟨_, HP2.out.symm, hJ3⟩⟩
      · gi_wp2
        refine bodyPost_ret (results_none rfl _ _ _) rfl ?_
        exact ⟨⟨_, rfl⟩, .inr ⟨_, by rw [HP2.out]; exact List.prefix_refl _, hJx3⟩⟩
    · rw [h1] at HI
      have hp := HP.out
      rw [h2] at hp
      obtain ⟨fn, tmps, assign, body, hy, hR⟩ := hY pre (a, s.extract a (a + m)) wr hJs ⟨placed (a + m + 1) (spl ((bs s).drop (a + m + 1))), by rw [hp]; simp⟩
      have HP2 := Lib.hid hp
      have hm0 : (0 : Int) ≤ (m : Int) := by omega
      have hm1 : (a : Int) + (m : Int) ≤ (s.size : Int) := by omega
      have hsl := slice_mid s a m (by omega)
      clear h1 h2 hp
      gi_wp2_with fail
      refine ⟨trivial, fun h => (by simp [Fence.wide] at h), (callsIn_wide.2 (HI.out _)).mono ?_⟩
      rintro e w' ⟨rfl, rfl⟩
      gi_wp2
      refine ⟨fun h => (by simp [Fence.wide] at h), ?_⟩
      refine hR.mono ?_
      rintro e W3 (⟨rfl, hJ3, hk3⟩ | ⟨rfl, hJx3, hk3⟩)
      · have HB3 := Lib.hid (hk3.blk _ _ HB.out (.inl hq))
        gi_wp2
        go_roundw
        case rel => exact ⟨_, a + m + 1, by go_num, by omega, Lib.hid (by rw [HP2.out]; simp), HB3, hJ3⟩
        case measure => simp [intOf]; omega
      · gi_wp2
        refine bodyPost_ret (results_none rfl _ _ _) rfl ?_
        exact ⟨⟨_, rfl⟩, .inr ⟨_, ⟨_, by rw [HP2.out, List.append_assoc]; rfl⟩, hJx3⟩⟩

theorem each_seq {fr : Obj → Bool} {Bn : Nat} {s : ByteArray} {w : World} {q : Nat → Prop} (hs : s.size ≤ 140737488351232) (hq : q Bn) (hBn : w.heap[Bn]? = some (.cells #[.string s] 9 (0, 0))) :
    SeqQ Try.prog 84 #[.pointer (some ⟨Bn, 0, none⟩)] (fun x : Nat × ByteArray => #[.int .i64 x.1, .string x.2]) q fr (fun ys => ys = pieces s) (fun pre => pre <+: pieces s) w := fun n l J Jx W hW _ _ hY h0 =>
  each_in n l Bn W.heap.size q fr s hs hq J Jx hY W ((hW.block Bn (Array.getElem?_eq_some_iff.1 hBn).1).trans hBn) h0
end Go.Proofs.Ytdgeaelblebaoaa
