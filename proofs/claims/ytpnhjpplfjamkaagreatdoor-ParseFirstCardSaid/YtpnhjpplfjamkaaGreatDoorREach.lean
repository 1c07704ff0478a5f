/-
  Package split: Each's iterator, where a round may panic.
-/
import Derived.Test.YtpnhjpplfjamkaaGreatDoorPiece
import Derived.Test.YtpnhjpplfjamkaaGreatDoorRPanic
namespace Go.Proofs.YtpnhjpplfjamkaaGreatDoor
open Go Go.RowKit

attribute [local go_sem] Oper.semAt_some

set_option maxRecDepth 100000 in
set_option maxHeartbeats 4000000 in
theorem each_inP (n l Bn hi : Nat) (q : Nat → Prop) (fr : Obj → Bool) (s : ByteArray) (hs : s.size ≤ 140737488351232) (hq : q Bn) (J : List (Nat × ByteArray) → World → Prop) (Jp : List PanicEntry → List (Nat × ByteArray) → World → Prop)
    (hY : ∀ pre (x : Nat × ByteArray) W, J pre W → pre ++ [x] <+: pieces s → YieldAt Fence.wide (n - 1) Tryz.prog l #[.int .i64 x.1, .string x.2] W fun e W' =>
      (e = .returned (.bool true) ∧ J (pre ++ [x]) W' ∧ KeepQ q hi fr W W') ∨ (∃ ch, e = .panicked ch ∧ Jp ch (pre ++ [x]) W'))
    (W : World) (hBn : W.heap[Bn]? = some (.cells #[.string s] 9 (0, 0))) (h0 : J [] W) :
    CallsIn Fence.wide n Tryz.prog 83 #[.func (.yield l) #[] #[], .pointer (some ⟨Bn, 0, none⟩)] W fun e W' =>
      ((∃ v, e = .returned v) ∧ ∃ ys, ys = pieces s ∧ J ys W') ∨ (∃ ch pre, e = .panicked ch ∧ pre <+: pieces s ∧ Jp ch pre W') := by
  refine callsIn_of_wp Tryz.func83 rfl trivial ?_ rfl
  simp only [Tryz.ntmps83, List.size_toArray, List.length_cons, List.length_nil, Nat.reduceAdd, Nat.reduceSub, Array.replicate_succ, Array.replicate_zero, List.push_toArray, List.append_toArray, List.nil_append, List.cons_append]
  have HBn := Lib.hid hBn
  clear hBn
  gi_wp2
  gi_loopw [3] (fun x wr => ∃ (pre : List (Nat × ByteArray)) (a : Nat), x = .int .i64 a ∧ a ≤ s.size ∧ Hid (pieces s = pre ++ placed a (spl ((bs s).drop a))) ∧ Hid (wr.heap[Bn]? = some (.cells #[.string s] 9 (0, 0))) ∧ J pre wr)
    (fun x _ => s.size + 1 - (intOf x).toNat)
  case atStart => exact ⟨[], 0, rfl, Nat.zero_le _, Lib.hid (by rfl), HBn, h0⟩
  case round =>
    obtain ⟨pre, a, rfl, ha, HP, HB, hJs⟩ := hrel
    have hc := cell_of_one HB.out
    have hi0 : (0 : Int) ≤ (a : Int) := by omega
    have hi1 : (a : Int) ≤ (s.size : Int) := by omega
    have HI := Lib.hid (fun w5 => index_any (s.extract a s.size) w5)
    rcases each_step s a ha with ⟨h1, h2⟩ | ⟨m, h1, h3, h2⟩
    · rw [h1] at HI
      have hp := HP.out
      rw [h2] at hp
      obtain ⟨fn, tmps, assign, body, hy, hR⟩ := hY pre (a, s.extract a s.size) wr hJs (by rw [hp]; exact List.prefix_refl _)
      have HP2 := Lib.hid hp
      clear h1 h2 hp
      gi_wp2_with fail
      refine ⟨trivial, fun h => (by simp [Fence.wide] at h), (callsIn_wide.2 (HI.out _)).mono ?_⟩
      rintro e w' ⟨rfl, rfl⟩
      gi_wp2
      refine ⟨fun h => (by simp [Fence.wide] at h), ?_⟩
      refine hR.mono ?_
      rintro e W3 (⟨rfl, hJ3, hk3⟩ | ⟨ch, rfl, hp3⟩)
      · gi_wp2
        refine bodyPost_ret (results_none rfl _ _ _) rfl ?_
        exact .inl ⟨⟨_, rfl⟩, _, HP2.out.symm, hJ3⟩
      · exact ⟨rfl, .inr ⟨_, _, rfl, by rw [HP2.out]; exact List.prefix_refl _, hp3⟩⟩
    · rw [h1] at HI
      have hp := HP.out
      rw [h2] at hp
      obtain ⟨fn, tmps, assign, body, hy, hR⟩ := hY pre (a, s.extract a (a + m)) wr hJs ⟨placed (a + m + 1) (spl ((bs s).drop (a + m + 1))), by rw [hp]; simp⟩
      have HP2 := Lib.hid hp
      have hm0 : (0 : Int) ≤ (m : Int) := by omega
      have hm1 : (a : Int) + (m : Int) ≤ (s.size : Int) := by omega
      have hsl := slice_mid s a m (by omega)
      clear h1 h2 hp
      gi_wp2_with fail
      refine ⟨trivial, fun h => (by simp [Fence.wide] at h), (callsIn_wide.2 (HI.out _)).mono ?_⟩
      rintro e w' ⟨rfl, rfl⟩
      gi_wp2
      refine ⟨fun h => (by simp [Fence.wide] at h), ?_⟩
      refine hR.mono ?_
      rintro e W3 (⟨rfl, hJ3, hk3⟩ | ⟨ch, rfl, hp3⟩)
      · have HB3 := Lib.hid (hk3.blk _ _ HB.out (.inl hq))
        gi_wp2
        go_roundw
        case rel => exact ⟨_, a + m + 1, by go_num, by omega, Lib.hid (by rw [HP2.out]; simp), HB3, hJ3⟩
        case measure => simp [intOf]; omega
      · exact ⟨rfl, .inr ⟨_, _, rfl, ⟨_, by rw [HP2.out, List.append_assoc]; rfl⟩, hp3⟩⟩

theorem each_seqP {fr : Obj → Bool} {Bn : Nat} {s : ByteArray} {w : World} {q : Nat → Prop} (hs : s.size ≤ 140737488351232) (hq : q Bn) (hBn : w.heap[Bn]? = some (.cells #[.string s] 9 (0, 0))) :
    SeqP Tryz.prog 83 #[.pointer (some ⟨Bn, 0, none⟩)] (fun x : Nat × ByteArray => #[.int .i64 x.1, .string x.2]) q fr (fun ys => ys = pieces s) (fun pre => pre <+: pieces s) w := fun n l J Jp W hW _ hY h0 =>
  each_inP n l Bn W.heap.size q fr s hs hq J Jp hY W ((hW.block Bn (Array.getElem?_eq_some_iff.1 hBn).1).trans hBn) h0
end Go.Proofs.YtpnhjpplfjamkaaGreatDoor
