/-
  Package grand: Len, Regular, All and its iterator.
-/
import Derived.Test.YtaeaknpkjgacdaaDoorETags
import Derived.OwnWalkIn
import Derived.OneCell
import Derived.TacticsInMore
import Derived.LoopNIn
import Derived.LoopIn
namespace Go.Proofs.YtaeaknpkjgacdaaDoor
open Go Go.RowKit

attribute [local go_sem] Oper.semAt_some

theorem len_any (w : World) : Calls Tryd.prog 18 #[] w fun e w' => e = .returned (.int .i64 26) ∧ w = w' := by
  go_enter Tryd.func18, Tryd.ntmps18
  go_wp2
  go_ret
  exact ⟨rfl, rfl⟩
theorem regular_in (k : Nat) (hk : k < 26) (w : World) (hg : GL w) : Calls Tryd.prog 22 #[.int .i64 (k : Int)] w fun e w' => e = .returned (.bool (regG k)) ∧ w = w' := by
  have hc := hg.reg k hk
  have h0 : (0 : Int) ≤ (k : Int) := by omega
  have h1 : (k : Int) < 26 := by omega
  clear hg
  generalize regG k = r at *
  go_enter Tryd.func22, Tryd.ntmps22
  go_wp2
  go_ret
  exact ⟨rfl, rfl⟩
theorem regular_out (i : Int) (hi : i < 0 ∨ 26 ≤ i) (w : World) : Calls Tryd.prog 22 #[.int .i64 i] w fun e w' => e = .returned (.bool false) ∧ w = w' := by
  by_cases h0 : 0 ≤ i
  · have h1 : ¬ i < 26 := by omega
    clear hi
    go_enter Tryd.func22, Tryd.ntmps22
    go_wp2
    go_ret
    exact ⟨rfl, rfl⟩
  · clear hi
    go_enter Tryd.func22, Tryd.ntmps22
    go_wp2
    go_ret
    exact ⟨rfl, rfl⟩
theorem all_make (w : World) : Calls Tryd.prog 15 #[] w fun e w' => e = .returned (.func (.func 26) #[] #[]) ∧ w = w' := by
  go_enter Tryd.func15, Tryd.ntmps15
  go_wp2
  go_ret
  exact ⟨rfl, rfl⟩

/-- All, with their numbers. -/
def gAll : List (Nat × ByteArray) := (List.range 26).map fun k => (k, nameG k)
theorem gAll_len : gAll.length = 26 := by simp [gAll]
theorem gAll_take (k : Nat) (hk : k < 26) : gAll.take (k + 1) = gAll.take k ++ [(k, nameG k)] := by
  rw [List.take_add_one]
  congr 1
  simp [gAll, hk]
theorem gAll_prefix (k : Nat) : gAll.take k <+: gAll := List.take_prefix _ _
theorem index_tag (k : Nat) (hk : k < 26) (w : World) : (Instr.index 54 (.agg gC.toArray) (.int .i64 (k : Int))).run Tryd.prog w = .ok (.agg #[.string (nameG k), .bool (regG k)]) w := by
  have h : k = 0 ∨ k = 1 ∨ k = 2 ∨ k = 3 ∨ k = 4 ∨ k = 5 ∨ k = 6 ∨ k = 7 ∨ k = 8 ∨ k = 9 ∨ k = 10 ∨ k = 11 ∨ k = 12 ∨ k = 13 ∨ k = 14 ∨ k = 15 ∨ k = 16 ∨ k = 17 ∨ k = 18 ∨ k = 19 ∨ k = 20 ∨ k = 21 ∨ k = 22 ∨ k = 23 ∨ k = 24 ∨ k = 25 := by omega
  rcases h with rfl | rfl | rfl | rfl | rfl | rfl | rfl | rfl | rfl | rfl | rfl | rfl | rfl | rfl | rfl | rfl | rfl | rfl | rfl | rfl | rfl | rfl | rfl | rfl | rfl | rfl <;> (show _ = _; kernel_rfl)

theorem wpListIn_load_tags {F : Fence} {n : Nat} {w : World} {ops : Array Oper} {rest : List Oper} {o : Oper} {a : Act} {Q : Exit → Act → World → Prop}
    (hg : o.guard = none) (hop : o.op = .load 54 (.global 0)) (h : GL w) {gc : Array Value} (hgc : gC.toArray = gc)
    (hK : wpListIn F n Tryd.prog ops Q rest (a.put o.dst (.agg gc)) w) : wpListIn F n Tryd.prog ops Q (o :: rest) a w := by
  refine wpListIn_plain hg fun K hK' => ?_
  unfold Oper.wpIn
  refine ⟨?_, ?_⟩
  · simp [Oper.about, hop]
  · rw [Oper.semAt_plain F _ _ (by rw [hop]; intro c hc'; cases hc')]
    have he : a.eval (.global 0) = .pointer (some ⟨0, 0, none⟩) := rfl
    simp only [execOp, hop, he, Sem.run_bind, h.load, Result.andThen]
    rw [hgc]
    exact hK' _ _ hK

set_option maxRecDepth 100000 in
set_option maxHeartbeats 4000000 in
theorem all_in (n l hi : Nat) (q : Nat → Prop) (fr : Obj → Bool) (B0 : Nat) (J Jx : List (Nat × ByteArray) → World → Prop) (hJ : OwnFrom B0 J)
    (hY : ∀ pre (x : Nat × ByteArray) W, J pre W → pre ++ [x] <+: gAll → YieldAt Fence.wide (n - 1) Tryd.prog l #[.int .i64 x.1, .string x.2] W fun e W' =>
      (e = .returned (.bool true) ∧ J (pre ++ [x]) W' ∧ KeepQ q hi fr W W') ∨ (e = .returned (.bool false) ∧ Jx (pre ++ [x]) W' ∧ KeepQ q hi fr W W'))
    (W : World) (hg : GL W) (h0 : J [] W) :
    CallsIn Fence.wide n Tryd.prog 26 #[.func (.yield l) #[] #[]] W fun e W' => (∃ v, e = .returned v) ∧
      ((∃ ys, ys = gAll ∧ J ys W') ∨ (∃ pre, pre <+: gAll ∧ Jx pre W')) := by
  have HG := Lib.hid hg
  clear hg
  refine callsIn_of_wp Tryd.func26 rfl trivial ?_ rfl
  simp only [Tryd.ntmps26, List.size_toArray, List.length_cons, List.length_nil, Nat.reduceAdd, Nat.reduceSub, Array.replicate_succ, Array.replicate_zero, List.push_toArray, List.append_toArray, List.nil_append, List.cons_append]
  have hidx := index_tag
  obtain ⟨gc, hgc⟩ : ∃ g, gC.toArray = g := ⟨_, rfl⟩
  rw [hgc] at hidx
  have HGC := Lib.hid hgc
  clear hgc
  gi_wp2_with (refine wpListIn_load_tags rfl rfl HG.out HGC.out ?_)
  clear HG HGC
  gi_loopw [5] (fun x wr => ∃ k : Nat, x = .int .i64 (k : Int) ∧ k ≤ 26 ∧ J (gAll.take k) wr) (fun x _ => 27 - (intOf x).toNat)
  case atStart => exact ⟨0, rfl, Nat.zero_le _, h0⟩
  case round =>
    obtain ⟨k, rfl, hk, hJs⟩ := hrel
    by_cases hlt : k < 26
    · have hlt' : (k : Int) < 26 := by omega
      have hk0 : (0 : Int) ≤ (k : Int) := by omega
      have hi := hidx k hlt
      have hp := gAll_take k hlt
      have hJ1 := hJ.alloc (.cells #[.string (nameG k), .bool (regG k)] 53) hJs
      have hpre : gAll.take k ++ [(k, nameG k)] <+: gAll := by rw [← hp]; exact gAll_prefix _
      obtain ⟨fn, tmps, assign, body, hy, hR⟩ := hY _ (k, nameG k) _ hJ1 hpre
      have HP := Lib.hid hp
      clear hp hJ1
      gi_wp2_with fail
      refine ⟨fun h => (by simp [Fence.wide] at h), ?_⟩
      refine hR.mono ?_
      rintro e W3 (⟨rfl, hJ3, hk3⟩ | ⟨rfl, hJx3, hk3⟩)
      · gi_wp2
        go_roundw
        case rel => exact ⟨k + 1, by go_num, by omega, by rw [HP.out]; exact hJ3⟩
        case measure => simp [intOf]; omega
      · gi_wp2
        refine bodyPost_ret (results_none rfl _ _ _) rfl ?_
        exact ⟨⟨_, rfl⟩, .inr ⟨_, hpre, hJx3⟩⟩
    · obtain rfl : k = 26 := by omega
      gi_wp2
      go_end0
      exact ⟨⟨_, rfl⟩, .inl ⟨_, rfl, by rwa [List.take_of_length_le (by rw [gAll_len]; exact Nat.le_refl _)] at hJs⟩⟩

theorem all_seq {fr : Obj → Bool} {q : Nat → Prop} {w : World} (hg : GL w) :
    SeqQ Tryd.prog 26 #[] (fun x : Nat × ByteArray => #[.int .i64 x.1, .string x.2]) q fr (fun ys => ys = gAll) (fun pre => pre <+: gAll) w := fun n l J Jx W hW hJ _ hY h0 =>
  all_in n l W.heap.size q fr _ J Jx hJ hY W (hg.below hW hg.size) h0
theorem prefix_gAll {pre : List (Nat × ByteArray)} {x : Nat × ByteArray} (h : pre ++ [x] <+: gAll) : pre.length < 26 ∧ x = (pre.length, nameG pre.length) := by
  obtain ⟨r, hr⟩ := h
  have hl := congrArg List.length hr
  rw [gAll_len] at hl
  simp at hl
  have h1 : pre.length < 26 := by omega
  refine ⟨h1, ?_⟩
  have h2 := congrArg (fun l => l[pre.length]?) hr
  simpa [gAll, h1] using h2
end Go.Proofs.YtaeaknpkjgacdaaDoor
