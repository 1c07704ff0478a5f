/-
  Package fault: an error's row as a list, and row's iterator. Package fault: the iterator that faults hands back: it ranges over row's. Package fault: Kind and Has of an error whose row is known. Package fault: Place of an error whose row is known. Package fault: Total of an error whose row is known. Package fault: Whats of an error whose row is known. Package fault: New and Wrap; and the chapter's example, asked of Kind, Place and Total. The statements' own function row: a row of items, cut to nine, their texts to twelve bytes.
-/
import Derived.Test.YtpnhjpplfjamkaaGreatDoorErr
import Derived.Test.YtpnhjpplfjamkaaGreatDoorSeqs
import Derived.OwnWalkIn
import Derived.LaidEqlPtr
import Derived.TacticsInMore
import Derived.LoopNIn
import Derived.LoopIn
import Derived.Shelf.Abstract
import Derived.OneCell
import Derived.RangeFuncBox
import Derived.Maps.AppendAt
import Derived.OwnWalk
import Derived.OrdersIn
import Derived.Deep.RegionHeld3
import Derived.Test.YtpnhjpplfjamkaaGreatDoorProg
import Derived.WalkKit
import Derived.Lib.Hide
import Derived.WalkSmall
import Derived.Laws.NewBlocks
/-! Package fault: an error's row as a list, and row's iterator. -/
namespace Go.Proofs.YtpnhjpplfjamkaaGreatDoor
open Go Go.RowKit

attribute [local go_sem] Oper.semAt_some

/-- An error of a row: a number; a fault, its block, place and words; an error of another make, what lies within it. -/
inductive El where
  | num (k : Int)
  | fault (b : Nat) (p : Int) (s : ByteArray)
def El.val : El → Value
  | .num k => .iface 44 (.int .i64 k)
  | .fault b _ _ => .iface 82 (.pointer (some ⟨b, 0, none⟩))
/-- The block of a fault. -/
def faultObj (p : Int) (s : ByteArray) (u : Value) : Obj := .cells #[.int .i64 p, .string s, u] 84 (0, 0)

/-- The value v is an error whose row is xs, its faults in blocks below n, each deeper one in a lower block. -/
def Chain (W : World) : Nat → Value → List El → Prop
  | _, v, [] => v = .nilIface
  | _, v, .num k :: rest => v = .iface 44 (.int .i64 k) ∧ rest = []
  | n, v, .fault b p s :: rest => v = .iface 82 (.pointer (some ⟨b, 0, none⟩)) ∧ b < n ∧ ∃ u, W.heap[b]? = some (faultObj p s u) ∧ Chain W b u rest
theorem faultObj_cell {W : World} {b : Nat} {p : Int} {s : ByteArray} {u : Value} (h : W.heap[b]? = some (faultObj p s u)) :
    W.cell? ⟨b, 0, none⟩ = some (.int .i64 p) ∧ W.cell? ⟨b, 1, none⟩ = some (.string s) ∧ W.cell? ⟨b, 2, none⟩ = some u := by
  simp [World.cell?, h, faultObj]

theorem Chain.same {W W' : World} : ∀ {n : Nat} {v : Value} {xs : List El}, (∀ k, k < n → W'.heap[k]? = W.heap[k]?) → Chain W n v xs → Chain W' n v xs
  | _, _, [], _, h => h
  | _, _, .num _ :: _, _, h => h
  | _, _, .fault b _ _ :: _, hk, ⟨h1, h2, u, h5, h6⟩ => ⟨h1, h2, u, (hk b h2).trans h5, Chain.same (fun k hkb => hk k (by omega)) h6⟩
theorem Chain.mono {W : World} : ∀ {n m : Nat} {v : Value} {xs : List El}, n ≤ m → Chain W n v xs → Chain W m v xs
  | _, _, _, [], _, h => h
  | _, _, _, .num _ :: _, _, h => h
  | _, _, _, .fault _ _ _ :: _, hn, ⟨h1, h2, h3⟩ => ⟨h1, by omega, h3⟩
theorem Chain.below {W W' : World} {n B : Nat} {v : Value} {xs : List El} (h : Chain W n v xs) (hb : Below B W W') (hn : n ≤ B) : Chain W' n v xs :=
  h.same (fun k hk => hb.block k (by omega))
theorem Chain.head {W : World} {n : Nat} {v : Value} {x : El} {xs : List El} (h : Chain W n v (x :: xs)) : v = x.val := by
  cases x with
  | num k => exact h.1
  | fault b p s => exact h.1
/-- inner, at the head of a row: what is left of the row. -/
theorem inner_chain {n : Nat} {x : El} {rest : List El} (w : World) (h : Chain w n x.val (x :: rest)) :
    Calls Tryz.prog 71 #[x.val] w fun e w' => ∃ u, e = .returned u ∧ Chain w n u rest ∧ (∀ b p s, x = .fault b p s → Chain w b u rest) ∧ Below w.heap.size w w' := by
  cases x with
  | num k => exact (inner_errno k w).mono fun e w' ⟨he, hw⟩ => ⟨_, he, (by rw [h.2]; rfl), fun _ _ _ e => (by cases e), (by rw [← hw]; exact Below.refl _ _)⟩
  | fault b p s =>
    obtain ⟨_, h2, u, h5, h6⟩ := h
    exact (inner_fault b u w (faultObj_cell h5).2.2).mono fun e w' ⟨he, hw⟩ => ⟨_, he, h6.mono (by omega), fun _ _ _ e => (by cases e; exact h6), hw⟩
set_option maxRecDepth 100000 in
theorem row_make (t : TypeId) (u : Value) (w : World) :
    Calls Tryz.prog 38 #[.iface t u] w fun e w' => e = .returned (.func (.func 70) #[] #[.pointer (some ⟨w.heap.size, 0, none⟩)]) ∧ w.alloc (.cells #[.iface t u] 41) = w' := by
  have hmf : ∀ (fn : Fn) (first cap : Array Value) (w : World), (Instr.makeFunc fn first cap).run Tryz.prog w = .ok (.func fn first cap) w := fun _ _ _ _ => rfl
  go_enter Tryz.func38, Tryz.ntmps38
  go_wp2
  go_ret
  exact ⟨rfl, rfl⟩
set_option maxRecDepth 100000 in
theorem row_make_nil (w : World) :
    Calls Tryz.prog 38 #[.nilIface] w fun e w' => e = .returned (.func (.func 70) #[] #[.pointer (some ⟨w.heap.size, 0, none⟩)]) ∧ w.alloc (.cells #[.nilIface] 41) = w' := by
  have hmf : ∀ (fn : Fn) (first cap : Array Value) (w : World), (Instr.makeFunc fn first cap).run Tryz.prog w = .ok (.func fn first cap) w := fun _ _ _ _ => rfl
  go_enter Tryz.func38, Tryz.ntmps38
  go_wp2
  go_ret
  exact ⟨rfl, rfl⟩

theorem faultSize : (Tryz.prog.info? 84).map (·.size) = some 3 := by kernel_rfl
theorem fault_eq_mark {b bm : Nat} {p q : Int} {s t : ByteArray} {u v : Value} (w : World) (hne : b ≠ bm) (hb : w.heap[b]? = some (faultObj p s u)) (hm : w.heap[bm]? = some (faultObj q t v)) :
    (binOp .eql 82 (.pointer (some ⟨b, 0, none⟩)) (.pointer (some ⟨bm, 0, none⟩))).run Tryz.prog w = .ok (.bool false) w := by
  obtain ⟨j, hj, hjs⟩ := Option.map_eq_some_iff.1 faultSize
  exact run_eql_ptr_other w Tryz.underlying82 hj (by rw [hjs]; decide) (fun e => hne (by cases e; rfl)) hb hm

/-- Where the mark may lie: nowhere, or at a fault that the rest of the row does not reach. -/
def MarkAt (W : World) (n₀ n : Nat) (m : Option Addr) : Prop := m = none ∨ ∃ b p s u, m = some ⟨b, 0, none⟩ ∧ n ≤ b ∧ b < n₀ ∧ W.heap[b]? = some (faultObj p s u)
theorem MarkAt.same {W W' : World} {n₀ n : Nat} {m : Option Addr} (h : MarkAt W n₀ n m) (hk : ∀ k, k < n₀ → W'.heap[k]? = W.heap[k]?) : MarkAt W' n₀ n m := by
  rcases h with h | ⟨b, p, s, u, h1, h2, h3, h4⟩
  · exact .inl h
  · exact .inr ⟨b, p, s, u, h1, h2, h3, (hk b h3).trans h4⟩
theorem MarkAt.le {W : World} {n₀ n n' : Nat} {m : Option Addr} (h : MarkAt W n₀ n m) (hn : n' ≤ n) : MarkAt W n₀ n' m := by
  rcases h with h | ⟨b, p, s, u, h1, h2, h3, h4⟩
  · exact .inl h
  · exact .inr ⟨b, p, s, u, h1, by omega, h3, h4⟩

set_option maxRecDepth 100000 in
set_option maxHeartbeats 2000000 in
theorem row_in (n l n₀ Bn hi : Nat) (fr : Obj → Bool) (v : Value) (xs : List El) (hlen : xs.length < 1048576) (J Jx : List El → World → Prop)
    (hJ : OwnFrom hi J)
    (hY : ∀ pre x W, J pre W → pre ++ [x] <+: xs → YieldAt Fence.wide (n - 1) Tryz.prog l #[El.val x] W fun e W' =>
      (e = .returned (.bool true) ∧ J (pre ++ [x]) W' ∧ Keep n₀ hi fr W W') ∨ (e = .returned (.bool false) ∧ Jx (pre ++ [x]) W' ∧ Keep n₀ hi fr W W'))
    (W : World) (hn₀ : n₀ ≤ W.heap.size) (hBn : W.cell? ⟨Bn, 0, none⟩ = some v) (hL : Chain W n₀ v xs) (h0 : J [] W) :
    CallsIn Fence.wide n Tryz.prog 70 #[.func (.yield l) #[] #[], .pointer (some ⟨Bn, 0, none⟩)] W fun e W' => (∃ v, e = .returned v) ∧
      ((∃ ys, ys = xs ∧ J ys W') ∨ (∃ pre, pre <+: xs ∧ Jx pre W')) := by
  refine callsIn_of_wp Tryz.func70 rfl trivial ?_ rfl
  simp only [Tryz.ntmps70, List.size_toArray, List.length_cons, List.length_nil, Nat.reduceAdd, Nat.reduceSub, Array.replicate_succ, Array.replicate_zero, List.push_toArray, List.append_toArray, List.nil_append, List.cons_append]
  gi_wp2
  gi_loopw [3, 4, 5, 6] (fun m t o x wr => ∃ (pre rest : List El) (ma : Option Addr) (a b bd : Nat), m = .pointer ma ∧ t = .int .i64 a ∧ o = .int .i64 b ∧ xs = pre ++ rest ∧ a + b = pre.length ∧ bd ≤ n₀ ∧ MarkAt wr n₀ bd ma ∧ Chain wr bd x rest ∧ n₀ ≤ wr.heap.size ∧ J pre wr)
    (fun _ t o _ _ => xs.length - (intOf t + intOf o).toNat)
  case atStart => exact ⟨[], xs, none, 0, 0, n₀, rfl, rfl, rfl, rfl, rfl, Nat.le_refl _, .inl rfl, hL, hn₀, h0⟩
  case round =>
    obtain ⟨pre, rest, ma, a, b, bd, rfl, rfl, rfl, hx, hab, hbd, hma, hch, hsz, hJs⟩ := hrel
    cases rest with
    | nil =>
      obtain rfl := hch
      have hp : pre = xs := by simp [hx]
      gi_wp2
      go_end0
      exact ⟨⟨_, rfl⟩, .inl ⟨pre, hp, hJs⟩⟩
    | cons x rest =>
      have hpl : pre.length < xs.length := by rw [hx]; simp
      obtain ⟨fn, tmps, assign, body, hy, hR⟩ := hY pre x wr hJs ⟨rest, by simp [hx]⟩
      have hbl : b < 1048576 := by omega
      have hb2 : (b : Int) < 1048576 := by omega
      cases x with
      | num k =>
        obtain ⟨rfl, hr0⟩ := hch
        have ta := erNoFault
        simp only [El.val] at hy
        gi_wp2
        refine ⟨fun h => (by simp [Fence.wide] at h), ?_⟩
        refine hR.mono ?_
        rintro e W3 (⟨rfl, hJ3, hk3⟩ | ⟨rfl, hJx3, hk3⟩)
        · have hch3 : Chain W3 bd (El.num k).val (El.num k :: rest) := ⟨rfl, hr0⟩
          gi_wp2_with fail
          refine ⟨trivial, fun h => (by simp [Fence.wide] at h), (callsIn_wide.2 (inner_chain W3 hch3)).mono ?_⟩
          rintro e W4 ⟨u, rfl, hch4, _, hb4⟩
          have hJ4 := hJ _ _ _ none hJ3 (grown_of_below hb4) (fun r e => (by cases e))
          have hs3 : n₀ ≤ W3.heap.size := Nat.le_trans hsz hk3.size
          have hs4 : n₀ ≤ W4.heap.size := Nat.le_trans hs3 hb4.size
          have hm4 : MarkAt W4 n₀ bd ma := hma.same (fun k hk => (hb4.block k (by omega)).trans (hk3.blk' k (by omega) hk))
          have hc4 := hch4.below hb4 (by omega)
          clear hch3
          gi_wp2
          go_roundw
          case rel => exact ⟨pre ++ [.num k], rest, ma, a, b + 1, bd, rfl, rfl, by go_num, by simp [hx], by simp; omega, hbd, hm4, hc4, hs4, hJ4⟩
          case measure => simp [intOf]; omega
        · gi_wp2
          refine bodyPost_ret (results_none rfl _ _ _) rfl ?_
          exact ⟨⟨_, rfl⟩, .inr ⟨pre ++ [.num k], ⟨rest, by simp [hx]⟩, hJx3⟩⟩
      | fault fb p s =>
        obtain ⟨rfl, hfb, u, hc2, hr0⟩ := hch
        have ta := faFault
        simp only [El.val] at hy
        have ha1 : (0 : Int) ≤ (a : Int) + 1 := by omega
        have ha2 : (a : Int) + 1 ≤ 1048577 := by omega
        obtain ⟨z, hz1⟩ : ∃ z, bits .and .i64 ((a : Int) + 1) (a : Int) = z := ⟨_, rfl⟩
        have hz2 : bits .and .i64 ((a : Int) + 1) ((a : Int) + 1 - 1) = z := by rw [← hz1]; congr 1; omega
        obtain ⟨zb, hzb⟩ : ∃ zb, (z == 0) = zb := ⟨_, rfl⟩
        have HC := Lib.hid hc2
        clear hc2
        rcases hma with rfl | ⟨bm, q, t, v', rfl, hbm, hbn, hbo⟩
        · cases zb
          · gi_wp2
            refine ⟨fun h => (by simp [Fence.wide] at h), ?_⟩
            refine hR.mono ?_
            rintro e W3 (⟨rfl, hJ3, hk3⟩ | ⟨rfl, hJx3, hk3⟩)
            · have hsame3 : ∀ k, k < n₀ → W3.heap[k]? = wr.heap[k]? := fun k hk => hk3.blk' k (by omega) hk
              have hch3 : Chain W3 bd (El.fault fb p s).val (El.fault fb p s :: rest) := ⟨rfl, hfb, u, (hsame3 fb (by omega)).trans HC.out, hr0.same (fun k hk => hsame3 k (by omega))⟩
              gi_wp2_with fail
              refine ⟨trivial, fun h => (by simp [Fence.wide] at h), (callsIn_wide.2 (inner_chain W3 hch3)).mono ?_⟩
              rintro e W4 ⟨u4, rfl, hch4, hch5, hb4⟩
              have hJ4 := hJ _ _ _ none hJ3 (grown_of_below hb4) (fun r e => (by cases e))
              have hs3 : n₀ ≤ W3.heap.size := Nat.le_trans hsz hk3.size
              have hs4 : n₀ ≤ W4.heap.size := Nat.le_trans hs3 hb4.size
              have hm4 : MarkAt W4 n₀ fb (none) := MarkAt.same (.inl rfl) (fun k hk => (hb4.block k (by omega)).trans (hsame3 k hk))
              have hc4 : Chain W4 fb u4 rest := (hch5 _ _ _ rfl).below hb4 (by omega)
              clear hch3 hsame3
              gi_wp2
              go_roundw
              case rel => exact ⟨pre ++ [El.fault fb p s], rest, _, a + 1, b, fb, rfl, by go_num, by go_num, by simp [hx], by simp; omega, by omega, hm4, hc4, hs4, hJ4⟩
              case measure => simp [intOf]; omega
            · gi_wp2
              refine bodyPost_ret (results_none rfl _ _ _) rfl ?_
              exact ⟨⟨_, rfl⟩, .inr ⟨pre ++ [El.fault fb p s], ⟨rest, by simp [hx]⟩, hJx3⟩⟩
          · gi_wp2
            refine ⟨fun h => (by simp [Fence.wide] at h), ?_⟩
            refine hR.mono ?_
            rintro e W3 (⟨rfl, hJ3, hk3⟩ | ⟨rfl, hJx3, hk3⟩)
            · have hsame3 : ∀ k, k < n₀ → W3.heap[k]? = wr.heap[k]? := fun k hk => hk3.blk' k (by omega) hk
              have hch3 : Chain W3 bd (El.fault fb p s).val (El.fault fb p s :: rest) := ⟨rfl, hfb, u, (hsame3 fb (by omega)).trans HC.out, hr0.same (fun k hk => hsame3 k (by omega))⟩
              gi_wp2_with fail
              refine ⟨trivial, fun h => (by simp [Fence.wide] at h), (callsIn_wide.2 (inner_chain W3 hch3)).mono ?_⟩
              rintro e W4 ⟨u4, rfl, hch4, hch5, hb4⟩
              have hJ4 := hJ _ _ _ none hJ3 (grown_of_below hb4) (fun r e => (by cases e))
              have hs3 : n₀ ≤ W3.heap.size := Nat.le_trans hsz hk3.size
              have hs4 : n₀ ≤ W4.heap.size := Nat.le_trans hs3 hb4.size
              have hm4 : MarkAt W4 n₀ fb (some ⟨fb, 0, none⟩) := MarkAt.same (.inr ⟨fb, p, s, u, rfl, Nat.le_refl _, by omega, HC.out⟩) (fun k hk => (hb4.block k (by omega)).trans (hsame3 k hk))
              have hc4 : Chain W4 fb u4 rest := (hch5 _ _ _ rfl).below hb4 (by omega)
              clear hch3 hsame3
              gi_wp2
              go_roundw
              case rel => exact ⟨pre ++ [El.fault fb p s], rest, _, a + 1, b, fb, rfl, by go_num, by go_num, by simp [hx], by simp; omega, by omega, hm4, hc4, hs4, hJ4⟩
              case measure => simp [intOf]; omega
            · gi_wp2
              refine bodyPost_ret (results_none rfl _ _ _) rfl ?_
              exact ⟨⟨_, rfl⟩, .inr ⟨pre ++ [El.fault fb p s], ⟨rest, by simp [hx]⟩, hJx3⟩⟩
        · have heq := fault_eq_mark wr (by omega) HC.out hbo
          have HM := Lib.hid hbo
          clear hbo
          cases zb
          · gi_wp2
            refine ⟨fun h => (by simp [Fence.wide] at h), ?_⟩
            refine hR.mono ?_
            rintro e W3 (⟨rfl, hJ3, hk3⟩ | ⟨rfl, hJx3, hk3⟩)
            · have hsame3 : ∀ k, k < n₀ → W3.heap[k]? = wr.heap[k]? := fun k hk => hk3.blk' k (by omega) hk
              have hch3 : Chain W3 bd (El.fault fb p s).val (El.fault fb p s :: rest) := ⟨rfl, hfb, u, (hsame3 fb (by omega)).trans HC.out, hr0.same (fun k hk => hsame3 k (by omega))⟩
              gi_wp2_with fail
              refine ⟨trivial, fun h => (by simp [Fence.wide] at h), (callsIn_wide.2 (inner_chain W3 hch3)).mono ?_⟩
              rintro e W4 ⟨u4, rfl, hch4, hch5, hb4⟩
              have hJ4 := hJ _ _ _ none hJ3 (grown_of_below hb4) (fun r e => (by cases e))
              have hs3 : n₀ ≤ W3.heap.size := Nat.le_trans hsz hk3.size
              have hs4 : n₀ ≤ W4.heap.size := Nat.le_trans hs3 hb4.size
              have hm4 : MarkAt W4 n₀ fb (some ⟨bm, 0, none⟩) := MarkAt.same (.inr ⟨bm, q, t, v', rfl, by omega, hbn, HM.out⟩) (fun k hk => (hb4.block k (by omega)).trans (hsame3 k hk))
              have hc4 : Chain W4 fb u4 rest := (hch5 _ _ _ rfl).below hb4 (by omega)
              clear hch3 hsame3
              gi_wp2
              go_roundw
              case rel => exact ⟨pre ++ [El.fault fb p s], rest, _, a + 1, b, fb, rfl, by go_num, by go_num, by simp [hx], by simp; omega, by omega, hm4, hc4, hs4, hJ4⟩
              case measure => simp [intOf]; omega
            · gi_wp2
              refine bodyPost_ret (results_none rfl _ _ _) rfl ?_
              exact ⟨⟨_, rfl⟩, .inr ⟨pre ++ [El.fault fb p s], ⟨rest, by simp [hx]⟩, hJx3⟩⟩
          · gi_wp2
            refine ⟨fun h => (by simp [Fence.wide] at h), ?_⟩
            refine hR.mono ?_
            rintro e W3 (⟨rfl, hJ3, hk3⟩ | ⟨rfl, hJx3, hk3⟩)
            · have hsame3 : ∀ k, k < n₀ → W3.heap[k]? = wr.heap[k]? := fun k hk => hk3.blk' k (by omega) hk
              have hch3 : Chain W3 bd (El.fault fb p s).val (El.fault fb p s :: rest) := ⟨rfl, hfb, u, (hsame3 fb (by omega)).trans HC.out, hr0.same (fun k hk => hsame3 k (by omega))⟩
              gi_wp2_with fail
              refine ⟨trivial, fun h => (by simp [Fence.wide] at h), (callsIn_wide.2 (inner_chain W3 hch3)).mono ?_⟩
              rintro e W4 ⟨u4, rfl, hch4, hch5, hb4⟩
              have hJ4 := hJ _ _ _ none hJ3 (grown_of_below hb4) (fun r e => (by cases e))
              have hs3 : n₀ ≤ W3.heap.size := Nat.le_trans hsz hk3.size
              have hs4 : n₀ ≤ W4.heap.size := Nat.le_trans hs3 hb4.size
              have hm4 : MarkAt W4 n₀ fb (some ⟨fb, 0, none⟩) := MarkAt.same (.inr ⟨fb, p, s, u, rfl, Nat.le_refl _, by omega, HC.out⟩) (fun k hk => (hb4.block k (by omega)).trans (hsame3 k hk))
              have hc4 : Chain W4 fb u4 rest := (hch5 _ _ _ rfl).below hb4 (by omega)
              clear hch3 hsame3
              gi_wp2
              go_roundw
              case rel => exact ⟨pre ++ [El.fault fb p s], rest, _, a + 1, b, fb, rfl, by go_num, by go_num, by simp [hx], by simp; omega, by omega, hm4, hc4, hs4, hJ4⟩
              case measure => simp [intOf]; omega
            · gi_wp2
              refine bodyPost_ret (results_none rfl _ _ _) rfl ?_
              exact ⟨⟨_, rfl⟩, .inr ⟨pre ++ [El.fault fb p s], ⟨rest, by simp [hx]⟩, hJx3⟩⟩
theorem row_seq {fr : Obj → Bool} {n₀ Bn : Nat} {v : Value} {xs : List El} {w : World} (hlen : xs.length < 1048576) (hn₀ : n₀ ≤ w.heap.size) (hBn : w.cell? ⟨Bn, 0, none⟩ = some v) (hL : Chain w n₀ v xs) :
    SeqZ Tryz.prog 70 #[.pointer (some ⟨Bn, 0, none⟩)] (fun x : El => #[x.val]) n₀ fr (fun ys => ys = xs) (fun pre => pre <+: xs) w := fun n l J Jx W hW hJ _ hY h0 =>
  row_in n l n₀ Bn W.heap.size fr v xs hlen J Jx hJ hY W (Nat.le_trans hn₀ hW.size) ((hW.cell (p := ⟨Bn, 0, none⟩) (lt_of_cell hBn)).trans hBn) (hL.below hW hn₀) h0

/-- The faults of a row: block, place, words. -/
def fsOf : List El → List (Nat × Int × ByteArray)
  | [] => []
  | .fault b p s :: rest => (b, p, s) :: fsOf rest
  | .num _ :: rest => fsOf rest
theorem fsOf_append (a b : List El) : fsOf (a ++ b) = fsOf a ++ fsOf b := by
  induction a with
  | nil => rfl
  | cons x r ih => cases x <;> simp [fsOf, ih]
theorem fsOf_prefix {a b : List El} (h : a <+: b) : fsOf a <+: fsOf b := by
  obtain ⟨r, rfl⟩ := h
  exact ⟨fsOf r, (fsOf_append a r).symm⟩

set_option maxRecDepth 100000 in
theorem faults_make (t : TypeId) (u : Value) (w : World) :
    Calls Tryz.prog 40 #[.iface t u] w fun e w' => e = .returned (.func (.func 75) #[] #[.pointer (some ⟨w.heap.size, 0, none⟩)]) ∧ w.alloc (.cells #[.iface t u] 41) = w' := by
  have hmf : ∀ (fn : Fn) (first cap : Array Value) (w : World), (Instr.makeFunc fn first cap).run Tryz.prog w = .ok (.func fn first cap) w := fun _ _ _ _ => rfl
  go_enter Tryz.func40, Tryz.ntmps40
  go_wp2
  go_ret
  exact ⟨rfl, rfl⟩
set_option maxRecDepth 100000 in
theorem faults_make_nil (w : World) :
    Calls Tryz.prog 40 #[.nilIface] w fun e w' => e = .returned (.func (.func 75) #[] #[.pointer (some ⟨w.heap.size, 0, none⟩)]) ∧ w.alloc (.cells #[.nilIface] 41) = w' := by
  have hmf : ∀ (fn : Fn) (first cap : Array Value) (w : World), (Instr.makeFunc fn first cap).run Tryz.prog w = .ok (.func fn first cap) w := fun _ _ _ _ => rfl
  go_enter Tryz.func40, Tryz.ntmps40
  go_wp2
  go_ret
  exact ⟨rfl, rfl⟩
end Go.Proofs.YtpnhjpplfjamkaaGreatDoor

/-! Package fault: the iterator that faults hands back: it ranges over row's. -/
namespace Go.Proofs.YtpnhjpplfjamkaaGreatDoor
open Go Go.RowKit

attribute [local go_sem] Oper.semAt_some

/-- What the inner loop keeps between two rounds. -/
def FaI (J : List (Nat × Int × ByteArray) → World → Prop) (B l : Nat) (pre : List El) (W : World) : Prop := J (fsOf pre) W ∧ W.heap[B]? = some (.cells #[.func (.yield l) #[] #[]] 117 (0, 0))
def FaX (Jx : List (Nat × Int × ByteArray) → World → Prop) (c : Code) (pre : List El) (W : World) : Prop := c = .ret ∧ Jx (fsOf pre) W

set_option maxRecDepth 100000 in
set_option maxHeartbeats 2000000 in
theorem faults_in (n l n₀ Bn hi : Nat) (fr : Obj → Bool) (hfr : ∀ o, fr o = true → o.isCells = true) (hfr2 : ∀ cs mk, fr (.cells cs 117 mk) = false) (v : Value) (xs : List El) (hlen : xs.length < 1048576) (J Jx : List (Nat × Int × ByteArray) → World → Prop)
    (hJ : OwnFrom hi J) (hJx : OwnFrom hi Jx)
    (hY : ∀ pre x W, J pre W → pre ++ [x] <+: fsOf xs → YieldAt Fence.wide (n - 1) Tryz.prog l #[.pointer (some ⟨x.1, 0, none⟩)] W fun e W' =>
      (e = .returned (.bool true) ∧ J (pre ++ [x]) W' ∧ Keep n₀ hi fr W W') ∨ (e = .returned (.bool false) ∧ Jx (pre ++ [x]) W' ∧ Keep n₀ hi fr W W'))
    (W : World) (hhi : hi = W.heap.size) (hn₀ : n₀ ≤ W.heap.size) (hBn : W.cell? ⟨Bn, 0, none⟩ = some v) (hL : Chain W n₀ v xs) (h0 : J [] W) :
    CallsIn Fence.wide n Tryz.prog 75 #[.func (.yield l) #[] #[], .pointer (some ⟨Bn, 0, none⟩)] W fun e W' => (∃ v, e = .returned v) ∧
      ((∃ ys, ys = fsOf xs ∧ J ys W') ∨ (∃ pre, pre <+: fsOf xs ∧ Jx pre W')) := by
  refine callsIn_of_wp_marks Tryz.func75 rfl trivial ?_ rfl
  simp only [Tryz.ntmps75, List.size_toArray, List.length_cons, List.length_nil, Nat.reduceAdd, Nat.reduceSub, Array.replicate_succ, Array.replicate_zero, List.push_toArray, List.append_toArray, List.nil_append, List.cons_append]
  have hv : v = .nilIface ∨ ∃ t u, v = .iface t u := by
    cases xs with
    | nil => exact .inl hL
    | cons x r => cases x <;> exact .inr ⟨_, _, hL.head⟩
  have hBl := lt_of_cell hBn
  have hrow : ∀ w, Calls Tryz.prog 38 #[v] w fun e w' => e = .returned (.func (.func 70) #[] #[.pointer (some ⟨w.heap.size, 0, none⟩)]) ∧ w.alloc (.cells #[v] 41) = w' := by
    rcases hv with rfl | ⟨t, u, rfl⟩
    · exact row_make_nil
    · exact row_make t u
  have HR := Lib.hid hrow
  clear hrow
  gi_wp2_with fail
  refine ⟨trivial, fun h => (by simp [Fence.wide] at h), (callsIn_wide.2 (HR.out _)).mono ?_⟩
  rintro e w' ⟨rfl, rfl⟩
  gi_wp2_with fail
  have hbox : ((W.alloc (.cells #[.func (.yield l) #[] #[]] 117)).alloc (.cells #[v] 41)).heap[W.heap.size]? = some (.cells #[.func (.yield l) #[] #[]] 117 (0, 0)) := by
    rw [Below.heap_alloc _ _ _ (by simp)]; show (W.heap.push _)[W.heap.size]? = _; simp
  have hbox2 : ((W.alloc (.cells #[.func (.yield l) #[] #[]] 117)).alloc (.cells #[v] 41)).cell? ⟨W.heap.size + 1, 0, none⟩ = some v := by
    rw [World.cell?_alloc_at _ _ _ _ (by simp)]; rfl
  have hb2 : Below W.heap.size W ((W.alloc (.cells #[.func (.yield l) #[] #[]] 117)).alloc (.cells #[v] 41)) := ((Below.refl _ W).alloc (Nat.le_refl _) _).alloc (by simp) _
  have hs2 : ((W.alloc (.cells #[.func (.yield l) #[] #[]] 117)).alloc (.cells #[v] 41)).heap.size = W.heap.size + 2 := by simp
  have hJ2 := hJ _ _ _ none h0 (grown_of_below hb2) (fun r e => (by cases e))
  generalize ((W.alloc (.cells #[.func (.yield l) #[] #[]] 117)).alloc (.cells #[v] 41)) = W2 at *
  have hL2 : Chain W2 n₀ v xs := hL.below hb2 hn₀
  have hseq := row_seq (fr := fr) (w := W2) hlen (by omega) hbox2 hL2
  have hIown : OwnFrom W2.heap.size (FaI J W.heap.size l) := fun s A B row hs hg hr =>
    ⟨hJ _ A B row hs.1 hg (fun r e => ⟨by have := (hr r e).1; omega, (hr r e).2⟩), ownFrom_block (β := Unit) (by omega) () A B row hs.2 hg hr⟩
  have hXown : ∀ c, OwnFrom W2.heap.size (FaX Jx c) := fun c s A B row hs hg hr =>
    ⟨hs.1, hJx _ A B row hs.2 hg (fun r e => ⟨by have := (hr r e).1; omega, (hr r e).2⟩)⟩
  refine rangeZ (gf := 70) (lb := #[.pointer (some ⟨W.heap.size + 1, 0, none⟩)]) rfl (Go.Proofs.enters_of Tryz.func70 (by kernel_rfl) rfl) hseq hfr (by omega) (fun _ => rfl)
    (FaI J W.heap.size l) (FaX Jx) hIown hXown ⟨hJ2, hbox⟩
    (fun x => { tmps := #[.func (.yield l) #[] #[], .pointer (some ⟨Bn, 0, none⟩), .pointer (some ⟨W.heap.size, 0, none⟩), x.val, undef, undef, v,
          .func (.func 70) #[] #[.pointer (some ⟨W.heap.size + 1, 0, none⟩)], x.val, undef, undef, undef, undef, undef, undef, undef, undef, undef, undef, undef, undef, undef, undef, undef, undef], defers := [] })
    ?assign ?body ?done ?stop
  case assign =>
    intro l' x W3 K hK
    gi_wp2
    exact hK
  case body =>
    rintro l' pre x W3 ⟨hj3, hb3⟩ hpre hsz3
    have hc3 : W3.cell? ⟨W.heap.size, 0, none⟩ = some (.func (.yield l) #[] #[]) := by simp [World.cell?, hb3]
    have HB3 := Lib.hid hb3
    clear hb3
    cases x with
    | num k =>
      have ta := erNoFault
      simp only [El.val]
      gi_wp2
      refine ⟨fun _ h => (by cases h), ?_⟩
      gi_wp2
      exact ⟨Keep.refl _ _ _ _, by simpa [FaI, fsOf_append, fsOf] using ⟨hj3, HB3.out⟩⟩
    | fault b p s =>
      have ta := faFault
      have hfp : fsOf pre ++ [(b, p, s)] <+: fsOf xs := by have := fsOf_prefix hpre; rwa [fsOf_append] at this
      have hfe : fsOf (pre ++ [.fault b p s]) = fsOf pre ++ [(b, p, s)] := by rw [fsOf_append]; rfl
      obtain ⟨fn, tmps, assign, body, hy, hR⟩ := yield_any (k := n - 1 - 1 - 1) (hY (fsOf pre) (b, p, s) W3 hj3 hfp)
      dsimp only at hy
      have HE := Lib.hid hfe
      clear hfe
      simp only [El.val]
      gi_wp2
      refine ⟨fun h => (by simp [Fence.wide] at h), ?_⟩
      refine RoundIn.mono hR ?_
      rintro e W4 (⟨rfl, hJ4, hk4⟩ | ⟨rfl, hJx4, hk4⟩)
      · gi_wp2
        exact ⟨hk4.mono (Nat.le_refl _) (by omega), by rw [HE.out]; exact hJ4, hk4.blk _ _ HB3.out (.inr ⟨by omega, hfr2 _ _⟩)⟩
      · gi_wp2
        exact ⟨hk4.mono (Nat.le_refl _) (by omega), rfl, by rw [HE.out]; exact hJx4⟩
  case done =>
    rintro D ys W3 hD rfl ⟨hj3, hb3⟩ hK
    gi_wp2
    refine ⟨by simp, .inl ⟨_, _, rfl, run_takeDeferred hK, ?_⟩⟩
    refine ⟨_, results_none rfl _ _ _, ⟨_, rfl⟩, .inl ⟨_, rfl, hJ.putObj _ hj3 (by omega) hK rfl⟩⟩
  case stop =>
    rintro D c pre W3 hD hpre ⟨rfl, hj3⟩ hK
    gi_wp2
    refine ⟨by simp, .inl ⟨_, _, rfl, run_takeDeferred hK, ?_⟩⟩
    refine ⟨_, results_none rfl _ _ _, ⟨_, rfl⟩, .inr ⟨_, fsOf_prefix hpre, hJx.putObj _ hj3 (by omega) hK rfl⟩⟩

theorem faults_seq {fr : Obj → Bool} (hfr : ∀ o, fr o = true → o.isCells = true) (hfr2 : ∀ cs mk, fr (.cells cs 117 mk) = false) {n₀ Bn : Nat} {v : Value} {xs : List El} {w : World} (hlen : xs.length < 1048576) (hn₀ : n₀ ≤ w.heap.size) (hBn : w.cell? ⟨Bn, 0, none⟩ = some v) (hL : Chain w n₀ v xs) :
    SeqZ Tryz.prog 75 #[.pointer (some ⟨Bn, 0, none⟩)] (fun x : Nat × Int × ByteArray => #[.pointer (some ⟨x.1, 0, none⟩)]) n₀ fr (fun ys => ys = fsOf xs) (fun pre => pre <+: fsOf xs) w := fun n l J Jx W hW hJ hJx hY h0 =>
  faults_in n l n₀ Bn W.heap.size fr hfr hfr2 v xs hlen J Jx hJ hJx hY W rfl (Nat.le_trans hn₀ hW.size) ((hW.cell (p := ⟨Bn, 0, none⟩) (lt_of_cell hBn)).trans hBn) (hL.below hW hn₀) h0
end Go.Proofs.YtpnhjpplfjamkaaGreatDoor

/-! Package fault: Kind and Has of an error whose row is known. -/
namespace Go.Proofs.YtpnhjpplfjamkaaGreatDoor
open Go Go.RowKit

attribute [local go_sem] Oper.semAt_some

def kindOf : List El → Int
  | [] => 1
  | .num k :: _ => k
  | .fault _ _ _ :: r => kindOf r
/-- The value of an error with a row is nil, or of a type. -/
theorem Chain.shape {W : World} {n : Nat} {v : Value} {xs : List El} (h : Chain W n v xs) : (v = .nilIface ∧ xs = []) ∨ ∃ t u, v = .iface t u := by
  cases xs with
  | nil => exact .inl ⟨h, rfl⟩
  | cons x r => cases x <;> exact .inr ⟨_, _, h.head⟩

def KiI (w : World) (B : Nat) (pre : List El) (W : World) : Prop :=
  (∀ rest, kindOf (pre ++ rest) = kindOf rest) ∧ W.heap[B]? = some (.cells #[.int .i64 0] 44 (0, 0)) ∧ Below w.heap.size w W ∧ TypeLaid W
def KiX (w : World) (B : Nat) (c : Code) (pre : List El) (W : World) : Prop :=
  c = .ret ∧ (∃ k, (∀ rest, kindOf (pre ++ rest) = k) ∧ W.heap[B]? = some (.cells #[.int .i64 k] 44 (0, 0))) ∧ Below w.heap.size w W

set_option maxRecDepth 100000 in
theorem kind_nil (w : World) :
    Calls Tryz.prog 17 #[.nilIface] w fun e w' => e = .returned (.int .i64 0) ∧ Below w.heap.size w w' := by
  refine callsIn_wide (n := 0) |>.1 ?_
  refine callsIn_of_wp_marks Tryz.func17 rfl trivial ?_ rfl
  simp only [Tryz.ntmps17, List.size_toArray, List.length_cons, List.length_nil, Nat.reduceAdd, Nat.reduceSub, Array.replicate_succ, Array.replicate_zero, List.push_toArray, List.append_toArray, List.nil_append, List.cons_append]
  gi_wp2
  refine ⟨_, by simp [results, Tryz.results17, go_sem], rfl, ?_⟩
  exact (Below.refl _ w).alloc (Nat.le_refl _) _

set_option maxRecDepth 100000 in
set_option maxHeartbeats 2000000 in
theorem kind_chain {n₀ : Nat} {t : TypeId} {u : Value} {xs : List El} (w : World) (hlen : xs.length < 1048576) (hn₀ : n₀ ≤ w.heap.size) (hL : Chain w n₀ (.iface t u) xs) (hg : TypeLaid w) :
    Calls Tryz.prog 17 #[.iface t u] w fun e w' => e = .returned (.int .i64 (kindOf xs)) ∧ Below w.heap.size w w' := by
  refine callsIn_wide (n := 0) |>.1 ?_
  refine callsIn_of_wp_marks Tryz.func17 rfl trivial ?_ rfl
  simp only [Tryz.ntmps17, List.size_toArray, List.length_cons, List.length_nil, Nat.reduceAdd, Nat.reduceSub, Array.replicate_succ, Array.replicate_zero, List.push_toArray, List.append_toArray, List.nil_append, List.cons_append]
  have HL := Lib.hid hL
  have HG := Lib.hid hg
  clear hL hg
  gi_wp2_with fail
  refine ⟨trivial, rfl, (callsIn_wide.2 (row_make t u _)).mono ?_⟩
  rintro e w' ⟨rfl, rfl⟩
  gi_wp2_with fail
  have hbox : ((w.alloc (.cells #[.int .i64 0] 44)).alloc (.cells #[.iface t u] 41)).heap[w.heap.size]? = some (.cells #[.int .i64 0] 44 (0, 0)) := by
    rw [Below.heap_alloc _ _ _ (by simp)]; exact World.alloc_heap_new w _
  have hbox2 : ((w.alloc (.cells #[.int .i64 0] 44)).alloc (.cells #[.iface t u] 41)).cell? ⟨w.heap.size + 1, 0, none⟩ = some (.iface t u) := by
    rw [World.cell?_alloc_at _ _ _ _ (by simp)]; rfl
  have hb2 : Below w.heap.size w ((w.alloc (.cells #[.int .i64 0] 44)).alloc (.cells #[.iface t u] 41)) := ((Below.refl _ w).alloc (Nat.le_refl _) _).alloc (by simp) _
  have hs2 : ((w.alloc (.cells #[.int .i64 0] 44)).alloc (.cells #[.iface t u] 41)).heap.size = w.heap.size + 2 := by simp
  generalize ((w.alloc (.cells #[.int .i64 0] 44)).alloc (.cells #[.iface t u] 41)) = W2 at *
  have hL2 : Chain W2 n₀ (.iface t u) xs := HL.out.below hb2 hn₀
  have hg2 : TypeLaid W2 := HG.out.below hb2 HG.out.size
  have hseq := row_seq (fr := fun _ => false) (w := W2) hlen (by omega) hbox2 hL2
  refine rangeZ (gf := 70) (lb := #[.pointer (some ⟨w.heap.size + 1, 0, none⟩)]) rfl (Go.Proofs.enters_of Tryz.func70 (by kernel_rfl) rfl) hseq (fun _ h => by cases h) (by omega) (fun _ => rfl)
    (KiI w w.heap.size) (KiX w w.heap.size)
    (fun s A B row hs hg hr => ⟨hs.1, ownFrom_block (β := Unit) (by omega) () A B row hs.2.1 hg hr, ownFrom_below (β := Unit) (n₀ := w.heap.size) (Nat.le_refl _) (by omega) () A B row hs.2.2.1 hg hr, ownFrom_cell (β := Unit) (B := W2.heap.size) () A B row hs.2.2.2 hg hr⟩)
    (fun c s A B row hs hg hr => by
      obtain ⟨h1, ⟨k, h2, h3⟩, h4⟩ := hs
      exact ⟨h1, ⟨k, h2, ownFrom_block (β := Unit) (by omega) () A B row h3 hg hr⟩, ownFrom_below (β := Unit) (n₀ := w.heap.size) (Nat.le_refl _) (by omega) () A B row h4 hg hr⟩)
    ⟨fun _ => rfl, hbox, hb2, hg2⟩
    (fun x => { tmps := #[.iface t u, undef, .pointer (some ⟨w.heap.size, 0, none⟩), x.val, undef, undef, .iface t u, .bool false, .iface t u, .func (.func 70) #[] #[.pointer (some ⟨w.heap.size + 1, 0, none⟩)], x.val, undef, undef, undef, undef, undef, undef, undef], defers := [] })
    ?assign ?body ?done ?stop
  case assign =>
    intro l' x W3 K hK
    gi_wp2
    exact hK
  case body =>
    rintro l' pre x W3 ⟨hk3, hb3, hB3, hg3⟩ hpre hsz3
    have hKi := Lib.hid hk3
    have hOne := Lib.hid hb3
    have hLt := lt_of_block hb3
    clear hk3 hb3
    cases x with
    | num k =>
      simp only [El.val]
      gi_wp2_with fail
      refine ⟨trivial, rfl, CallsIn.mono (callsIn_wide.2 (asErrno_errno k W3 hg3)) ?_⟩
      rintro e W4 ⟨rfl, hb4⟩
      have hO4 : W4.heap[w.heap.size]? = some (.cells #[.int .i64 0] 44 (0, 0)) := (hb4.block _ hLt).trans hOne.out
      have hc4 := cell_of_one hO4
      have hf4 := free_of_one hO4
      have HO4 := Lib.hid hO4
      clear hO4
      gi_wp2
      refine ⟨?_, rfl, ⟨k, fun rest => by rw [List.append_assoc, hKi.out]; rfl, one_setCell HO4.out⟩, ?_⟩
      · exact (Keep.of_below hb4).trans (Keep.setCell _ _ _ _ (p := ⟨w.heap.size, 0, none⟩) _ hn₀ (by show w.heap.size < W2.heap.size; omega))
      · exact (hB3.trans (hb4.mono (by omega))).setCell (p := ⟨w.heap.size, 0, none⟩) (Nat.le_refl _) _
    | fault b p s =>
      simp only [El.val]
      gi_wp2_with fail
      refine ⟨trivial, rfl, CallsIn.mono (callsIn_wide.2 (asErrno_shell _ _ (alone_fault _) (shell_as_fault _) W3 hg3)) ?_⟩
      rintro e W4 ⟨rfl, hb4⟩
      gi_wp2
      exact ⟨Keep.of_below hb4, fun rest => by rw [List.append_assoc, hKi.out]; rfl, (hb4.block _ hLt).trans hOne.out, hB3.trans (hb4.mono (by omega)), hg3.below hb4 hg3.size⟩
  case done =>
    rintro D ys W3 hD rfl ⟨hk3, hb3, hB3, hg3⟩ hK
    have hc3 := cell_of_one hb3
    have hf3 := free_of_one hb3
    have hkx : kindOf ys = 1 := by have := hk3 []; simpa [kindOf] using this
    have HO := Lib.hid hb3
    have HK := Lib.hid hkx
    clear hb3 hkx hk3
    gi_wp2
    have hK' : (W3.setCell ⟨w.heap.size, 0, none⟩ (.int .i64 1)).heap[D]? = some (.deferred (some [])) := (Below.heap_setCell _ _ _ _ (by show D ≠ w.heap.size; omega)).trans hK
    refine ⟨by simp, .inl ⟨_, _, rfl, run_takeDeferred hK', ?_⟩⟩
    have hO4 : ((W3.setCell ⟨w.heap.size, 0, none⟩ (.int .i64 1)).putObj D (.deferred none)).heap[w.heap.size]? = some (.cells #[.int .i64 1] 44 (0, 0)) := (World.putObj_heap_other (by omega)).trans (one_setCell HO.out)
    refine ⟨.int .i64 1, by simp [results, Tryz.results17, go_sem, cell_of_one hO4], by rw [HK.out], ?_⟩
    exact (hB3.setCell (p := ⟨w.heap.size, 0, none⟩) (Nat.le_refl _) _).trans (belowK_b (w := w) (Nat.le_refl _) _ D _ _ (by omega) hK' rfl rfl)
  case stop =>
    rintro D c pre W3 hD hpre ⟨rfl, ⟨k, hk3, hb3⟩, hB3⟩ hK
    have hkx : kindOf xs = k := by obtain ⟨r, rfl⟩ := hpre; exact hk3 r
    have HO := Lib.hid hb3
    have HK := Lib.hid hkx
    clear hb3 hkx hk3
    gi_wp2
    refine ⟨by simp, .inl ⟨_, _, rfl, run_takeDeferred hK, ?_⟩⟩
    have hO4 : (W3.putObj D (.deferred none)).heap[w.heap.size]? = some (.cells #[.int .i64 k] 44 (0, 0)) := (World.putObj_heap_other (by omega)).trans HO.out
    refine ⟨.int .i64 k, by simp [results, Tryz.results17, go_sem, cell_of_one hO4], by rw [HK.out], ?_⟩
    exact hB3.trans (belowK_b (w := w) (Nat.le_refl _) _ D _ _ (by omega) hK rfl rfl)
end Go.Proofs.YtpnhjpplfjamkaaGreatDoor

/-! Package fault: Place of an error whose row is known. -/
namespace Go.Proofs.YtpnhjpplfjamkaaGreatDoor
open Go Go.RowKit

attribute [local go_sem] Oper.semAt_some

def placeOf : List (Nat × Int × ByteArray) → Int
  | [] => -1
  | (_, p, _) :: _ => p

/-- Each fault of a row lies in its block, below n. -/
theorem Chain.fault_mem {W : World} : ∀ {n : Nat} {v : Value} {xs : List El}, Chain W n v xs → ∀ x ∈ fsOf xs, x.1 < n ∧ ∃ u, W.heap[x.1]? = some (faultObj x.2.1 x.2.2 u)
  | _, _, [], _, _, hx => by simp [fsOf] at hx
  | _, _, .num _ :: _, h, x, hx => by rw [h.2] at hx; simp [fsOf] at hx
  | n, _, .fault b p s :: rest, ⟨_, h2, u, h5, h6⟩, x, hx => by
    simp only [fsOf, List.mem_cons] at hx
    rcases hx with rfl | hx
    · exact ⟨h2, u, h5⟩
    · obtain ⟨h, r⟩ := Chain.fault_mem h6 x hx
      exact ⟨by omega, r⟩
theorem faults_make_any {n : Nat} {v : Value} {xs : List El} {W : World} (hL : Chain W n v xs) (w : World) :
    Calls Tryz.prog 40 #[v] w fun e w' => e = .returned (.func (.func 75) #[] #[.pointer (some ⟨w.heap.size, 0, none⟩)]) ∧ w.alloc (.cells #[v] 41) = w' := by
  rcases hL.shape with ⟨rfl, _⟩ | ⟨t, u, rfl⟩
  · exact faults_make_nil w
  · exact faults_make t u w

def PlI (w : World) (pre : List (Nat × Int × ByteArray)) (W : World) : Prop :=
  pre = [] ∧ W.heap[w.heap.size]? = some (.cells #[.int .i64 0] 3 (0, 0)) ∧ Below w.heap.size w W
def PlX (w : World) (c : Code) (pre : List (Nat × Int × ByteArray)) (W : World) : Prop :=
  c = .ret ∧ (∃ p, (∀ rest, placeOf (pre ++ rest) = p) ∧ W.heap[w.heap.size]? = some (.cells #[.int .i64 p] 3 (0, 0))) ∧ Below w.heap.size w W

set_option maxRecDepth 100000 in
set_option maxHeartbeats 2000000 in
theorem place_chain {n₀ : Nat} {v : Value} {xs : List El} (w : World) (hlen : xs.length < 1048576) (hn₀ : n₀ ≤ w.heap.size) (hL : Chain w n₀ v xs) :
    Calls Tryz.prog 18 #[v] w fun e w' => e = .returned (.int .i64 (placeOf (fsOf xs))) ∧ Below w.heap.size w w' := by
  have HR := Lib.hid (fun w => faults_make_any hL w)
  refine callsIn_wide (n := 0) |>.1 ?_
  refine callsIn_of_wp_marks Tryz.func18 rfl trivial ?_ rfl
  simp only [Tryz.ntmps18, List.size_toArray, List.length_cons, List.length_nil, Nat.reduceAdd, Nat.reduceSub, Array.replicate_succ, Array.replicate_zero, List.push_toArray, List.append_toArray, List.nil_append, List.cons_append]
  have HL := Lib.hid hL
  clear hL
  gi_wp2_with fail
  refine ⟨trivial, rfl, (callsIn_wide.2 (HR.out _)).mono ?_⟩
  rintro e w' ⟨rfl, rfl⟩
  gi_wp2_with fail
  have hbox : ((w.alloc (.cells #[.int .i64 0] 3)).alloc (.cells #[v] 41)).heap[w.heap.size]? = some (.cells #[.int .i64 0] 3 (0, 0)) := by
    rw [Below.heap_alloc _ _ _ (by simp)]; exact World.alloc_heap_new w _
  have hbox2 : ((w.alloc (.cells #[.int .i64 0] 3)).alloc (.cells #[v] 41)).cell? ⟨w.heap.size + 1, 0, none⟩ = some v := by
    rw [World.cell?_alloc_at _ _ _ _ (by simp)]; rfl
  have hb2 : Below w.heap.size w ((w.alloc (.cells #[.int .i64 0] 3)).alloc (.cells #[v] 41)) := ((Below.refl _ w).alloc (Nat.le_refl _) _).alloc (by simp) _
  have hs2 : ((w.alloc (.cells #[.int .i64 0] 3)).alloc (.cells #[v] 41)).heap.size = w.heap.size + 2 := by simp
  generalize ((w.alloc (.cells #[.int .i64 0] 3)).alloc (.cells #[v] 41)) = W2 at *
  have hL2 : Chain W2 n₀ v xs := HL.out.below hb2 hn₀
  have hseq := faults_seq (fr := fun _ => false) (fun _ h => by cases h) (fun _ _ => rfl) (w := W2) hlen (by omega) hbox2 hL2
  refine rangeZ (gf := 75) (lb := #[.pointer (some ⟨w.heap.size + 1, 0, none⟩)]) rfl (Go.Proofs.enters_of Tryz.func75 (by kernel_rfl) rfl) hseq (fun _ h => by cases h) (by omega) (fun _ => rfl)
    (PlI w) (PlX w)
    (fun s A B row hs hg hr => ⟨hs.1, ownFrom_block (β := Unit) (by omega) () A B row hs.2.1 hg hr, ownFrom_below (β := Unit) (n₀ := w.heap.size) (Nat.le_refl _) (by omega) () A B row hs.2.2 hg hr⟩)
    (fun c s A B row hs hg hr => by
      obtain ⟨h1, ⟨k, h2, h3⟩, h4⟩ := hs
      exact ⟨h1, ⟨k, h2, ownFrom_block (β := Unit) (by omega) () A B row h3 hg hr⟩, ownFrom_below (β := Unit) (n₀ := w.heap.size) (Nat.le_refl _) (by omega) () A B row h4 hg hr⟩)
    ⟨rfl, hbox, hb2⟩
    (fun x => { tmps := #[v, undef, .pointer (some ⟨w.heap.size, 0, none⟩), .pointer (some ⟨x.1, 0, none⟩), v, .func (.func 75) #[] #[.pointer (some ⟨w.heap.size + 1, 0, none⟩)], .pointer (some ⟨x.1, 0, none⟩), undef, undef, undef, undef], defers := [] })
    ?assign ?body ?done ?stop
  case assign =>
    intro l' x W3 K hK
    gi_wp2
    exact hK
  case body =>
    rintro l' pre ⟨b, p, s⟩ W3 ⟨rfl, hb3, hB3⟩ hpre hsz3
    obtain ⟨hbn, u, hfo⟩ := hL2.fault_mem (b, p, s) (hpre.subset (by simp))
    have hfo3 : W3.heap[b]? = some (faultObj p s u) := by
      obtain ⟨_, u', hfo'⟩ := HL.out.fault_mem (b, p, s) (hpre.subset (by simp))
      have e1 := (hb2.block b (by dsimp at hbn; omega)).symm.trans hfo
      exact (hB3.block b (by dsimp at hbn; omega)).trans e1
    obtain ⟨hp0, hp1, hp2⟩ := faultObj_cell hfo3
    have hc3 := cell_of_one hb3
    have hf3 := free_of_one hb3
    have hOne := Lib.hid hb3
    have hLt := lt_of_block hb3
    clear hb3 hfo hfo3
    gi_wp2
    refine ⟨Keep.setCell _ _ _ _ (p := ⟨w.heap.size, 0, none⟩) _ hn₀ (by show w.heap.size < _; omega), rfl, ⟨p, fun rest => rfl, one_setCell hOne.out⟩, hB3.setCell (p := ⟨w.heap.size, 0, none⟩) (Nat.le_refl _) _⟩
  case done =>
    rintro D ys W3 hD hys ⟨rfl, hb3, hB3⟩ hK
    have hc3 := cell_of_one hb3
    have hf3 := free_of_one hb3
    have HO := Lib.hid hb3
    have HK := Lib.hid hys
    clear hb3 hys
    gi_wp2
    have hK' : (W3.setCell ⟨w.heap.size, 0, none⟩ (.int .i64 (-1))).heap[D]? = some (.deferred (some [])) := (Below.heap_setCell _ _ _ _ (by show D ≠ w.heap.size; omega)).trans hK
    refine ⟨by simp, .inl ⟨_, _, rfl, run_takeDeferred hK', ?_⟩⟩
    have hO4 : ((W3.setCell ⟨w.heap.size, 0, none⟩ (.int .i64 (-1))).putObj D (.deferred none)).heap[w.heap.size]? = some (.cells #[.int .i64 (-1)] 3 (0, 0)) := (World.putObj_heap_other (by omega)).trans (one_setCell HO.out)
    refine ⟨.int .i64 (-1), by simp [results, Tryz.results18, go_sem, cell_of_one hO4], by rw [← HK.out]; rfl, ?_⟩
    exact (hB3.setCell (p := ⟨w.heap.size, 0, none⟩) (Nat.le_refl _) _).trans (belowK_b (w := w) (Nat.le_refl _) _ D _ _ (by omega) hK' rfl rfl)
  case stop =>
    rintro D c pre W3 hD hpre ⟨rfl, ⟨k, hk3, hb3⟩, hB3⟩ hK
    have hkx : placeOf (fsOf xs) = k := by obtain ⟨r, hr⟩ := hpre; rw [← hr]; exact hk3 r
    have HO := Lib.hid hb3
    have HK := Lib.hid hkx
    clear hb3 hkx hk3
    gi_wp2
    refine ⟨by simp, .inl ⟨_, _, rfl, run_takeDeferred hK, ?_⟩⟩
    have hO4 : (W3.putObj D (.deferred none)).heap[w.heap.size]? = some (.cells #[.int .i64 k] 3 (0, 0)) := (World.putObj_heap_other (by omega)).trans HO.out
    refine ⟨.int .i64 k, by simp [results, Tryz.results18, go_sem, cell_of_one hO4], by rw [HK.out], ?_⟩
    exact hB3.trans (belowK_b (w := w) (Nat.le_refl _) _ D _ _ (by omega) hK rfl rfl)
end Go.Proofs.YtpnhjpplfjamkaaGreatDoor

/-! Package fault: Total of an error whose row is known. -/
namespace Go.Proofs.YtpnhjpplfjamkaaGreatDoor
open Go Go.RowKit

attribute [local go_sem] Oper.semAt_some

end Go.Proofs.YtpnhjpplfjamkaaGreatDoor

/-! Package fault: Whats of an error whose row is known. -/
namespace Go.Proofs.YtpnhjpplfjamkaaGreatDoor
open Go Go.RowKit

attribute [local go_sem] Oper.semAt_some

/-- append onto a row of the call's own, as one step of a region that draws its order, in whatever fence. -/
theorem stepIn_append {F : Fence} {n : Nat} {P : Program} {w : World} {ops : Array Oper} {o : Oper} {a : Act} {K : Act → World → Prop} {Q : Exit → Act → World → Prop} {E : Prop}
    (hg : o.guard = none) (s x : Operand) (t : TypeId) (hop : o.op = Op.call { callee := Callee.builtin Builtin.append, args := #[s, x], argTypes := #[t, t] })
    (base : Nat) (e : TypeId) (i : TypeInfo) (z : Value) (size bytes : Nat) (h1 : P.underlying t = some (.slice e)) (h2 : P.info? e = some i) (h3 : i.zero = some z) (h4 : i.size = size) (h5 : i.bytes = bytes) (h6 : z.cells.size = size) (h7 : 0 < size)
    (v : Value) (k : Nat) (xs : List Value) (hs : a.eval s = v) (hown : w.ownsRow base e size v k xs) (ad : Addr) (m c : Nat) (news : List Value) (hx : a.eval x = .slice (some ad) m c) (hn : news.length = m * size)
    (hc : ∀ j u, news[j]? = some u → w.cell? (ad.add j) = some u) (h1c : ∀ u ∈ news, u.oneCell' = true) (b1 : k + m ≤ maxLen) (b2 : (k + m) * bytes ≤ 140737488355328) (b3 : base ≤ w.heap.size)
    (hK : ∀ v' w', w'.ownsRow base e size v' (k + m) (xs ++ news) → w.grownBy w' v.ownBlock → K (a.put o.dst v') w') :
    if Region.wanted o (yielded ops a.tmps) = true then Oper.wpIn F n P o a w K Q else E := by
  have hw : Region.wanted o (yielded ops a.tmps) = true := by simp [Region.wanted, hg]
  rw [if_pos hw]
  obtain ⟨v', w', hrun, r1, r2, _⟩ := run_append_own (P := P) w base t o.type e i z size bytes h1 h2 h3 h4 h5 h6 h7 v k xs hown ad m c news hn hc h1c b1 b2 b3
  unfold Oper.wpIn
  refine ⟨?_, ?_⟩
  · simp [Oper.about, hop, resolve, Target.leads, Sem.run_pure]
  · rw [Oper.semAt_plain F _ _ (by rw [hop]; intro c hc'; cases hc')]
    simp [execOp, hop, resolve, invoke, builtin, hs, hx, hrun, Result.andThen]
    exact hK v' w' r1 r2

theorem fsOf_length (xs : List El) : (fsOf xs).length ≤ xs.length := by
  induction xs with
  | nil => simp [fsOf]
  | cons x r ih => cases x <;> simp [fsOf] <;> omega
def whats (l : List (Nat × Int × ByteArray)) : List Value := l.map fun x => .string x.2.2
theorem stringInfo : (Tryz.prog.info? 9).map (fun i => (i.zero, i.size, i.bytes)) = some (some (.string ByteArray.empty), 1, 16) := by kernel_rfl

def WhI (w : World) (pre : List (Nat × Int × ByteArray)) (W : World) : Prop :=
  ∃ v, W.heap[w.heap.size]? = some (.cells #[v] 28 (0, 0)) ∧ W.ownsRow (w.heap.size + 2) 9 1 v pre.length (whats pre) ∧ Below w.heap.size w W ∧ w.heap.size + 2 ≤ W.heap.size

theorem ownFrom_row {β : Type} {B base : Nat} {e : TypeId} {sz : Nat} {v : Value} {n : Nat} {xs : List Value} : OwnFrom B (fun (_ : β) W => W.ownsRow base e sz v n xs) := fun _ X Y row hs hg hr => by
  refine hs.kept hg ?_
  rcases hs.2 with ⟨rfl, _⟩ | ⟨g, cap, cur, rfl, _, hb, _⟩
  · exact .inl rfl
  · refine .inr (fun e => ?_)
    obtain ⟨_, o, ho, hc⟩ := hr g e.symm
    rw [hb] at ho
    cases ho
    simp [Obj.isCells] at hc

/-- What a round of Whats may turn: rows of texts. -/
def frS : Obj → Bool
  | .cells _ t _ => t == 9
  | _ => false
theorem frS_cells (o : Obj) (h : frS o = true) : o.isCells = true := by
  cases o <;> first | rfl | cases h

theorem owns_shape0 {w : World} {B : Nat} {e : TypeId} {sz : Nat} {v : Value} {n : Nat} {xs : List Value} (h : w.ownsRow B e sz v n xs) : v = .slice none 0 0 ∨ ∃ g cap, v = .slice (some ⟨g, 0, none⟩) n cap := by
  rcases h.2 with ⟨h, _⟩ | ⟨g, cap, _, h, _⟩
  · exact .inl h
  · exact .inr ⟨g, cap, h⟩

theorem wh_app {lo hi : Nat} {w W3 w1 : World} {j : Nat} {v v' s : Value} {xs ys : List Value}
    (hR : W3.heap[w.heap.size]? = some (.cells #[v] 28 (0, 0))) (hown : W3.ownsRow (w.heap.size + 2) 9 1 v j xs) (hB : Below w.heap.size w W3) (hsz : w.heap.size + 2 ≤ W3.heap.size) (hlo : lo ≤ w.heap.size)
    (hown1 : w1.ownsRow (w.heap.size + 2) 9 1 v' (j + 1) ys) (hgrow : ((W3.alloc (.cells #[s] 9)).drew).grownBy w1 v.ownBlock) :
    ∃ g' cap', v' = .slice (some ⟨g', 0, none⟩) (j + 1) cap' ∧ w.heap.size + 2 ≤ g' ∧ w1.cell? ⟨w.heap.size, 0, none⟩ = some v ∧ w1.frozen? ⟨w.heap.size, 0, none⟩ = false ∧ Keep lo hi frS W3 w1 ∧
      Hid (Below w.heap.size w w1 ∧ w.heap.size + 2 ≤ w1.heap.size ∧ w1.heap[w.heap.size]? = some (.cells #[v] 28 (0, 0))) := by
  have hgs := hgrow.size
  have hsd : (W3.alloc (.cells #[s] 9)).drew.heap.size = W3.heap.size + 1 := by show (W3.alloc _).heap.size = _; simp
  have hne : ∀ r, v.ownBlock = some r → w.heap.size + 2 ≤ r := fun r e => (hown.lt r e).1
  have hblk : ∀ k, k < W3.heap.size → (W3.alloc (.cells #[s] 9)).drew.heap[k]? = W3.heap[k]? := fun k hk => Below.heap_alloc W3 _ k hk
  have hR1' : w1.heap[w.heap.size]? = some (.cells #[v] 28 (0, 0)) := (hgrow.block _ (by omega) (fun e => by have := hne _ e.symm; omega)).trans ((hblk _ (by omega)).trans hR)
  have hB1 : Below w.heap.size w w1 := ((hB.alloc hB.size _).drew).grown hgrow (by omega) (fun r e => by have := hne r e; omega)
  obtain ⟨g', cap', rfl⟩ := ownsRow_succ hown1
  refine ⟨g', cap', rfl, (hown1.lt g' rfl).1, cell_of_one hR1', free_of_one hR1', ?_, hB1, by omega, hR1'⟩
  refine (Keep.of_below (A := W3) (((Below.refl _ W3).alloc (Nat.le_refl _) _).drew)).trans (Keep.grown hgrow (fun r e => ?_))
  have hr := hne r e
  refine ⟨by omega, .inr ?_⟩
  rcases hown.2 with ⟨rfl, _⟩ | ⟨g, cap, cur, rfl, _, hb, _⟩
  · cases e
  · cases e
    exact ⟨_, (hblk g (Array.getElem?_eq_some_iff.1 hb).1).trans hb, by simp [frS]⟩

set_option maxRecDepth 100000 in
set_option maxHeartbeats 8000000 in
theorem whats_chain {n₀ : Nat} {v : Value} {xs : List El} (w : World) (hlen : xs.length < 1048576) (hn₀ : n₀ ≤ w.heap.size) (hL : Chain w n₀ v xs) :
    Calls Tryz.prog 31 #[v] w fun e w' => ∃ u, e = .returned u ∧ w'.ownsRow (w.heap.size + 2) 9 1 u (fsOf xs).length (whats (fsOf xs)) ∧ Below w.heap.size w w' := by
  obtain ⟨i0, hi, hz0, hz1, hz2⟩ := info_parts stringInfo
  have HR := Lib.hid (fun w => faults_make_any hL w)
  refine callsIn_wide (n := 0) |>.1 ?_
  refine callsIn_of_wp_marks Tryz.func31 rfl trivial ?_ rfl
  simp only [Tryz.ntmps31, List.size_toArray, List.length_cons, List.length_nil, Nat.reduceAdd, Nat.reduceSub, Array.replicate_succ, Array.replicate_zero, List.push_toArray, List.append_toArray, List.nil_append, List.cons_append]
  have HL := Lib.hid hL
  clear hL
  gi_wp2_with fail
  refine ⟨trivial, rfl, (callsIn_wide.2 (HR.out _)).mono ?_⟩
  rintro e w' ⟨rfl, rfl⟩
  gi_wp2_with fail
  have hbox : ((w.alloc (.cells #[.slice none 0 0] 28)).alloc (.cells #[v] 41)).heap[w.heap.size]? = some (.cells #[.slice none 0 0] 28 (0, 0)) := by
    rw [Below.heap_alloc _ _ _ (by simp)]; exact World.alloc_heap_new w _
  have hbox2 : ((w.alloc (.cells #[.slice none 0 0] 28)).alloc (.cells #[v] 41)).cell? ⟨w.heap.size + 1, 0, none⟩ = some v := by
    rw [World.cell?_alloc_at _ _ _ _ (by simp)]; rfl
  have hb2 : Below w.heap.size w ((w.alloc (.cells #[.slice none 0 0] 28)).alloc (.cells #[v] 41)) := ((Below.refl _ w).alloc (Nat.le_refl _) _).alloc (by simp) _
  have hs2 : ((w.alloc (.cells #[.slice none 0 0] 28)).alloc (.cells #[v] 41)).heap.size = w.heap.size + 2 := by simp
  generalize ((w.alloc (.cells #[.slice none 0 0] 28)).alloc (.cells #[v] 41)) = W2 at *
  have hL2 : Chain W2 n₀ v xs := HL.out.below hb2 hn₀
  have hseq := faults_seq (fr := frS) frS_cells (fun _ _ => rfl) (w := W2) hlen (by omega) hbox2 hL2
  refine rangeZ (gf := 75) (lb := #[.pointer (some ⟨w.heap.size + 1, 0, none⟩)]) rfl (Go.Proofs.enters_of Tryz.func75 (by kernel_rfl) rfl) hseq frS_cells (by omega) (fun _ => rfl)
    (WhI w) (fun _ _ _ => False)
    (fun s A B row hs hg hr => by
      obtain ⟨u, h1, h2, h3, h4⟩ := hs
      exact ⟨u, ownFrom_block (β := Unit) (by omega) () A B row h1 hg hr, ownFrom_row (β := Unit) (B := W2.heap.size) () A B row h2 hg hr, ownFrom_below (β := Unit) (n₀ := w.heap.size) (Nat.le_refl _) (by omega) () A B row h3 hg hr, Nat.le_trans h4 hg.size⟩)
    (fun _ _ _ _ _ hs _ _ => hs.elim)
    ⟨_, hbox, World.ownsRow_nil _ _ _ _, hb2, by omega⟩
    (fun x => { tmps := #[v, undef, .slice none 0 0, .pointer (some ⟨w.heap.size, 0, none⟩), .pointer (some ⟨x.1, 0, none⟩), v, .func (.func 75) #[] #[.pointer (some ⟨w.heap.size + 1, 0, none⟩)], .pointer (some ⟨x.1, 0, none⟩), undef, undef, undef, undef, undef, undef, undef, undef], defers := [] })
    ?assign ?body ?done ?stop
  case assign =>
    intro l' x W3 K hK
    gi_wp2
    exact hK
  case body =>
    rintro l' pre ⟨b, p, s⟩ W3 ⟨u0, hb3, ho3, hB3, hsz3'⟩ hpre hsz3
    obtain ⟨hbn, u, hfo⟩ := hL2.fault_mem (b, p, s) (hpre.subset (by simp))
    have hfo3 : W3.heap[b]? = some (faultObj p s u) := by
      obtain ⟨_, u', hfo'⟩ := HL.out.fault_mem (b, p, s) (hpre.subset (by simp))
      have e1 := (hb2.block b (by dsimp at hbn; omega)).symm.trans hfo
      exact (hB3.block b (by dsimp at hbn; omega)).trans e1
    obtain ⟨hp0, hp1, hp2⟩ := faultObj_cell hfo3
    have hpl : pre.length < 1048576 := by have := hpre.length_le; have := fsOf_length xs; simp at *; omega
    have hbd1 : pre.length + 1 ≤ maxLen := by unfold maxLen; omega
    have hbd2 : (pre.length + 1) * 16 ≤ 140737488355328 := by omega
    have hc3 := cell_of_one hb3
    have hf3 := free_of_one hb3
    have hnews : ∀ j u, [Value.string s][j]? = some u → (W3.alloc (.cells #[.string s] 9)).drew.cell? ((⟨W3.heap.size, 0, none⟩ : Addr).add j) = some u := cell_one_new W3 (.string s) 9
    have HN := Lib.hid hnews
    have HO := Lib.hid ho3
    have HOD := Lib.hid ((ho3.alloc (.cells #[.string s] 9)).drew)
    have hOne := Lib.hid hb3
    have hLt := lt_of_block hb3
    have hlo : n₀ ≤ w.heap.size := hn₀
    clear hb3 hfo hfo3 hp0 hp2 ho3 hnews
    gi_wp2
    refine wpIn_region_any (by kernel_rfl) ?_
    change wpAnyIn _ _ _ _ _ _ _ _ _ (World.drew _)
    refine wpAnyIn_ready (rs := [0, 1]) (by kernel_rfl) (by simp) ?_
    refine AllReadyIn.cons rfl (fun K hK => ?_) ?_
    · go_simp
      refine hK _ _ ?_; clear hK K
      refine wpAnyIn_ready (rs := [1]) (by kernel_rfl) (by simp) ?_
      refine AllReadyIn.cons rfl (fun K hK => ?_) ?_
      · go_simp
        refine hK _ _ ?_; clear hK K
        refine wpAnyIn_ready (rs := [2]) (by kernel_rfl) (by simp) ?_
        refine AllReadyIn.cons rfl (fun K hK => ?_) ?_
        · go_simp
          refine hK _ _ ?_; clear hK K
          refine wpAnyIn_ready (rs := [3]) (by kernel_rfl) (by simp) ?_
          refine AllReadyIn.cons rfl (fun K hK => ?_) ?_
          · go_simp
            refine hK _ _ ?_; clear hK K
            refine wpAnyIn_ready (rs := [4]) (by kernel_rfl) (by simp) ?_
            refine AllReadyIn.cons rfl (fun K hK => ?_) ?_
            · go_simp
              refine hK _ _ ?_; clear hK K
              refine wpAnyIn_ready (rs := [5]) (by kernel_rfl) (by simp) ?_
              refine AllReadyIn.cons rfl (fun K hK => ?_) ?_
              · go_simp
                refine hK _ _ ?_; clear hK K
                refine wpAnyIn_ready (rs := [6]) (by kernel_rfl) (by simp) ?_
                refine AllReadyIn.cons rfl (fun K hK => ?_) ?_
                · refine stepIn_append rfl _ _ 28 rfl (w.heap.size + 2) 9 i0 (.string ByteArray.empty) 1 16 Tryz.underlying28 hi hz0 hz1 hz2 rfl (by decide) _ _ _ rfl HOD.out ⟨W3.heap.size, 0, none⟩ 1 1 [.string s] rfl rfl HN.out (by intro u hu; simp at hu; subst hu; rfl) hbd1 hbd2 (by show _ ≤ (W3.alloc _).heap.size; simp; omega) ?_
                  intro v' w1 hown1 hgrow
                  obtain ⟨g', cap', rfl, hg', hc1, hf1, hkeep, HREST⟩ := wh_app (hi := W2.heap.size) hOne.out HO.out hB3 hsz3' hlo hown1 hgrow
                  have HO1 := Lib.hid hown1
                  clear hown1 hgrow
                  refine hK _ _ ?_; clear hK K
                  refine wpAnyIn_ready (rs := [7]) (by kernel_rfl) (by simp) ?_
                  refine AllReadyIn.cons rfl (fun K hK => ?_) ?_
                  · go_simp
                    refine hK _ _ ?_; clear hK K
                    refine wpAnyIn_done (by kernel_rfl) ?_ _
                    obtain ⟨hB1, hs1, hq1⟩ := HREST.out
                    exact ⟨(hkeep.trans (Keep.setCell _ _ _ _ (p := ⟨w.heap.size, 0, none⟩) _ hn₀ (by show w.heap.size < W2.heap.size; omega))), _, one_setCell hq1, by unfold whats; rw [List.map_append, List.length_append]; exact ownsRow_setCell_other HO1.out (by simp [Value.ownBlock]; omega) _, hB1.setCell (p := ⟨w.heap.size, 0, none⟩) (Nat.le_refl _) _, by simpa [World.setCell] using hs1⟩
                  exact AllReadyIn.nil
                exact AllReadyIn.nil
              exact AllReadyIn.nil
            exact AllReadyIn.nil
          exact AllReadyIn.nil
        exact AllReadyIn.nil
      exact AllReadyIn.nil
    refine AllReadyIn.cons rfl (fun K hK => ?_) ?_
    · go_simp
      refine hK _ _ ?_; clear hK K
      refine wpAnyIn_ready (rs := [0, 2]) (by kernel_rfl) (by simp) ?_
      refine AllReadyIn.cons rfl (fun K hK => ?_) ?_
      · go_simp
        refine hK _ _ ?_; clear hK K
        refine wpAnyIn_ready (rs := [2]) (by kernel_rfl) (by simp) ?_
        refine AllReadyIn.cons rfl (fun K hK => ?_) ?_
        · go_simp
          refine hK _ _ ?_; clear hK K
          refine wpAnyIn_ready (rs := [3]) (by kernel_rfl) (by simp) ?_
          refine AllReadyIn.cons rfl (fun K hK => ?_) ?_
          · go_simp
            refine hK _ _ ?_; clear hK K
            refine wpAnyIn_ready (rs := [4]) (by kernel_rfl) (by simp) ?_
            refine AllReadyIn.cons rfl (fun K hK => ?_) ?_
            · go_simp
              refine hK _ _ ?_; clear hK K
              refine wpAnyIn_ready (rs := [5]) (by kernel_rfl) (by simp) ?_
              refine AllReadyIn.cons rfl (fun K hK => ?_) ?_
              · go_simp
                refine hK _ _ ?_; clear hK K
                refine wpAnyIn_ready (rs := [6]) (by kernel_rfl) (by simp) ?_
                refine AllReadyIn.cons rfl (fun K hK => ?_) ?_
                · refine stepIn_append rfl _ _ 28 rfl (w.heap.size + 2) 9 i0 (.string ByteArray.empty) 1 16 Tryz.underlying28 hi hz0 hz1 hz2 rfl (by decide) _ _ _ rfl HOD.out ⟨W3.heap.size, 0, none⟩ 1 1 [.string s] rfl rfl HN.out (by intro u hu; simp at hu; subst hu; rfl) hbd1 hbd2 (by show _ ≤ (W3.alloc _).heap.size; simp; omega) ?_
                  intro v' w1 hown1 hgrow
                  obtain ⟨g', cap', rfl, hg', hc1, hf1, hkeep, HREST⟩ := wh_app (hi := W2.heap.size) hOne.out HO.out hB3 hsz3' hlo hown1 hgrow
                  have HO1 := Lib.hid hown1
                  clear hown1 hgrow
                  refine hK _ _ ?_; clear hK K
                  refine wpAnyIn_ready (rs := [7]) (by kernel_rfl) (by simp) ?_
                  refine AllReadyIn.cons rfl (fun K hK => ?_) ?_
                  · go_simp
                    refine hK _ _ ?_; clear hK K
                    refine wpAnyIn_done (by kernel_rfl) ?_ _
                    obtain ⟨hB1, hs1, hq1⟩ := HREST.out
                    exact ⟨(hkeep.trans (Keep.setCell _ _ _ _ (p := ⟨w.heap.size, 0, none⟩) _ hn₀ (by show w.heap.size < W2.heap.size; omega))), _, one_setCell hq1, by unfold whats; rw [List.map_append, List.length_append]; exact ownsRow_setCell_other HO1.out (by simp [Value.ownBlock]; omega) _, hB1.setCell (p := ⟨w.heap.size, 0, none⟩) (Nat.le_refl _) _, by simpa [World.setCell] using hs1⟩
                  exact AllReadyIn.nil
                exact AllReadyIn.nil
              exact AllReadyIn.nil
            exact AllReadyIn.nil
          exact AllReadyIn.nil
        exact AllReadyIn.nil
      refine AllReadyIn.cons rfl (fun K hK => ?_) ?_
      · go_simp
        refine hK _ _ ?_; clear hK K
        refine wpAnyIn_ready (rs := [0, 3]) (by kernel_rfl) (by simp) ?_
        refine AllReadyIn.cons rfl (fun K hK => ?_) ?_
        · go_simp
          refine hK _ _ ?_; clear hK K
          refine wpAnyIn_ready (rs := [3]) (by kernel_rfl) (by simp) ?_
          refine AllReadyIn.cons rfl (fun K hK => ?_) ?_
          · go_simp
            refine hK _ _ ?_; clear hK K
            refine wpAnyIn_ready (rs := [4]) (by kernel_rfl) (by simp) ?_
            refine AllReadyIn.cons rfl (fun K hK => ?_) ?_
            · go_simp
              refine hK _ _ ?_; clear hK K
              refine wpAnyIn_ready (rs := [5]) (by kernel_rfl) (by simp) ?_
              refine AllReadyIn.cons rfl (fun K hK => ?_) ?_
              · go_simp
                refine hK _ _ ?_; clear hK K
                refine wpAnyIn_ready (rs := [6]) (by kernel_rfl) (by simp) ?_
                refine AllReadyIn.cons rfl (fun K hK => ?_) ?_
                · refine stepIn_append rfl _ _ 28 rfl (w.heap.size + 2) 9 i0 (.string ByteArray.empty) 1 16 Tryz.underlying28 hi hz0 hz1 hz2 rfl (by decide) _ _ _ rfl HOD.out ⟨W3.heap.size, 0, none⟩ 1 1 [.string s] rfl rfl HN.out (by intro u hu; simp at hu; subst hu; rfl) hbd1 hbd2 (by show _ ≤ (W3.alloc _).heap.size; simp; omega) ?_
                  intro v' w1 hown1 hgrow
                  obtain ⟨g', cap', rfl, hg', hc1, hf1, hkeep, HREST⟩ := wh_app (hi := W2.heap.size) hOne.out HO.out hB3 hsz3' hlo hown1 hgrow
                  have HO1 := Lib.hid hown1
                  clear hown1 hgrow
                  refine hK _ _ ?_; clear hK K
                  refine wpAnyIn_ready (rs := [7]) (by kernel_rfl) (by simp) ?_
                  refine AllReadyIn.cons rfl (fun K hK => ?_) ?_
                  · go_simp
                    refine hK _ _ ?_; clear hK K
                    refine wpAnyIn_done (by kernel_rfl) ?_ _
                    obtain ⟨hB1, hs1, hq1⟩ := HREST.out
                    exact ⟨(hkeep.trans (Keep.setCell _ _ _ _ (p := ⟨w.heap.size, 0, none⟩) _ hn₀ (by show w.heap.size < W2.heap.size; omega))), _, one_setCell hq1, by unfold whats; rw [List.map_append, List.length_append]; exact ownsRow_setCell_other HO1.out (by simp [Value.ownBlock]; omega) _, hB1.setCell (p := ⟨w.heap.size, 0, none⟩) (Nat.le_refl _) _, by simpa [World.setCell] using hs1⟩
                  exact AllReadyIn.nil
                exact AllReadyIn.nil
              exact AllReadyIn.nil
            exact AllReadyIn.nil
          exact AllReadyIn.nil
        refine AllReadyIn.cons rfl (fun K hK => ?_) ?_
        · go_simp
          refine hK _ _ ?_; clear hK K
          refine wpAnyIn_ready (rs := [0, 4]) (by kernel_rfl) (by simp) ?_
          refine AllReadyIn.cons rfl (fun K hK => ?_) ?_
          · go_simp
            refine hK _ _ ?_; clear hK K
            refine wpAnyIn_ready (rs := [4]) (by kernel_rfl) (by simp) ?_
            refine AllReadyIn.cons rfl (fun K hK => ?_) ?_
            · go_simp
              refine hK _ _ ?_; clear hK K
              refine wpAnyIn_ready (rs := [5]) (by kernel_rfl) (by simp) ?_
              refine AllReadyIn.cons rfl (fun K hK => ?_) ?_
              · go_simp
                refine hK _ _ ?_; clear hK K
                refine wpAnyIn_ready (rs := [6]) (by kernel_rfl) (by simp) ?_
                refine AllReadyIn.cons rfl (fun K hK => ?_) ?_
                · refine stepIn_append rfl _ _ 28 rfl (w.heap.size + 2) 9 i0 (.string ByteArray.empty) 1 16 Tryz.underlying28 hi hz0 hz1 hz2 rfl (by decide) _ _ _ rfl HOD.out ⟨W3.heap.size, 0, none⟩ 1 1 [.string s] rfl rfl HN.out (by intro u hu; simp at hu; subst hu; rfl) hbd1 hbd2 (by show _ ≤ (W3.alloc _).heap.size; simp; omega) ?_
                  intro v' w1 hown1 hgrow
                  obtain ⟨g', cap', rfl, hg', hc1, hf1, hkeep, HREST⟩ := wh_app (hi := W2.heap.size) hOne.out HO.out hB3 hsz3' hlo hown1 hgrow
                  have HO1 := Lib.hid hown1
                  clear hown1 hgrow
                  refine hK _ _ ?_; clear hK K
                  refine wpAnyIn_ready (rs := [7]) (by kernel_rfl) (by simp) ?_
                  refine AllReadyIn.cons rfl (fun K hK => ?_) ?_
                  · go_simp
                    refine hK _ _ ?_; clear hK K
                    refine wpAnyIn_done (by kernel_rfl) ?_ _
                    obtain ⟨hB1, hs1, hq1⟩ := HREST.out
                    exact ⟨(hkeep.trans (Keep.setCell _ _ _ _ (p := ⟨w.heap.size, 0, none⟩) _ hn₀ (by show w.heap.size < W2.heap.size; omega))), _, one_setCell hq1, by unfold whats; rw [List.map_append, List.length_append]; exact ownsRow_setCell_other HO1.out (by simp [Value.ownBlock]; omega) _, hB1.setCell (p := ⟨w.heap.size, 0, none⟩) (Nat.le_refl _) _, by simpa [World.setCell] using hs1⟩
                  exact AllReadyIn.nil
                exact AllReadyIn.nil
              exact AllReadyIn.nil
            exact AllReadyIn.nil
          refine AllReadyIn.cons rfl (fun K hK => ?_) ?_
          · go_simp
            refine hK _ _ ?_; clear hK K
            refine wpAnyIn_ready (rs := [0, 5]) (by kernel_rfl) (by simp) ?_
            refine AllReadyIn.cons rfl (fun K hK => ?_) ?_
            · go_simp
              refine hK _ _ ?_; clear hK K
              refine wpAnyIn_ready (rs := [5]) (by kernel_rfl) (by simp) ?_
              refine AllReadyIn.cons rfl (fun K hK => ?_) ?_
              · go_simp
                refine hK _ _ ?_; clear hK K
                refine wpAnyIn_ready (rs := [6]) (by kernel_rfl) (by simp) ?_
                refine AllReadyIn.cons rfl (fun K hK => ?_) ?_
                · refine stepIn_append rfl _ _ 28 rfl (w.heap.size + 2) 9 i0 (.string ByteArray.empty) 1 16 Tryz.underlying28 hi hz0 hz1 hz2 rfl (by decide) _ _ _ rfl HOD.out ⟨W3.heap.size, 0, none⟩ 1 1 [.string s] rfl rfl HN.out (by intro u hu; simp at hu; subst hu; rfl) hbd1 hbd2 (by show _ ≤ (W3.alloc _).heap.size; simp; omega) ?_
                  intro v' w1 hown1 hgrow
                  obtain ⟨g', cap', rfl, hg', hc1, hf1, hkeep, HREST⟩ := wh_app (hi := W2.heap.size) hOne.out HO.out hB3 hsz3' hlo hown1 hgrow
                  have HO1 := Lib.hid hown1
                  clear hown1 hgrow
                  refine hK _ _ ?_; clear hK K
                  refine wpAnyIn_ready (rs := [7]) (by kernel_rfl) (by simp) ?_
                  refine AllReadyIn.cons rfl (fun K hK => ?_) ?_
                  · go_simp
                    refine hK _ _ ?_; clear hK K
                    refine wpAnyIn_done (by kernel_rfl) ?_ _
                    obtain ⟨hB1, hs1, hq1⟩ := HREST.out
                    exact ⟨(hkeep.trans (Keep.setCell _ _ _ _ (p := ⟨w.heap.size, 0, none⟩) _ hn₀ (by show w.heap.size < W2.heap.size; omega))), _, one_setCell hq1, by unfold whats; rw [List.map_append, List.length_append]; exact ownsRow_setCell_other HO1.out (by simp [Value.ownBlock]; omega) _, hB1.setCell (p := ⟨w.heap.size, 0, none⟩) (Nat.le_refl _) _, by simpa [World.setCell] using hs1⟩
                  exact AllReadyIn.nil
                exact AllReadyIn.nil
              exact AllReadyIn.nil
            refine AllReadyIn.cons rfl (fun K hK => ?_) ?_
            · go_simp
              refine hK _ _ ?_; clear hK K
              refine wpAnyIn_ready (rs := [0]) (by kernel_rfl) (by simp) ?_
              refine AllReadyIn.cons rfl (fun K hK => ?_) ?_
              · go_simp
                refine hK _ _ ?_; clear hK K
                refine wpAnyIn_ready (rs := [6]) (by kernel_rfl) (by simp) ?_
                refine AllReadyIn.cons rfl (fun K hK => ?_) ?_
                · refine stepIn_append rfl _ _ 28 rfl (w.heap.size + 2) 9 i0 (.string ByteArray.empty) 1 16 Tryz.underlying28 hi hz0 hz1 hz2 rfl (by decide) _ _ _ rfl HOD.out ⟨W3.heap.size, 0, none⟩ 1 1 [.string s] rfl rfl HN.out (by intro u hu; simp at hu; subst hu; rfl) hbd1 hbd2 (by show _ ≤ (W3.alloc _).heap.size; simp; omega) ?_
                  intro v' w1 hown1 hgrow
                  obtain ⟨g', cap', rfl, hg', hc1, hf1, hkeep, HREST⟩ := wh_app (hi := W2.heap.size) hOne.out HO.out hB3 hsz3' hlo hown1 hgrow
                  have HO1 := Lib.hid hown1
                  clear hown1 hgrow
                  refine hK _ _ ?_; clear hK K
                  refine wpAnyIn_ready (rs := [7]) (by kernel_rfl) (by simp) ?_
                  refine AllReadyIn.cons rfl (fun K hK => ?_) ?_
                  · go_simp
                    refine hK _ _ ?_; clear hK K
                    refine wpAnyIn_done (by kernel_rfl) ?_ _
                    obtain ⟨hB1, hs1, hq1⟩ := HREST.out
                    exact ⟨(hkeep.trans (Keep.setCell _ _ _ _ (p := ⟨w.heap.size, 0, none⟩) _ hn₀ (by show w.heap.size < W2.heap.size; omega))), _, one_setCell hq1, by unfold whats; rw [List.map_append, List.length_append]; exact ownsRow_setCell_other HO1.out (by simp [Value.ownBlock]; omega) _, hB1.setCell (p := ⟨w.heap.size, 0, none⟩) (Nat.le_refl _) _, by simpa [World.setCell] using hs1⟩
                  exact AllReadyIn.nil
                exact AllReadyIn.nil
              exact AllReadyIn.nil
            exact AllReadyIn.nil
          exact AllReadyIn.nil
        exact AllReadyIn.nil
      exact AllReadyIn.nil
    exact AllReadyIn.nil
  case done =>
    rintro D ys W3 hD rfl ⟨u0, hb3, ho3, hB3, hsz3'⟩ hK
    have hc3 := cell_of_one hb3
    have hf3 := free_of_one hb3
    have HO := Lib.hid ho3
    have hsh := owns_shape0 ho3
    clear hb3 ho3
    rcases hsh with rfl | ⟨g, gc, rfl⟩
    · gi_wp2
      refine ⟨by simp, .inl ⟨_, _, rfl, run_takeDeferred hK, ?_⟩⟩
      have hfin := ownFrom_row (β := Unit) (B := 0) () W3 _ (some D) HO.out (grownBy_putObj' W3 D (.deferred none)) (fun r e => by cases e; exact ⟨Nat.zero_le _, _, hK, rfl⟩)
      refine ⟨_, results_tmp rfl _ _ _, .slice none 0 0, rfl, hfin, ?_⟩
      exact hB3.trans (belowK_b (w := w) (Nat.le_refl _) _ D _ _ (by omega) hK rfl rfl)
    · gi_wp2
      refine ⟨by simp, .inl ⟨_, _, rfl, run_takeDeferred hK, ?_⟩⟩
      have hfin := ownFrom_row (β := Unit) (B := 0) () W3 _ (some D) HO.out (grownBy_putObj' W3 D (.deferred none)) (fun r e => by cases e; exact ⟨Nat.zero_le _, _, hK, rfl⟩)
      refine ⟨_, results_tmp rfl _ _ _, .slice (some ⟨g, 0, none⟩) (fsOf xs).length gc, rfl, hfin, ?_⟩
      exact hB3.trans (belowK_b (w := w) (Nat.le_refl _) _ D _ _ (by omega) hK rfl rfl)
  case stop =>
    rintro D c pre W3 hD hpre h hK
    exact h.elim
end Go.Proofs.YtpnhjpplfjamkaaGreatDoor

/-! Package fault: New and Wrap; and the chapter's example, asked of Kind, Place and Total. -/
namespace Go.Proofs.YtpnhjpplfjamkaaGreatDoor
open Go Go.RowKit

set_option maxRecDepth 100000 in
theorem new_ok (p : Int) (s : ByteArray) (w : World) :
    Calls Tryz.prog 89 #[.int .i64 0, .int .i64 p, .string s] w fun e w' => e = .returned .nilIface ∧ w = w' := by
  go_enter Tryz.func89, Tryz.ntmps89
  go_wp2
  go_ret
  exact ⟨rfl, rfl⟩
set_option maxRecDepth 100000 in
theorem new_any (k p : Int) (s : ByteArray) (w : World) (hk : (k == 0) = false) :
    Calls Tryz.prog 89 #[.int .i64 k, .int .i64 p, .string s] w fun e w' => e = .returned (.iface 82 (.pointer (some ⟨w.heap.size, 0, none⟩))) ∧ w.alloc (faultObj p s (.iface 44 (.int .i64 k))) = w' := by
  go_enter Tryz.func89, Tryz.ntmps89
  go_wp2
  go_ret
  exact ⟨rfl, rfl⟩
/-- A fault made of a number. -/
theorem Chain.new (k p : Int) (s : ByteArray) (w : World) :
    Chain (w.alloc (faultObj p s (.iface 44 (.int .i64 k)))) (w.heap.size + 1) (.iface 82 (.pointer (some ⟨w.heap.size, 0, none⟩))) [.fault w.heap.size p s, .num k] :=
  ⟨rfl, Nat.lt_succ_self _, _, World.alloc_heap_new _ _, rfl, rfl⟩
/-- A fault made around an error. -/
theorem Chain.wrap {n : Nat} {v : Value} {xs : List El} {w : World} (p : Int) (s : ByteArray) (h : Chain w n v xs) (hn : n ≤ w.heap.size) :
    Chain (w.alloc (faultObj p s v)) (w.heap.size + 1) (.iface 82 (.pointer (some ⟨w.heap.size, 0, none⟩))) (.fault w.heap.size p s :: xs) :=
  ⟨rfl, Nat.lt_succ_self _, _, World.alloc_heap_new _ _, (h.mono hn).below ((Below.refl _ w).alloc (Nat.le_refl _) _) (Nat.le_refl _)⟩

end Go.Proofs.YtpnhjpplfjamkaaGreatDoor

/-! The statements' own function row: a row of items, cut to nine, their texts to twelve bytes. -/
namespace Go.Proofs.YtpnhjpplfjamkaaGreatDoor
open Go Go.RowKit

abbrev Item := Int × ByteArray
end Go.Proofs.YtpnhjpplfjamkaaGreatDoor
