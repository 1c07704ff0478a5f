/-
  Package fault: an error's row as a list, and row's iterator.
-/
import Derived.Test.YtjajlfcmmgdfcaaDoorAsk
import Derived.Test.YtjajlfcmmgdfcaaDoorSeq
import Derived.OwnWalkIn
import Derived.LaidEqlPtr
import Derived.TacticsInMore
import Derived.LoopNIn
import Derived.LoopIn
namespace Go.Proofs.YtjajlfcmmgdfcaaDoor
open Go Go.RowKit

attribute [local go_sem] Oper.semAt_some

/-- An error of a row: a number; a fault, its block, place and words; an error of another make, what lies within it. -/
inductive El where
  | num (k : Int)
  | fault (b : Nat) (p : Int) (s : ByteArray)
def El.val : El → Value
  | .num k => .iface 37 (.int .i64 k)
  | .fault b _ _ => .iface 57 (.pointer (some ⟨b, 0, none⟩))
/-- The block of a fault. -/
def faultObj (p : Int) (s : ByteArray) (u : Value) : Obj := .cells #[.int .i64 p, .string s, u] 59 (0, 0)

/-- The value v is an error whose row is xs, its faults in blocks below n, each deeper one in a lower block. -/
def Chain (W : World) : Nat → Value → List El → Prop
  | _, v, [] => v = .nilIface
  | _, v, .num k :: rest => v = .iface 37 (.int .i64 k) ∧ rest = []
  | n, v, .fault b p s :: rest => v = .iface 57 (.pointer (some ⟨b, 0, none⟩)) ∧ b < n ∧ ∃ u, W.heap[b]? = some (faultObj p s u) ∧ Chain W b u rest
theorem faultObj_cell {W : World} {b : Nat} {p : Int} {s : ByteArray} {u : Value} (h : W.heap[b]? = some (faultObj p s u)) :
    W.cell? ⟨b, 0, none⟩ = some (.int .i64 p) ∧ W.cell? ⟨b, 1, none⟩ = some (.string s) ∧ W.cell? ⟨b, 2, none⟩ = some u := by
  simp [World.cell?, h, faultObj]

theorem Chain.same {W W' : World} : ∀ {n : Nat} {v : Value} {xs : List El}, (∀ k, k < n → W'.heap[k]? = W.heap[k]?) → Chain W n v xs → Chain W' n v xs
  | _, _, [], _, h => h
  | _, _, .num _ :: _, _, h => h
  | _, _, .fault b _ _ :: _, hk, ⟨h1, h2, u, h5, h6⟩ => ⟨h1, h2, u, (hk b h2).trans h5, Chain.same (fun k hkb => hk k (by omega)) h6⟩
theorem Chain.mono {W : World} : ∀ {n m : Nat} {v : Value} {xs : List El}, n ≤ m → Chain W n v xs → Chain W m v xs
  | _, _, _, [], _, h => h
  | _, _, _, .num _ :: _, _, h => h
  | _, _, _, .fault _ _ _ :: _, hn, ⟨h1, h2, h3⟩ => ⟨h1, by omega, h3⟩
theorem Chain.below {W W' : World} {n B : Nat} {v : Value} {xs : List El} (h : Chain W n v xs) (hb : Below B W W') (hn : n ≤ B) : Chain W' n v xs :=
  h.same (fun k hk => hb.block k (by omega))
theorem Chain.head {W : World} {n : Nat} {v : Value} {x : El} {xs : List El} (h : Chain W n v (x :: xs)) : v = x.val := by
  cases x with
  | num k => exact h.1
  | fault b p s => exact h.1
/-- inner, at the head of a row: what is left of the row. -/
theorem inner_chain {n : Nat} {x : El} {rest : List El} (w : World) (h : Chain w n x.val (x :: rest)) :
    Calls Tryd.prog 43 #[x.val] w fun e w' => ∃ u, e = .returned u ∧ Chain w n u rest ∧ (∀ b p s, x = .fault b p s → Chain w b u rest) ∧ Below w.heap.size w w' := by
  cases x with
  | num k => exact (inner_errno k w).mono fun e w' ⟨he, hw⟩ => ⟨_, he, (by rw [h.2]; rfl), fun _ _ _ e => (by cases e), (by rw [← hw]; exact Below.refl _ _)⟩
  | fault b p s =>
    obtain ⟨_, h2, u, h5, h6⟩ := h
    exact (inner_fault b u w (faultObj_cell h5).2.2).mono fun e w' ⟨he, hw⟩ => ⟨_, he, h6.mono (by omega), fun _ _ _ e => (by cases e; exact h6), hw⟩
theorem row_make (t : TypeId) (u : Value) (w : World) :
    Calls Tryd.prog 31 #[.iface t u] w fun e w' => e = .returned (.func (.func 42) #[] #[.pointer (some ⟨w.heap.size, 0, none⟩)]) ∧ w.alloc (.cells #[.iface t u] 35) = w' := by
  have hmf : ∀ (fn : Fn) (first cap : Array Value) (w : World), (Instr.makeFunc fn first cap).run Tryd.prog w = .ok (.func fn first cap) w := fun _ _ _ _ => rfl
  go_enter Tryd.func31, Tryd.ntmps31
  go_wp2
  go_ret
  exact ⟨rfl, rfl⟩
theorem row_make_nil (w : World) :
    Calls Tryd.prog 31 #[.nilIface] w fun e w' => e = .returned (.func (.func 42) #[] #[.pointer (some ⟨w.heap.size, 0, none⟩)]) ∧ w.alloc (.cells #[.nilIface] 35) = w' := by
  have hmf : ∀ (fn : Fn) (first cap : Array Value) (w : World), (Instr.makeFunc fn first cap).run Tryd.prog w = .ok (.func fn first cap) w := fun _ _ _ _ => rfl
  go_enter Tryd.func31, Tryd.ntmps31
  go_wp2
  go_ret
  exact ⟨rfl, rfl⟩

theorem faultSize : (Tryd.prog.info? 59).map (·.size) = some 3 := by kernel_rfl
theorem fault_eq_mark {b bm : Nat} {p q : Int} {s t : ByteArray} {u v : Value} (w : World) (hne : b ≠ bm) (hb : w.heap[b]? = some (faultObj p s u)) (hm : w.heap[bm]? = some (faultObj q t v)) :
    (binOp .eql 57 (.pointer (some ⟨b, 0, none⟩)) (.pointer (some ⟨bm, 0, none⟩))).run Tryd.prog w = .ok (.bool false) w := by
  obtain ⟨j, hj, hjs⟩ := Option.map_eq_some_iff.1 faultSize
  exact run_eql_ptr_other w Tryd.underlying57 hj (by rw [hjs]; decide) (fun e => hne (by cases e; rfl)) hb hm

/-- Where the mark may lie: nowhere, or at a fault that the rest of the row does not reach. -/
def MarkAt (W : World) (n₀ n : Nat) (m : Option Addr) : Prop := m = none ∨ ∃ b p s u, m = some ⟨b, 0, none⟩ ∧ n ≤ b ∧ b < n₀ ∧ W.heap[b]? = some (faultObj p s u)
theorem MarkAt.same {W W' : World} {n₀ n : Nat} {m : Option Addr} (h : MarkAt W n₀ n m) (hk : ∀ k, k < n₀ → W'.heap[k]? = W.heap[k]?) : MarkAt W' n₀ n m := by
  rcases h with h | ⟨b, p, s, u, h1, h2, h3, h4⟩
  · exact .inl h
  · exact .inr ⟨b, p, s, u, h1, h2, h3, (hk b h3).trans h4⟩
theorem MarkAt.le {W : World} {n₀ n n' : Nat} {m : Option Addr} (h : MarkAt W n₀ n m) (hn : n' ≤ n) : MarkAt W n₀ n' m := by
  rcases h with h | ⟨b, p, s, u, h1, h2, h3, h4⟩
  · exact .inl h
  · exact .inr ⟨b, p, s, u, h1, by omega, h3, h4⟩

set_option maxRecDepth 100000 in
set_option maxHeartbeats 2000000 in
theorem row_in (n l n₀ Bn hi : Nat) (fr : Obj → Bool) (v : Value) (xs : List El) (hlen : xs.length < 1048576) (J Jx : List El → World → Prop)
    (hJ : OwnFrom hi J)
    (hY : ∀ pre x W, J pre W → pre ++ [x] <+: xs → YieldAt Fence.wide (n - 1) Tryd.prog l #[El.val x] W fun e W' =>
      (e = .returned (.bool true) ∧ J (pre ++ [x]) W' ∧ Keep n₀ hi fr W W') ∨ (e = .returned (.bool false) ∧ Jx (pre ++ [x]) W' ∧ Keep n₀ hi fr W W'))
    (W : World) (hn₀ : n₀ ≤ W.heap.size) (hBn : W.cell? ⟨Bn, 0, none⟩ = some v) (hL : Chain W n₀ v xs) (h0 : J [] W) :
    CallsIn Fence.wide n Tryd.prog 42 #[.func (.yield l) #[] #[], .pointer (some ⟨Bn, 0, none⟩)] W fun e W' => (∃ v, e = .returned v) ∧
      ((∃ ys, ys = xs ∧ J ys W') ∨ (∃ pre, pre <+: xs ∧ Jx pre W')) := by
  refine callsIn_of_wp Tryd.func42 rfl trivial ?_ rfl
  simp only [Tryd.ntmps42, List.size_toArray, List.length_cons, List.length_nil, Nat.reduceAdd, Nat.reduceSub, Array.replicate_succ, Array.replicate_zero, List.push_toArray, List.append_toArray, List.nil_append, List.cons_append]
  gi_wp2
  gi_loopw [3, 4, 5, 6] (fun m t o x wr => ∃ (pre rest : List El) (ma : Option Addr) (a b bd : Nat), m = .pointer ma ∧ t = .int .i64 a ∧ o = .int .i64 b ∧ xs = pre ++ rest ∧ a + b = pre.length ∧ bd ≤ n₀ ∧ MarkAt wr n₀ bd ma ∧ Chain wr bd x rest ∧ n₀ ≤ wr.heap.size ∧ J pre wr)
    (fun _ t o _ _ => xs.length - (intOf t + intOf o).toNat)
  case atStart => exact ⟨[], xs, none, 0, 0, n₀, rfl, rfl, rfl, rfl, rfl, Nat.le_refl _, .inl rfl, hL, hn₀, h0⟩
  case round =>
    obtain ⟨pre, rest, ma, a, b, bd, rfl, rfl, rfl, hx, hab, hbd, hma, hch, hsz, hJs⟩ := hrel
    cases rest with
    | nil =>
      obtain rfl := hch
      have hp : pre = xs := by simp [hx]
      gi_wp2
      go_end0
      exact ⟨⟨_, rfl⟩, .inl ⟨pre, hp, hJs⟩⟩
    | cons x rest =>
      have hpl : pre.length < xs.length := by rw [hx]; simp
      obtain ⟨fn, tmps, assign, body, hy, hR⟩ := hY pre x wr hJs ⟨rest, by simp [hx]⟩
      have hbl : b < 1048576 := by omega
      have hb2 : (b : Int) < 1048576 := by omega
      cases x with
      | num k =>
        obtain ⟨rfl, hr0⟩ := hch
        have ta := erNoFault
        simp only [El.val] at hy
        gi_wp2
        refine ⟨fun h => (by simp [Fence.wide] at h), ?_⟩
        refine hR.mono ?_
        rintro e W3 (⟨rfl, hJ3, hk3⟩ | ⟨rfl, hJx3, hk3⟩)
        · have hch3 : Chain W3 bd (El.num k).val (El.num k :: rest) := ⟨rfl, hr0⟩
          gi_wp2_with fail
          refine ⟨trivial, fun h => (by simp [Fence.wide] at h), (callsIn_wide.2 (inner_chain W3 hch3)).mono ?_⟩
          rintro e W4 ⟨u, rfl, hch4, _, hb4⟩
          have hJ4 := hJ _ _ _ none hJ3 (grown_of_below hb4) (fun r e => (by cases e))
          have hs3 : n₀ ≤ W3.heap.size := Nat.le_trans hsz hk3.size
          have hs4 : n₀ ≤ W4.heap.size := Nat.le_trans hs3 hb4.size
          have hm4 : MarkAt W4 n₀ bd ma := hma.same (fun k hk => (hb4.block k (by omega)).trans (hk3.blk' k (by omega) hk))
          have hc4 := hch4.below hb4 (by omega)
          clear hch3
          gi_wp2
          go_roundw
          case rel => exact ⟨pre ++ [.num k], rest, ma, a, b + 1, bd, rfl, rfl, by go_num, by simp [hx], by simp; omega, hbd, hm4, hc4, hs4, hJ4⟩
          case measure => simp [intOf]; omega
        · gi_wp2
          refine bodyPost_ret (results_none rfl _ _ _) rfl ?_
          exact ⟨⟨_, rfl⟩, .inr ⟨pre ++ [.num k], ⟨rest, by simp [hx]⟩, hJx3⟩⟩
      | fault fb p s =>
        obtain ⟨rfl, hfb, u, hc2, hr0⟩ := hch
        have ta := faFault
        simp only [El.val] at hy
        have ha1 : (0 : Int) ≤ (a : Int) + 1 := by omega
        have ha2 : (a : Int) + 1 ≤ 1048577 := by omega
        obtain ⟨z, hz1⟩ : ∃ z, bits .and .i64 ((a : Int) + 1) (a : Int) = z := ⟨_, rfl⟩
        have hz2 : bits .and .i64 ((a : Int) + 1) ((a : Int) + 1 - 1) = z := by rw [← hz1]; congr 1; omega
        obtain ⟨zb, hzb⟩ : ∃ zb, (z == 0) = zb := ⟨_, rfl⟩
        have HC := Lib.hid hc2
        clear hc2
        rcases hma with rfl | ⟨bm, q, t, v', rfl, hbm, hbn, hbo⟩
        · cases zb
          · gi_wp2
            refine ⟨fun h => (by simp [Fence.wide] at h), ?_⟩
            refine hR.mono ?_
            rintro e W3 (⟨rfl, hJ3, hk3⟩ | ⟨rfl, hJx3, hk3⟩)
            · have hsame3 : ∀ k, k < n₀ → W3.heap[k]? = wr.heap[k]? := fun k hk => hk3.blk' k (by omega) hk
              have hch3 : Chain W3 bd (El.fault fb p s).val (El.fault fb p s :: rest) := ⟨rfl, hfb, u, (hsame3 fb (by omega)).trans HC.out, hr0.same (fun k hk => hsame3 k (by omega))⟩
              gi_wp2_with fail
              refine ⟨trivial, fun h => (by simp [Fence.wide] at h), (callsIn_wide.2 (inner_chain W3 hch3)).mono ?_⟩
              rintro e W4 ⟨u4, rfl, hch4, hch5, hb4⟩
              have hJ4 := hJ _ _ _ none hJ3 (grown_of_below hb4) (fun r e => (by cases e))
              have hs3 : n₀ ≤ W3.heap.size := Nat.le_trans hsz hk3.size
              have hs4 : n₀ ≤ W4.heap.size := Nat.le_trans hs3 hb4.size
              have hm4 : MarkAt W4 n₀ fb (none) := MarkAt.same (.inl rfl) (fun k hk => (hb4.block k (by omega)).trans (hsame3 k hk))
              have hc4 : Chain W4 fb u4 rest := (hch5 _ _ _ rfl).below hb4 (by omega)
              clear hch3 hsame3
              gi_wp2
              go_roundw
              case rel => exact ⟨pre ++ [El.fault fb p s], rest, _, a + 1, b, fb, rfl, by go_num, by go_num, by simp [hx], by simp; omega, by omega, hm4, hc4, hs4, hJ4⟩
              case measure => simp [intOf]; omega
            · gi_wp2
              refine bodyPost_ret (results_none rfl _ _ _) rfl ?_
              exact ⟨⟨_, rfl⟩, .inr ⟨pre ++ [El.fault fb p s], ⟨rest, by simp [hx]⟩, hJx3⟩⟩
          · gi_wp2
            refine ⟨fun h => (by simp [Fence.wide] at h), ?_⟩
            refine hR.mono ?_
            rintro e W3 (⟨rfl, hJ3, hk3⟩ | ⟨rfl, hJx3, hk3⟩)
            · have hsame3 : ∀ k, k < n₀ → W3.heap[k]? = wr.heap[k]? := fun k hk => hk3.blk' k (by omega) hk
              have hch3 : Chain W3 bd (El.fault fb p s).val (El.fault fb p s :: rest) := ⟨rfl, hfb, u, (hsame3 fb (by omega)).trans HC.out, hr0.same (fun k hk => hsame3 k (by omega))⟩
              gi_wp2_with fail
              refine ⟨trivial, fun h => (by simp [Fence.wide] at h), (callsIn_wide.2 (inner_chain W3 hch3)).mono ?_⟩
              rintro e W4 ⟨u4, rfl, hch4, hch5, hb4⟩
              have hJ4 := hJ _ _ _ none hJ3 (grown_of_below hb4) (fun r e => (by cases e))
              have hs3 : n₀ ≤ W3.heap.size := Nat.le_trans hsz hk3.size
              have hs4 : n₀ ≤ W4.heap.size := Nat.le_trans hs3 hb4.size
              have hm4 : MarkAt W4 n₀ fb (some ⟨fb, 0, none⟩) := MarkAt.same (.inr ⟨fb, p, s, u, rfl, Nat.le_refl _, by omega, HC.out⟩) (fun k hk => (hb4.block k (by omega)).trans (hsame3 k hk))
              have hc4 : Chain W4 fb u4 rest := (hch5 _ _ _ rfl).below hb4 (by omega)
              clear hch3 hsame3
              gi_wp2
              go_roundw
              case rel => exact ⟨pre ++ [El.fault fb p s], rest, _, a + 1, b, fb, rfl, by go_num, by go_num, by simp [hx], by simp; omega, by omega, hm4, hc4, hs4, hJ4⟩
              case measure => simp [intOf]; omega
            · gi_wp2
              refine bodyPost_ret (results_none rfl _ _ _) rfl ?_
              exact ⟨⟨_, rfl⟩, .inr ⟨pre ++ [El.fault fb p s], ⟨rest, by simp [hx]⟩, hJx3⟩⟩
        · have heq := fault_eq_mark wr (by omega) HC.out hbo
          have HM := Lib.hid hbo
          clear hbo
          cases zb
          · gi_wp2
            refine ⟨fun h => (by simp [Fence.wide] at h), ?_⟩
            refine hR.mono ?_
            rintro e W3 (⟨rfl, hJ3, hk3⟩ | ⟨rfl, hJx3, hk3⟩)
            · have hsame3 : ∀ k, k < n₀ → W3.heap[k]? = wr.heap[k]? := fun k hk => hk3.blk' k (by omega) hk
              have hch3 : Chain W3 bd (El.fault fb p s).val (El.fault fb p s :: rest) := ⟨rfl, hfb, u, (hsame3 fb (by omega)).trans HC.out, hr0.same (fun k hk => hsame3 k (by omega))⟩
              gi_wp2_with fail
              refine ⟨trivial, fun h => (by simp [Fence.wide] at h), (callsIn_wide.2 (inner_chain W3 hch3)).mono ?_⟩
              rintro e W4 ⟨u4, rfl, hch4, hch5, hb4⟩
              have hJ4 := hJ _ _ _ none hJ3 (grown_of_below hb4) (fun r e => (by cases e))
              have hs3 : n₀ ≤ W3.heap.size := Nat.le_trans hsz hk3.size
              have hs4 : n₀ ≤ W4.heap.size := Nat.le_trans hs3 hb4.size
              have hm4 : MarkAt W4 n₀ fb (some ⟨bm, 0, none⟩) := MarkAt.same (.inr ⟨bm, q, t, v', rfl, by omega, hbn, HM.out⟩) (fun k hk => (hb4.block k (by omega)).trans (hsame3 k hk))
              have hc4 : Chain W4 fb u4 rest := (hch5 _ _ _ rfl).below hb4 (by omega)
              clear hch3 hsame3
              gi_wp2
              go_roundw
              case rel => exact ⟨pre ++ [El.fault fb p s], rest, _, a + 1, b, fb, rfl, by go_num, by go_num, by simp [hx], by simp; omega, by omega, hm4, hc4, hs4, hJ4⟩
              case measure => simp [intOf]; omega
            · gi_wp2
              refine bodyPost_ret (results_none rfl _ _ _) rfl ?_
              exact ⟨⟨_, rfl⟩, .inr ⟨pre ++ [El.fault fb p s], ⟨rest, by simp [hx]⟩, hJx3⟩⟩
          · gi_wp2
            refine ⟨fun h => (by simp [Fence.wide] at h), ?_⟩
            refine hR.mono ?_
            rintro e W3 (⟨rfl, hJ3, hk3⟩ | ⟨rfl, hJx3, hk3⟩)
            · have hsame3 : ∀ k, k < n₀ → W3.heap[k]? = wr.heap[k]? := fun k hk => hk3.blk' k (by omega) hk
              have hch3 : Chain W3 bd (El.fault fb p s).val (El.fault fb p s :: rest) := ⟨rfl, hfb, u, (hsame3 fb (by omega)).trans HC.out, hr0.same (fun k hk => hsame3 k (by omega))⟩
              gi_wp2_with fail
              refine ⟨trivial, fun h => (by simp [Fence.wide] at h), (callsIn_wide.2 (inner_chain W3 hch3)).mono ?_⟩
              rintro e W4 ⟨u4, rfl, hch4, hch5, hb4⟩
              have hJ4 := hJ _ _ _ none hJ3 (grown_of_below hb4) (fun r e => (by cases e))
              have hs3 : n₀ ≤ W3.heap.size := Nat.le_trans hsz hk3.size
              have hs4 : n₀ ≤ W4.heap.size := Nat.le_trans hs3 hb4.size
              have hm4 : MarkAt W4 n₀ fb (some ⟨fb, 0, none⟩) := MarkAt.same (.inr ⟨fb, p, s, u, rfl, Nat.le_refl _, by omega, HC.out⟩) (fun k hk => (hb4.block k (by omega)).trans (hsame3 k hk))
              have hc4 : Chain W4 fb u4 rest := (hch5 _ _ _ rfl).below hb4 (by omega)
              clear hch3 hsame3
              gi_wp2
              go_roundw
              case rel => exact ⟨pre ++ [El.fault fb p s], rest, _, a + 1, b, fb, rfl, by go_num, by go_num, by simp [hx], by simp; omega, by omega, hm4, hc4, hs4, hJ4⟩
              case measure => simp [intOf]; omega
            · gi_wp2
              refine bodyPost_ret (results_none rfl _ _ _) rfl ?_
              exact ⟨⟨_, rfl⟩, .inr ⟨pre ++ [El.fault fb p s], ⟨rest, by simp [hx]⟩, hJx3⟩⟩
theorem row_seq {fr : Obj → Bool} {n₀ Bn : Nat} {v : Value} {xs : List El} {w : World} (hlen : xs.length < 1048576) (hn₀ : n₀ ≤ w.heap.size) (hBn : w.cell? ⟨Bn, 0, none⟩ = some v) (hL : Chain w n₀ v xs) :
    SeqZ Tryd.prog 42 #[.pointer (some ⟨Bn, 0, none⟩)] (fun x : El => #[x.val]) n₀ fr (fun ys => ys = xs) (fun pre => pre <+: xs) w := fun n l J Jx W hW hJ _ hY h0 =>
  row_in n l n₀ Bn W.heap.size fr v xs hlen J Jx hJ hY W (Nat.le_trans hn₀ hW.size) ((hW.cell (p := ⟨Bn, 0, none⟩) (lt_of_cell hBn)).trans hBn) (hL.below hW hn₀) h0

/-- The faults of a row: block, place, words. -/
def fsOf : List El → List (Nat × Int × ByteArray)
  | [] => []
  | .fault b p s :: rest => (b, p, s) :: fsOf rest
  | .num _ :: rest => fsOf rest
theorem fsOf_append (a b : List El) : fsOf (a ++ b) = fsOf a ++ fsOf b := by
  induction a with
  | nil => rfl
  | cons x r ih => cases x <;> simp [fsOf, ih]
theorem fsOf_prefix {a b : List El} (h : a <+: b) : fsOf a <+: fsOf b := by
  obtain ⟨r, rfl⟩ := h
  exact ⟨fsOf r, (fsOf_append a r).symm⟩

theorem faults_make (t : TypeId) (u : Value) (w : World) :
    Calls Tryd.prog 30 #[.iface t u] w fun e w' => e = .returned (.func (.func 41) #[] #[.pointer (some ⟨w.heap.size, 0, none⟩)]) ∧ w.alloc (.cells #[.iface t u] 35) = w' := by
  have hmf : ∀ (fn : Fn) (first cap : Array Value) (w : World), (Instr.makeFunc fn first cap).run Tryd.prog w = .ok (.func fn first cap) w := fun _ _ _ _ => rfl
  go_enter Tryd.func30, Tryd.ntmps30
  go_wp2
  go_ret
  exact ⟨rfl, rfl⟩
theorem faults_make_nil (w : World) :
    Calls Tryd.prog 30 #[.nilIface] w fun e w' => e = .returned (.func (.func 41) #[] #[.pointer (some ⟨w.heap.size, 0, none⟩)]) ∧ w.alloc (.cells #[.nilIface] 35) = w' := by
  have hmf : ∀ (fn : Fn) (first cap : Array Value) (w : World), (Instr.makeFunc fn first cap).run Tryd.prog w = .ok (.func fn first cap) w := fun _ _ _ _ => rfl
  go_enter Tryd.func30, Tryd.ntmps30
  go_wp2
  go_ret
  exact ⟨rfl, rfl⟩
end Go.Proofs.YtjajlfcmmgdfcaaDoor
