/-
  Package alias: unpacked, Encode, Decode, Key.
-/
import Derived.Test.YtbafmnafhaoggaaGreatDoorYRights
namespace Go.Proofs.YtbafmnafhaoggaaGreatDoor
open Go Go.RowKit

/-! pack.Get beyond the text's end. -/
set_option maxRecDepth 100000 in
theorem get_out (s : ByteArray) (a k : Nat) (w : World) (hs : s.size ≤ maxLen) (hk : k ≤ 8) (ha : s.size < a + k) :
    Calls Tryz.prog 92 #[.string s, .int .i64 (a : Int), .int .i64 (k : Int)] w fun e w' => e = .returned (.tuple #[.int .u64 0, .bool false]) ∧ w = w' := by
  unfold maxLen at hs
  have h1 : ¬ (8 : Int) < (k : Int) := by omega
  have h2 : ((s.size : Int) - (k : Int) < (a : Int)) := by omega
  go_enter Tryz.func92, Tryz.ntmps92
  go_wp2
  go_ret2
  exact ⟨rfl, rfl⟩
theorem get_all (s : ByteArray) (a k : Nat) (w : World) (hs : s.size ≤ 1048576) (hk : k ≤ 8) :
    Calls Tryz.prog 92 #[.string s, .int .i64 (a : Int), .int .i64 (k : Int)] w fun e w' => (∃ b, e = .returned (.tuple #[.int .u64 ((getN s a k : Nat) : Int), .bool b])) ∧ w = w' := by
  by_cases h : a + k ≤ s.size
  · refine (get_any s a k w (by unfold maxLen; omega) hk h).mono ?_
    rintro e w' ⟨rfl, h2⟩
    exact ⟨⟨true, by rw [getN_in h]⟩, h2⟩
  · refine (get_out s a k w (by unfold maxLen; omega) hk (by omega)).mono ?_
    rintro e w' ⟨rfl, h2⟩
    exact ⟨⟨false, by unfold getN; rw [if_neg h]; rfl⟩, h2⟩

/-! unpacked. -/
def uT (r : ByteArray) (j : Nat) : ByteArray := unT (getN r (1 + 8 * j) 8)
def uC (r : ByteArray) (k j : Nat) : Value := if j < k then .string (uT r j) else .string ⟨#[]⟩
def cellsU (r : ByteArray) (k : Nat) : Array Value := #[.int .i64 ((getN r 0 1 : Nat) : Int), uC r k 0, uC r k 1, uC r k 2, uC r k 3, uC r k 4]
theorem cellsU_zero (r : ByteArray) : cellsU r 0 = #[.int .i64 ((getN r 0 1 : Nat) : Int), .string ⟨#[]⟩, .string ⟨#[]⟩, .string ⟨#[]⟩, .string ⟨#[]⟩, .string ⟨#[]⟩] := rfl
theorem cellsU_five (r : ByteArray) : cellsU r 5 = #[.int .i64 (unA r).k, .string (unA r).a, .string (unA r).b, .string (unA r).l, .string (unA r).s, .string (unA r).r] := rfl
theorem cellsU_succ (r : ByteArray) (k : Nat) (h : k < 5) : (cellsU r k).setIfInBounds (k + 1) (.string (uT r k)) = cellsU r (k + 1) := by
  have h5 : k = 0 ∨ k = 1 ∨ k = 2 ∨ k = 3 ∨ k = 4 := by omega
  rcases h5 with rfl | rfl | rfl | rfl | rfl <;> rfl
theorem getN_byte (r : ByteArray) : getN r 0 1 < 256 := by
  unfold getN
  split
  · exact num_lt 1 _
  · decide
theorem sizeAl : (Tryz.prog.info? 42).map (·.size) = some 6 := by kernel_rfl

theorem get_at0 (r : ByteArray) (w : World) (hr : r.size ≤ 1048576) : Calls Tryz.prog 92 #[.string r, .int .i64 0, .int .i64 1] w fun e w' => (∃ b, e = .returned (.tuple #[.int .u64 ((getN r 0 1 : Nat) : Int), .bool b])) ∧ w = w' := get_all r 0 1 w hr (by decide)
theorem get_at8 (r : ByteArray) (A : Int) (a : Nat) (hA : A = (a : Int)) (w : World) (hr : r.size ≤ 1048576) : Calls Tryz.prog 92 #[.string r, .int .i64 A, .int .i64 8] w fun e w' => (∃ b, e = .returned (.tuple #[.int .u64 ((getN r a 8 : Nat) : Int), .bool b])) ∧ w = w' := by
  subst hA
  exact get_all r a 8 w hr (by decide)
theorem frozenY {W : World} {g : Nat} {cs : Array Value} {t : TypeId} (h : W.heap[g]? = some (.cells cs t (0, 0))) (k : Nat) : W.frozen? ⟨g, k, none⟩ = false := by
  simp [World.frozen?, h]
theorem cellAtY {W : World} {g : Nat} {cs : Array Value} {t : TypeId} (h : W.heap[g]? = some (.cells cs t (0, 0))) (k : Nat) (v : Value) (hv : cs[k]? = some v) : W.cell? ⟨g, k, none⟩ = some v := by
  rw [← hv]; simp [World.cell?, h]
theorem al_store {w : World} {B : Nat} {t : TypeId} {a0 a1 a2 a3 a4 a5 : Value} (h : w.heap[B]? = some (.cells #[a0, a1, a2, a3, a4, a5] t (0, 0))) (b0 b1 b2 b3 b4 b5 : Value) :
    ((((((w.setCell ⟨B, 0, none⟩ b0).setCell ⟨B, 1, none⟩ b1).setCell ⟨B, 2, none⟩ b2).setCell ⟨B, 3, none⟩ b3).setCell ⟨B, 4, none⟩ b4).setCell ⟨B, 5, none⟩ b5).heap[B]? = some (.cells #[b0, b1, b2, b3, b4, b5] t (0, 0)) ∧
    ∀ B0, B0 ≤ B → Below B0 w ((((((w.setCell ⟨B, 0, none⟩ b0).setCell ⟨B, 1, none⟩ b1).setCell ⟨B, 2, none⟩ b2).setCell ⟨B, 3, none⟩ b3).setCell ⟨B, 4, none⟩ b4).setCell ⟨B, 5, none⟩ b5) := by
  have e0 : (w.setCell ⟨B, 0, none⟩ b0).heap[B]? = some (.cells #[b0, a1, a2, a3, a4, a5] t (0, 0)) := setY h b0
  have e1 : ((w.setCell ⟨B, 0, none⟩ b0).setCell ⟨B, 1, none⟩ b1).heap[B]? = some (.cells #[b0, b1, a2, a3, a4, a5] t (0, 0)) := setY e0 b1
  have e2 : (((w.setCell ⟨B, 0, none⟩ b0).setCell ⟨B, 1, none⟩ b1).setCell ⟨B, 2, none⟩ b2).heap[B]? = some (.cells #[b0, b1, b2, a3, a4, a5] t (0, 0)) := setY e1 b2
  have e3 : ((((w.setCell ⟨B, 0, none⟩ b0).setCell ⟨B, 1, none⟩ b1).setCell ⟨B, 2, none⟩ b2).setCell ⟨B, 3, none⟩ b3).heap[B]? = some (.cells #[b0, b1, b2, b3, a4, a5] t (0, 0)) := setY e2 b3
  have e4 : (((((w.setCell ⟨B, 0, none⟩ b0).setCell ⟨B, 1, none⟩ b1).setCell ⟨B, 2, none⟩ b2).setCell ⟨B, 3, none⟩ b3).setCell ⟨B, 4, none⟩ b4).heap[B]? = some (.cells #[b0, b1, b2, b3, b4, a5] t (0, 0)) := setY e3 b4
  have e5 : ((((((w.setCell ⟨B, 0, none⟩ b0).setCell ⟨B, 1, none⟩ b1).setCell ⟨B, 2, none⟩ b2).setCell ⟨B, 3, none⟩ b3).setCell ⟨B, 4, none⟩ b4).setCell ⟨B, 5, none⟩ b5).heap[B]? = some (.cells #[b0, b1, b2, b3, b4, b5] t (0, 0)) := setY e4 b5
  exact ⟨e5, fun B0 hB => ((((((Below.refl B0 w).setCell (p := ⟨B, 0, none⟩) hB b0).setCell (p := ⟨B, 1, none⟩) hB b1).setCell (p := ⟨B, 2, none⟩) hB b2).setCell (p := ⟨B, 3, none⟩) hB b3).setCell (p := ⟨B, 4, none⟩) hB b4).setCell (p := ⟨B, 5, none⟩) hB b5⟩
theorem al_cells {W : World} {B : Nat} {a b c d e f : Value} {t : TypeId} (h : W.heap[B]? = some (.cells #[a, b, c, d, e, f] t (0, 0))) :
    (W.cell? ⟨B, 0, none⟩ = some a ∧ W.cell? ⟨B, 1, none⟩ = some b ∧ W.cell? ⟨B, 2, none⟩ = some c ∧ W.cell? ⟨B, 3, none⟩ = some d ∧ W.cell? ⟨B, 4, none⟩ = some e ∧ W.cell? ⟨B, 5, none⟩ = some f) ∧
    (W.frozen? ⟨B, 0, none⟩ = false ∧ W.frozen? ⟨B, 1, none⟩ = false ∧ W.frozen? ⟨B, 2, none⟩ = false ∧ W.frozen? ⟨B, 3, none⟩ = false ∧ W.frozen? ⟨B, 4, none⟩ = false ∧ W.frozen? ⟨B, 5, none⟩ = false) := by
  constructor
  · exact cells6 h
  · simp [World.frozen?, h]
theorem uC_at (r : ByteArray) (k : Nat) (h : k < 5) : (cellsU r k)[k + 1]? = some (.string ⟨#[]⟩) := by
  have h5 : k = 0 ∨ k = 1 ∨ k = 2 ∨ k = 3 ∨ k = 4 := by omega
  rcases h5 with rfl | rfl | rfl | rfl | rfl <;> rfl

set_option maxRecDepth 100000 in
set_option maxHeartbeats 8000000 in
theorem unpacked_al (r : ByteArray) (w : World) (hr : r.size ≤ 1048576) :
    Calls Tryz.prog 93 #[.string r] w fun e w' => e = .returned (.agg #[.int .i64 (unA r).k, .string (unA r).a, .string (unA r).b, .string (unA r).l, .string (unA r).s, .string (unA r).r]) ∧ Below w.heap.size w w' := by
  have HG := Lib.hid (fun (A : Int) (a : Nat) (hA : A = (a : Int)) w' => get_at8 r A a hA w' hr)
  have HG0 := Lib.hid (fun w' => get_at0 r w' hr)
  have hby := getN_byte r
  have hwc : IntKind.i64.wrap ((getN r 0 1 : Nat) : Int) = ((getN r 0 1 : Nat) : Int) := IntWalk.i64_in _ ⟨by omega, by omega⟩
  have HU := Lib.hid (fun j w' => (unpack_any (getN r (1 + 8 * j) 8) w'))
  have HF5 := Lib.hid (cellsU_five r)
  have HF0 := Lib.hid (cellsU_zero r)
  obtain ⟨W1, hW1⟩ : ∃ W1, w.alloc (.cells #[.int .i64 0, .string ⟨#[]⟩, .string ⟨#[]⟩, .string ⟨#[]⟩, .string ⟨#[]⟩, .string ⟨#[]⟩] 42) = W1 := ⟨_, rfl⟩
  have hb1 : Below w.heap.size w W1 := by rw [← hW1]; exact (Below.refl _ w).alloc (Nat.le_refl _) _
  have hA : W1.heap[w.heap.size]? = some (.cells #[.int .i64 0, .string ⟨#[]⟩, .string ⟨#[]⟩, .string ⟨#[]⟩, .string ⟨#[]⟩, .string ⟨#[]⟩] 42 (0, 0)) := by rw [← hW1]; exact World.alloc_heap_new w _
  have HA := Lib.hid hA
  have HB1 := Lib.hid hb1
  clear hA hb1 hby
  generalize hk0 : getN r 0 1 = kk at *
  clear hk0
  go_enter Tryz.func93, Tryz.ntmps93
  go_upto_region 1 with fail
  clear hW1
  go_wp2_with (go_at_call 92; (with_reducible refine (HG0.out _).mono ?_); rintro e w' ⟨⟨b0, rfl⟩, rfl⟩)
  refine (fields_any _ _).mono ?_
  rintro e w3 ⟨rfl, hb3⟩
  have hN : w3.heap[W1.heap.size]? = some (.cells #[.int .i64 (kk : Int), .string ⟨#[]⟩, .string ⟨#[]⟩, .string ⟨#[]⟩, .string ⟨#[]⟩, .string ⟨#[]⟩] 42 (0, 0)) := (hb3.block _ (by simp)).trans (World.alloc_heap_new W1 _)
  have hM : w3.heap[w.heap.size]? = _ := (hb3.block _ (by have := lt_of_block HA.out; simp; omega)).trans ((Below.heap_alloc _ _ _ (lt_of_block HA.out)).trans HA.out)
  have hB3 : Below w.heap.size w w3 := (HB1.out.alloc HB1.out.size _).trans (hb3.mono (by have := HB1.out.size; simp; omega))
  have hlt1 : w.heap.size < W1.heap.size := lt_of_block HA.out
  rw [← HF0.out] at hN
  clear hb3
  go_wp2
  go_loopw [6, 7, 8, 9, 19] (fun _ _ _ _ i wr => ∃ k : Nat, k ≤ 5 ∧ i = .int .i64 (k : Int) ∧ wr.heap[W1.heap.size]? = some (.cells (cellsU r k) 42 (0, 0)) ∧ wr.heap[w.heap.size]? = some (.cells #[.int .i64 0, .string ⟨#[]⟩, .string ⟨#[]⟩, .string ⟨#[]⟩, .string ⟨#[]⟩, .string ⟨#[]⟩] 42 (0, 0)) ∧ Below w.heap.size w wr) (fun _ _ _ _ i _ => 5 - (intOf i).toNat)
  case atStart => exact ⟨0, Nat.zero_le _, rfl, hN, hM, hB3⟩
  case round =>
    clear hN hM hB3
    obtain ⟨k, hk, rfl, hN, hM, hR⟩ := hrel
    by_cases hlt : k < 5
    · have hix := ptr_of W1.heap.size k hlt _ rfl wr
      have hlt' : (k : Int) < 5 := by omega
      have HST := Lib.hid (cellsU_succ r k hlt)
      have HUk := Lib.hid (HU.out k)
      have HUe := Lib.hid (show uT r k = unT (getN r (1 + 8 * k) 8) from rfl)
      have HVe := Lib.hid (uC_at r k hlt)
      have HNB := Lib.hid hN
      have HMB := Lib.hid hM
      have hln := lt_of_block hN
      clear hN hM
      go_wp2_with (first
        | (go_at_call 92; refine (HG.out _ (1 + 8 * k) (by omega) _).mono ?_; rintro e w' ⟨⟨b, rfl⟩, rfl⟩)
        | (go_at_call 94; (with_reducible refine (HUk.out _).mono ?_); rintro e w5 ⟨rfl, hb5⟩; have hN5 := (hb5.block _ hln).trans HNB.out; have hM5 := (hb5.block _ (Nat.lt_trans hlt1 hln)).trans HMB.out; have hc5 := cellAtY hN5 (k + 1) _ HVe.out; have hf5 := frozenY hN5 (k + 1)))
      go_roundw
      case rel =>
        refine ⟨k + 1, by omega, by go_num, (setY hN5 _).trans (by rw [← HUe.out, HST.out]), (Below.heap_setCell w5 ⟨W1.heap.size, k + 1, none⟩ _ _ (Nat.ne_of_lt hlt1)).trans hM5, ?_⟩
        exact (hR.trans (hb5.mono hR.size)).setCell (p := ⟨W1.heap.size, k + 1, none⟩) (Nat.le_of_lt hlt1) _
      case measure => simp [intOf]; omega
    · obtain rfl : k = 5 := by omega
      rw [HF5.out] at hN
      have HS := Lib.hid (al_store hM (.int .i64 (unA r).k) (.string (unA r).a) (.string (unA r).b) (.string (unA r).l) (.string (unA r).s) (.string (unA r).r))
      obtain ⟨⟨a0, a1, a2, a3, a4, a5⟩, -⟩ := al_cells hN
      obtain ⟨⟨c0, c1, c2, c3, c4, c5⟩, f0, f1, f2, f3, f4, f5⟩ := al_cells hM
      clear hN hM
      obtain ⟨z, hz⟩ : ∃ z, unA r = z := ⟨_, rfl⟩
      rw [hz] at HS a0 a1 a2 a3 a4 a5
      have HZ := Lib.hid hz
      clear hz
      go_wp2
      refine bodyPost_ret (results_cell_row rfl _ _ w.heap.size 42 _ (0, 0) _ rfl HS.out.1 Tryz.underlying42 rfl sizeAl) rfl ?_
      exact ⟨by rw [HZ.out], hR.trans (HS.out.2 _ (Nat.le_refl _))⟩

/-! Encode, Decode, Key. -/
def encS (x : Al) : ByteArray := if rightA x then rowB x else ⟨#[]⟩
set_option maxRecDepth 100000 in
set_option maxHeartbeats 4000000 in
theorem encode_al (x : Al) (w : World) (hx : AlS x) (hg : GL w) :
    Calls Tryz.prog 39 #[.agg #[.int .i64 x.k, .string x.a, .string x.b, .string x.l, .string x.s, .string x.r]] w fun e w' => e = .returned (.tuple #[.string (encS x), .bool (rightA x)]) ∧ Below w.heap.size w w' := by
  have hgs := hg.size
  obtain ⟨W1, hW1⟩ : ∃ W1, w.alloc (.cells #[.int .i64 x.k, .string x.a, .string x.b, .string x.l, .string x.s, .string x.r] 42) = W1 := ⟨_, rfl⟩
  have hb1 : Below w.heap.size w W1 := by rw [← hW1]; exact (Below.refl _ w).alloc (Nat.le_refl _) _
  have hA : W1.heap[w.heap.size]? = some (.cells #[.int .i64 x.k, .string x.a, .string x.b, .string x.l, .string x.s, .string x.r] 42 (0, 0)) := by rw [← hW1]; exact World.alloc_heap_new w _
  have hc6 := Lib.hid (fun w' (hb : Below W1.heap.size W1 w') => cells6 ((hb.block _ (lt_of_block hA)).trans hA))
  have hB0 := Lib.hid (fun w' (hb : Below W1.heap.size W1 w') => hb1.trans (hb.mono hb1.size))
  have HR := Lib.hid (right_al x W1 hx (hg.below hb1 hgs))
  have c0 := cells6 hA
  cases hr : rightA x with
  | false =>
    have HE := Lib.hid (show encS x = ⟨#[]⟩ by unfold encS; rw [hr]; rfl)
    rw [hr] at HR
    clear hr hA hb1 hx hg
    obtain ⟨a0, a1, a2, a3, a4, a5⟩ := c0
    go_enter Tryz.func39, Tryz.ntmps39
    go_upto_region 1 with fail
    clear hW1
    go_wp2_with (go_at_call 76; (with_reducible refine HR.out.mono ?_); rintro e w5 ⟨rfl, hb5⟩)
    go_ret2
    rw [HE.out]
    exact ⟨rfl, hB0.out _ hb5⟩
  | true =>
    have hk := right_kind hr
    have hp := okP_right hr
    have HE := Lib.hid (show encS x = rowB x by unfold encS; rw [hr]; rfl)
    have HP := Lib.hid (fun w' (hb : Below W1.heap.size W1 w') => (packed_al x w' (alZ_of hx ⟨by omega, by omega⟩)).mono (R' := fun e w'' => e = .returned (.tuple #[.string (rowB x), .bool true]) ∧ Below W1.heap.size W1 w'') fun e w'' ⟨p, q⟩ => ⟨by rw [p]; unfold packS; rw [hp]; rfl, hb.trans (q.mono hb.size)⟩)
    rw [hr] at HR
    clear hr hA hb1 hx hg hp hk
    obtain ⟨a0, a1, a2, a3, a4, a5⟩ := c0
    go_enter Tryz.func39, Tryz.ntmps39
    go_upto_region 1 with fail
    clear hW1
    go_wp2_with (first
      | (go_at_call 76; (with_reducible refine HR.out.mono ?_); rintro e w5 ⟨rfl, hb5⟩; obtain ⟨e0, e1, e2, e3, e4, e5⟩ := hc6.out _ hb5)
      | (go_at_call 77; (with_reducible refine (HP.out _ hb5).mono ?_); rintro e w6 ⟨rfl, hb6⟩))
    go_ret2
    rw [HE.out]
    exact ⟨rfl, hB0.out _ hb6⟩

theorem unA_small (r : ByteArray) : AlS (unA r) := by
  have hb := getN_byte r
  refine ⟨?_, Nat.le_trans (size_unT _) (by decide), Nat.le_trans (size_unT _) (by decide), Nat.le_trans (size_unT _) (by decide), Nat.le_trans (size_unT _) (by decide), Nat.le_trans (size_unT _) (by decide)⟩
  show (Lit.int .i64 ((getN r 0 1 : Nat) : Int)).wf = true
  unfold Lit.wf
  rw [Bool.and_eq_true, decide_eq_true_iff, decide_eq_true_iff]
  have h1 : IntKind.min .i64 = -9223372036854775808 := by decide
  have h2 : IntKind.max .i64 = 9223372036854775807 := by decide
  omega
theorem encS_unA (r : ByteArray) (h : rightA (unA r) = true) : ((encS (unA r)).toList == r.toList) = decide (rowB (unA r) = r) := by
  unfold encS
  rw [if_pos h, same_bool]

theorem results_cell_tmpY {P : Program} {fn : Func} {p q : Tmp} {ty : TypeId} (h : fn.results = #[.cell p ty, .tmp q]) (tmps : Array Value) (w : World) (g : Nat) (t : TypeId) (cs : Array Value) (fr : Nat × Nat) (d : TypeDesc) (v : Value)
    (hp : tmps.getD p undef = .pointer (some ⟨g, 0, none⟩)) (hv : tmps.getD q undef = v) (hg : w.heap[g]? = some (.cells cs t fr))
    (hu : P.underlying ty = some d) (hd : (match d with | .struct _ | .array _ _ => true | _ => false) = true) (hi : (P.info? ty).map (·.size) = some cs.size) :
    (results fn tmps).run P w = .ok (.tuple #[.agg cs, v]) w := by
  have hp' : tmps[p]?.getD undef = .pointer (some ⟨g, 0, none⟩) := by simpa using hp
  have hv' : tmps[q]?.getD undef = v := by simpa using hv
  simp [results, h, hp', hv', asAddr, run_loadVar_row w g t ty cs fr d hg hu hd hi]
set_option maxRecDepth 100000 in
set_option maxHeartbeats 4000000 in
theorem decode_al (r : ByteArray) (w : World) (hr : r.size ≤ 1048576) (hg : GL w) :
    Calls Tryz.prog 63 #[.string r] w fun e w' => e = .returned (.tuple #[.agg #[.int .i64 (decV r).k, .string (decV r).a, .string (decV r).b, .string (decV r).l, .string (decV r).s, .string (decV r).r], .bool (okA r)]) ∧ Below w.heap.size w w' := by
  have hgs := hg.size
  obtain ⟨W1, hW1⟩ : ∃ W1, w.alloc (.cells #[.int .i64 0, .string ⟨#[]⟩, .string ⟨#[]⟩, .string ⟨#[]⟩, .string ⟨#[]⟩, .string ⟨#[]⟩] 42) = W1 := ⟨_, rfl⟩
  have hb1 : Below w.heap.size w W1 := by rw [← hW1]; exact (Below.refl _ w).alloc (Nat.le_refl _) _
  have hA : W1.heap[w.heap.size]? = some (.cells #[.int .i64 0, .string ⟨#[]⟩, .string ⟨#[]⟩, .string ⟨#[]⟩, .string ⟨#[]⟩, .string ⟨#[]⟩] 42 (0, 0)) := by rw [← hW1]; exact World.alloc_heap_new w _
  have HU := Lib.hid ((unpacked_al r W1 hr))
  have HD := Lib.hid (show ∀ b, okA r = b → decV r = if b then unA r else zeroA from fun b h => by unfold decV; rw [h])
  have HO := Lib.hid (show okA r = (rightA (unA r) && decide (rowB (unA r) = r)) from rfl)
  have HES := encS_unA r
  have HEN := Lib.hid (fun w' (hb : Below W1.heap.size W1 w') => encode_al (unA r) w' (unA_small r) (hg.below (hb1.trans (hb.mono hb1.size)) hgs))
  generalize unA r = x at *
  have HA := Lib.hid hA
  have HB1 := Lib.hid hb1
  have hlt1 := lt_of_block hA
  clear hA hb1 hg
  go_enter Tryz.func63, Tryz.ntmps63
  go_upto_region 1 with fail
  clear hW1
  go_wp2_with (go_at_call 93; (with_reducible refine HU.out.mono ?_); rintro e w2 ⟨rfl, hb2⟩)
  refine (HEN.out _ (hb2.alloc hb2.size _)).mono ?_
  rintro e w3 ⟨rfl, hb3⟩
  have hl2 : W1.heap.size ≤ w2.heap.size := hb2.size
  have hM3 : w3.heap[w.heap.size]? = some (.cells #[.int .i64 0, .string ⟨#[]⟩, .string ⟨#[]⟩, .string ⟨#[]⟩, .string ⟨#[]⟩, .string ⟨#[]⟩] 42 (0, 0)) := (hb3.block _ (by simp; omega)).trans ((Below.heap_alloc _ _ _ (by omega)).trans ((hb2.block _ hlt1).trans HA.out))
  have hN3 : w3.heap[w2.heap.size]? = some (.cells #[.int .i64 x.k, .string x.a, .string x.b, .string x.l, .string x.s, .string x.r] 42 (0, 0)) := (hb3.block _ (by simp)).trans (World.alloc_heap_new w2 _)
  have hB3 : Below w.heap.size w w3 := (HB1.out.trans (hb2.mono HB1.out.size)).trans (((Below.refl w.heap.size w2).alloc (by omega) _).trans (hb3.mono (by simp; omega)))
  obtain ⟨⟨a0, a1, a2, a3, a4, a5⟩, -⟩ := al_cells hN3
  obtain ⟨⟨c0, c1, c2, c3, c4, c5⟩, f0, f1, f2, f3, f4, f5⟩ := al_cells hM3
  have HSZ := Lib.hid (al_store hM3 (.int .i64 0) (.string ⟨#[]⟩) (.string ⟨#[]⟩) (.string ⟨#[]⟩) (.string ⟨#[]⟩) (.string ⟨#[]⟩))
  have HSX := Lib.hid (al_store hM3 (.int .i64 x.k) (.string x.a) (.string x.b) (.string x.l) (.string x.s) (.string x.r))
  have HB3 := Lib.hid hB3
  clear hM3 hN3 hB3 hb2 hb3 hl2
  cases hrt : rightA x with
  | false =>
    rw [hrt] at HO
    have HQ := Lib.hid (show okA r = false from HO.out)
    have HV := Lib.hid (HD.out _ HQ.out)
    clear hrt HO HD HES HEN HU
    go_wp2
    refine bodyPost_ret (results_cell_tmpY rfl _ _ w.heap.size 42 _ (0, 0) _ _ rfl rfl HSZ.out.1 Tryz.underlying42 rfl sizeAl) rfl ?_
    rw [HV.out, HQ.out]
    exact ⟨rfl, HB3.out.trans (HSZ.out.2 _ (Nat.le_refl _))⟩
  | true =>
    have HE1 := HES hrt
    rw [hrt] at HO
    clear HES
    by_cases hq : rowB x = r
    · rw [decide_eq_true hq] at HE1 HO
      have HQ := Lib.hid (show okA r = true from HO.out)
      have HV := Lib.hid (HD.out _ HQ.out)
      clear hrt HO HD HEN HU hq
      generalize encS x = es at *
      go_wp2
      refine bodyPost_ret (results_cell_tmpY rfl _ _ w.heap.size 42 _ (0, 0) _ _ rfl rfl HSX.out.1 Tryz.underlying42 rfl sizeAl) rfl ?_
      rw [HV.out, HQ.out]
      exact ⟨rfl, HB3.out.trans (HSX.out.2 _ (Nat.le_refl _))⟩
    · rw [decide_eq_false hq] at HE1 HO
      have HQ := Lib.hid (show okA r = false from HO.out)
      have HV := Lib.hid (HD.out _ HQ.out)
      clear hrt HO HD HEN HU hq
      generalize encS x = es at *
      go_wp2
      refine bodyPost_ret (results_cell_tmpY rfl _ _ w.heap.size 42 _ (0, 0) _ _ rfl rfl HSZ.out.1 Tryz.underlying42 rfl sizeAl) rfl ?_
      rw [HV.out, HQ.out]
      exact ⟨rfl, HB3.out.trans (HSZ.out.2 _ (Nat.le_refl _))⟩

/-! Key. -/
end Go.Proofs.YtbafmnafhaoggaaGreatDoor
