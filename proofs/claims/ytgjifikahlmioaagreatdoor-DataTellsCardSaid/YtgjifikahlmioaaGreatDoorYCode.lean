/-
  Package alias: unpacked, Encode, Decode, Key.
-/
import Derived.Test.YtgjifikahlmioaaGreatDoorYRights
namespace Go.Proofs.YtgjifikahlmioaaGreatDoor
open Go Go.RowKit

/-! pack.Get beyond the text's end. -/
/-! unpacked. -/
def uT (r : ByteArray) (j : Nat) : ByteArray := unT (getN r (1 + 8 * j) 8)
def uC (r : ByteArray) (k j : Nat) : Value := if j < k then .string (uT r j) else .string ⟨#[]⟩
def cellsU (r : ByteArray) (k : Nat) : Array Value := #[.int .i64 ((getN r 0 1 : Nat) : Int), uC r k 0, uC r k 1, uC r k 2, uC r k 3, uC r k 4]
theorem cellsU_zero (r : ByteArray) : cellsU r 0 = #[.int .i64 ((getN r 0 1 : Nat) : Int), .string ⟨#[]⟩, .string ⟨#[]⟩, .string ⟨#[]⟩, .string ⟨#[]⟩, .string ⟨#[]⟩] := rfl
theorem cellsU_five (r : ByteArray) : cellsU r 5 = #[.int .i64 (unA r).k, .string (unA r).a, .string (unA r).b, .string (unA r).l, .string (unA r).s, .string (unA r).r] := rfl
theorem cellsU_succ (r : ByteArray) (k : Nat) (h : k < 5) : (cellsU r k).setIfInBounds (k + 1) (.string (uT r k)) = cellsU r (k + 1) := by
  have h5 : k = 0 ∨ k = 1 ∨ k = 2 ∨ k = 3 ∨ k = 4 := by omega
  rcases h5 with rfl | rfl | rfl | rfl | rfl <;> rfl
theorem getN_byte (r : ByteArray) : getN r 0 1 < 256 := by
  unfold getN
  split
  · exact num_lt 1 _
  · decide
theorem sizeAl : (Tryz.prog.info? 47).map (·.size) = some 6 := by kernel_rfl

theorem frozenY {W : World} {g : Nat} {cs : Array Value} {t : TypeId} (h : W.heap[g]? = some (.cells cs t (0, 0))) (k : Nat) : W.frozen? ⟨g, k, none⟩ = false := by
  simp [World.frozen?, h]
theorem cellAtY {W : World} {g : Nat} {cs : Array Value} {t : TypeId} (h : W.heap[g]? = some (.cells cs t (0, 0))) (k : Nat) (v : Value) (hv : cs[k]? = some v) : W.cell? ⟨g, k, none⟩ = some v := by
  rw [← hv]; simp [World.cell?, h]
theorem al_store {w : World} {B : Nat} {t : TypeId} {a0 a1 a2 a3 a4 a5 : Value} (h : w.heap[B]? = some (.cells #[a0, a1, a2, a3, a4, a5] t (0, 0))) (b0 b1 b2 b3 b4 b5 : Value) :
    ((((((w.setCell ⟨B, 0, none⟩ b0).setCell ⟨B, 1, none⟩ b1).setCell ⟨B, 2, none⟩ b2).setCell ⟨B, 3, none⟩ b3).setCell ⟨B, 4, none⟩ b4).setCell ⟨B, 5, none⟩ b5).heap[B]? = some (.cells #[b0, b1, b2, b3, b4, b5] t (0, 0)) ∧
    ∀ B0, B0 ≤ B → Below B0 w ((((((w.setCell ⟨B, 0, none⟩ b0).setCell ⟨B, 1, none⟩ b1).setCell ⟨B, 2, none⟩ b2).setCell ⟨B, 3, none⟩ b3).setCell ⟨B, 4, none⟩ b4).setCell ⟨B, 5, none⟩ b5) := by
  have e0 : (w.setCell ⟨B, 0, none⟩ b0).heap[B]? = some (.cells #[b0, a1, a2, a3, a4, a5] t (0, 0)) := setY h b0
  have e1 : ((w.setCell ⟨B, 0, none⟩ b0).setCell ⟨B, 1, none⟩ b1).heap[B]? = some (.cells #[b0, b1, a2, a3, a4, a5] t (0, 0)) := setY e0 b1
  have e2 : (((w.setCell ⟨B, 0, none⟩ b0).setCell ⟨B, 1, none⟩ b1).setCell ⟨B, 2, none⟩ b2).heap[B]? = some (.cells #[b0, b1, b2, a3, a4, a5] t (0, 0)) := setY e1 b2
  have e3 : ((((w.setCell ⟨B, 0, none⟩ b0).setCell ⟨B, 1, none⟩ b1).setCell ⟨B, 2, none⟩ b2).setCell ⟨B, 3, none⟩ b3).heap[B]? = some (.cells #[b0, b1, b2, b3, a4, a5] t (0, 0)) := setY e2 b3
  have e4 : (((((w.setCell ⟨B, 0, none⟩ b0).setCell ⟨B, 1, none⟩ b1).setCell ⟨B, 2, none⟩ b2).setCell ⟨B, 3, none⟩ b3).setCell ⟨B, 4, none⟩ b4).heap[B]? = some (.cells #[b0, b1, b2, b3, b4, a5] t (0, 0)) := setY e3 b4
  have e5 : ((((((w.setCell ⟨B, 0, none⟩ b0).setCell ⟨B, 1, none⟩ b1).setCell ⟨B, 2, none⟩ b2).setCell ⟨B, 3, none⟩ b3).setCell ⟨B, 4, none⟩ b4).setCell ⟨B, 5, none⟩ b5).heap[B]? = some (.cells #[b0, b1, b2, b3, b4, b5] t (0, 0)) := setY e4 b5
  exact ⟨e5, fun B0 hB => ((((((Below.refl B0 w).setCell (p := ⟨B, 0, none⟩) hB b0).setCell (p := ⟨B, 1, none⟩) hB b1).setCell (p := ⟨B, 2, none⟩) hB b2).setCell (p := ⟨B, 3, none⟩) hB b3).setCell (p := ⟨B, 4, none⟩) hB b4).setCell (p := ⟨B, 5, none⟩) hB b5⟩
theorem al_cells {W : World} {B : Nat} {a b c d e f : Value} {t : TypeId} (h : W.heap[B]? = some (.cells #[a, b, c, d, e, f] t (0, 0))) :
    (W.cell? ⟨B, 0, none⟩ = some a ∧ W.cell? ⟨B, 1, none⟩ = some b ∧ W.cell? ⟨B, 2, none⟩ = some c ∧ W.cell? ⟨B, 3, none⟩ = some d ∧ W.cell? ⟨B, 4, none⟩ = some e ∧ W.cell? ⟨B, 5, none⟩ = some f) ∧
    (W.frozen? ⟨B, 0, none⟩ = false ∧ W.frozen? ⟨B, 1, none⟩ = false ∧ W.frozen? ⟨B, 2, none⟩ = false ∧ W.frozen? ⟨B, 3, none⟩ = false ∧ W.frozen? ⟨B, 4, none⟩ = false ∧ W.frozen? ⟨B, 5, none⟩ = false) := by
  constructor
  · exact cells6 h
  · simp [World.frozen?, h]
theorem uC_at (r : ByteArray) (k : Nat) (h : k < 5) : (cellsU r k)[k + 1]? = some (.string ⟨#[]⟩) := by
  have h5 : k = 0 ∨ k = 1 ∨ k = 2 ∨ k = 3 ∨ k = 4 := by omega
  rcases h5 with rfl | rfl | rfl | rfl | rfl <;> rfl

/-! Encode, Decode, Key. -/
def encS (x : Al) : ByteArray := if rightA x then rowB x else ⟨#[]⟩
set_option maxRecDepth 100000 in
set_option maxHeartbeats 4000000 in
theorem encode_al (x : Al) (w : World) (hx : AlS x) (hg : GL w) :
    Calls Tryz.prog 59 #[.agg #[.int .i64 x.k, .string x.a, .string x.b, .string x.l, .string x.s, .string x.r]] w fun e w' => e = .returned (.tuple #[.string (encS x), .bool (rightA x)]) ∧ Below w.heap.size w w' := by
  have hgs := hg.size
  obtain ⟨W1, hW1⟩ : ∃ W1, w.alloc (.cells #[.int .i64 x.k, .string x.a, .string x.b, .string x.l, .string x.s, .string x.r] 47) = W1 := ⟨_, rfl⟩
  have hb1 : Below w.heap.size w W1 := by rw [← hW1]; exact (Below.refl _ w).alloc (Nat.le_refl _) _
  have hA : W1.heap[w.heap.size]? = some (.cells #[.int .i64 x.k, .string x.a, .string x.b, .string x.l, .string x.s, .string x.r] 47 (0, 0)) := by rw [← hW1]; exact World.alloc_heap_new w _
  have hc6 := Lib.hid (fun w' (hb : Below W1.heap.size W1 w') => cells6 ((hb.block _ (lt_of_block hA)).trans hA))
  have hB0 := Lib.hid (fun w' (hb : Below W1.heap.size W1 w') => hb1.trans (hb.mono hb1.size))
  have HR := Lib.hid (right_al x W1 hx (hg.below hb1 hgs))
  have c0 := cells6 hA
  cases hr : rightA x with
  | false =>
    have HE := Lib.hid (show encS x = ⟨#[]⟩ by unfold encS; rw [hr]; rfl)
    rw [hr] at HR
    clear hr hA hb1 hx hg
    obtain ⟨a0, a1, a2, a3, a4, a5⟩ := c0
    go_enter Tryz.func59, Tryz.ntmps59
    go_upto_region 1 with fail
    clear hW1
    go_wp2_with (go_at_call 95; (with_reducible refine HR.out.mono ?_); rintro e w5 ⟨rfl, hb5⟩)
    go_ret2
    rw [HE.out]
    exact ⟨rfl, hB0.out _ hb5⟩
  | true =>
    have hk := right_kind hr
    have hp := okP_right hr
    have HE := Lib.hid (show encS x = rowB x by unfold encS; rw [hr]; rfl)
    have HP := Lib.hid (fun w' (hb : Below W1.heap.size W1 w') => (packed_al x w' (alZ_of hx ⟨by omega, by omega⟩)).mono (R' := fun e w'' => e = .returned (.tuple #[.string (rowB x), .bool true]) ∧ Below W1.heap.size W1 w'') fun e w'' ⟨p, q⟩ => ⟨by rw [p]; unfold packS; rw [hp]; rfl, hb.trans (q.mono hb.size)⟩)
    rw [hr] at HR
    clear hr hA hb1 hx hg hp hk
    obtain ⟨a0, a1, a2, a3, a4, a5⟩ := c0
    go_enter Tryz.func59, Tryz.ntmps59
    go_upto_region 1 with fail
    clear hW1
    go_wp2_with (first
      | (go_at_call 95; (with_reducible refine HR.out.mono ?_); rintro e w5 ⟨rfl, hb5⟩; obtain ⟨e0, e1, e2, e3, e4, e5⟩ := hc6.out _ hb5)
      | (go_at_call 96; (with_reducible refine (HP.out _ hb5).mono ?_); rintro e w6 ⟨rfl, hb6⟩))
    go_ret2
    rw [HE.out]
    exact ⟨rfl, hB0.out _ hb6⟩

theorem unA_small (r : ByteArray) : AlS (unA r) := by
  have hb := getN_byte r
  refine ⟨?_, Nat.le_trans (size_unT _) (by decide), Nat.le_trans (size_unT _) (by decide), Nat.le_trans (size_unT _) (by decide), Nat.le_trans (size_unT _) (by decide), Nat.le_trans (size_unT _) (by decide)⟩
  show (Lit.int .i64 ((getN r 0 1 : Nat) : Int)).wf = true
  unfold Lit.wf
  rw [Bool.and_eq_true, decide_eq_true_iff, decide_eq_true_iff]
  have h1 : IntKind.min .i64 = -9223372036854775808 := by decide
  have h2 : IntKind.max .i64 = 9223372036854775807 := by decide
  omega
theorem encS_unA (r : ByteArray) (h : rightA (unA r) = true) : ((encS (unA r)).toList == r.toList) = decide (rowB (unA r) = r) := by
  unfold encS
  rw [if_pos h, same_bool]

theorem results_cell_tmpY {P : Program} {fn : Func} {p q : Tmp} {ty : TypeId} (h : fn.results = #[.cell p ty, .tmp q]) (tmps : Array Value) (w : World) (g : Nat) (t : TypeId) (cs : Array Value) (fr : Nat × Nat) (d : TypeDesc) (v : Value)
    (hp : tmps.getD p undef = .pointer (some ⟨g, 0, none⟩)) (hv : tmps.getD q undef = v) (hg : w.heap[g]? = some (.cells cs t fr))
    (hu : P.underlying ty = some d) (hd : (match d with | .struct _ | .array _ _ => true | _ => false) = true) (hi : (P.info? ty).map (·.size) = some cs.size) :
    (results fn tmps).run P w = .ok (.tuple #[.agg cs, v]) w := by
  have hp' : tmps[p]?.getD undef = .pointer (some ⟨g, 0, none⟩) := by simpa using hp
  have hv' : tmps[q]?.getD undef = v := by simpa using hv
  simp [results, h, hp', hv', asAddr, run_loadVar_row w g t ty cs fr d hg hu hd hi]
/-! Key. -/
def keyAl (k : Int) (a b : ByteArray) : Al := ⟨k, a, b, ⟨#[]⟩, ⟨#[]⟩, ⟨#[]⟩⟩
def keyOk (k : Int) (a b : ByteArray) : Bool := decide (1 ≤ k ∧ k ≤ 7) && (packT (lowS a) && packT (lowS b))
def keyS (k : Int) (a b : ByteArray) : ByteArray := if keyOk k a b then ofL (keyL (keyAl k a b)) else ⟨#[]⟩
theorem okP_key (k : Int) (a b : ByteArray) : okP (keyAl k a b) = (packT (lowS a) && packT (lowS b)) := by
  have h0 : packT (lowS ⟨#[]⟩) = true := by decide
  unfold okP okUp txs keyAl
  simp only [List.take_succ_cons, List.take_zero, List.all_cons, List.all_nil, Bool.and_true]
  rw [h0]; simp
end Go.Proofs.YtgjifikahlmioaaGreatDoor
