/-
  The document's answer for layer 12: Decode.
-/
import Derived.Test.YtlpjdknmnomdlaaDoorYRightR
import Derived.Test.YtlpjdknmnomdlaaDoorYBackLaw
import Derived.Deep.RegionHeld3
namespace Go.Proofs.YtlpjdknmnomdlaaDoor
open Go Go.RowKit

theorem held_shellR {P : Program} {md : Region.Mode} {ops : Array Oper} {S R : World → Prop} {Q : Exit → Act → World → Prop} {n : Nat} {l : Array Bool} {a : Act} {w : World} {aF : Act} (h1 : ∀ c (a : Act) d v w, Q (.panic c) (a.put d v) w → Q (.panic c) a w) (h2 : ∀ w, R w → Q .normal aF w)
    (h3 : ∀ K : Exit → Act → World → Prop, (∀ c (a : Act) d v w, K (.panic c) (a.put d v) w → K (.panic c) a w) → (∀ w, R w → K .normal aF w) → wpAnyH P md ops K S n l a w) : wpAnyH P md ops Q S n l a w := h3 Q h1 h2
def pT (r : ByteArray) (j : Nat) : Bool := packT (unS (getN r (1 + 8 * j) 8))
def tC (r : ByteArray) (k j : Nat) : Value := if j < k then .string (uT r j) else .string ⟨#[]⟩
def cellsT (r : ByteArray) (k : Nat) : Array Value := #[tC r k 0, tC r k 1, tC r k 2, tC r k 3, tC r k 4]
theorem cellsT_zero (r : ByteArray) : cellsT r 0 = #[.string ⟨#[]⟩, .string ⟨#[]⟩, .string ⟨#[]⟩, .string ⟨#[]⟩, .string ⟨#[]⟩] := rfl
theorem cellsT_five (r : ByteArray) : cellsT r 5 = #[.string (unA r).a, .string (unA r).b, .string (unA r).l, .string (unA r).s, .string (unA r).r] := rfl
theorem cellsT_succ (r : ByteArray) (k : Nat) (h : k < 5) : (cellsT r k).setIfInBounds k (.string (uT r k)) = cellsT r (k + 1) := by
  have h5 : k = 0 ∨ k = 1 ∨ k = 2 ∨ k = 3 ∨ k = 4 := by omega
  rcases h5 with rfl | rfl | rfl | rfl | rfl <;> rfl
theorem tC_at (r : ByteArray) (k : Nat) (h : k < 5) : (cellsT r k)[k]? = some (.string ⟨#[]⟩) := by
  have h5 : k = 0 ∨ k = 1 ∨ k = 2 ∨ k = 3 ∨ k = 4 := by omega
  rcases h5 with rfl | rfl | rfl | rfl | rfl <;> rfl
theorem okR_chain (r : ByteArray) : okR r = (decide (r.size = 41) && (pT r 0 && (pT r 1 && (pT r 2 && (pT r 3 && (pT r 4 && rightA (unA r))))))) := rfl
theorem ok_short {r : ByteArray} (h : ¬ r.size = 41) : okA r = false := by rw [okA_eq, okR_chain, decide_eq_false h]; rfl
theorem ok_part {r : ByteArray} {k : Nat} (hk : k < 5) (h : pT r k = false) : okA r = false := by
  rw [okA_eq, okR_chain]
  have h5 : k = 0 ∨ k = 1 ∨ k = 2 ∨ k = 3 ∨ k = 4 := by omega
  rcases h5 with rfl | rfl | rfl | rfl | rfl <;> rw [h] <;> simp
theorem ok_all {r : ByteArray} (h : r.size = 41) (hp : ∀ j, j < 5 → pT r j = true) : okA r = rightA (unA r) := by
  rw [okA_eq, okR_chain, decide_eq_true h, hp 0 (by decide), hp 1 (by decide), hp 2 (by decide), hp 3 (by decide), hp 4 (by decide)]
  rfl
theorem dec_zero {r : ByteArray} (h : okA r = false) : decV r = zeroA := by unfold decV; rw [h]; rfl
theorem dec_una {r : ByteArray} (h : okA r = true) : decV r = unA r := by unfold decV; rw [h]; rfl
theorem getN_first {r : ByteArray} (h : 0 < r.size) : getN r 0 1 = r[0].toNat := by
  rw [getN_in (by omega), List.drop_zero]
  have hd := num_drop 0 0 r (by omega)
  simpa [num] using hd
theorem size12G : (Tryd.prog.info? 50).map (·.size) = some 7 := by kernel_rfl
theorem store7Y {w : World} {B : Nat} {t : TypeId} {a0 a1 a2 a3 a4 a5 a6 : Value} (h : w.heap[B]? = some (.cells #[a0, a1, a2, a3, a4, a5, a6] t (0, 0))) (b0 b1 b2 b3 b4 b5 b6 : Value) :
    (((((((w.setCell ⟨B, 0, none⟩ b0).setCell ⟨B, 1, none⟩ b1).setCell ⟨B, 2, none⟩ b2).setCell ⟨B, 3, none⟩ b3).setCell ⟨B, 4, none⟩ b4).setCell ⟨B, 5, none⟩ b5).setCell ⟨B, 6, none⟩ b6).heap[B]? = some (.cells #[b0, b1, b2, b3, b4, b5, b6] t (0, 0)) ∧
    ∀ B0, B0 ≤ B → Below B0 w (((((((w.setCell ⟨B, 0, none⟩ b0).setCell ⟨B, 1, none⟩ b1).setCell ⟨B, 2, none⟩ b2).setCell ⟨B, 3, none⟩ b3).setCell ⟨B, 4, none⟩ b4).setCell ⟨B, 5, none⟩ b5).setCell ⟨B, 6, none⟩ b6) := by
  have e0 : (w.setCell ⟨B, 0, none⟩ b0).heap[B]? = some (.cells #[b0, a1, a2, a3, a4, a5, a6] t (0, 0)) := setY h b0
  have e1 : ((w.setCell ⟨B, 0, none⟩ b0).setCell ⟨B, 1, none⟩ b1).heap[B]? = some (.cells #[b0, b1, a2, a3, a4, a5, a6] t (0, 0)) := setY e0 b1
  have e2 := setY e1 (k := 2) b2
  have e3 := setY e2 (k := 3) b3
  have e4 := setY e3 (k := 4) b4
  have e5 := setY e4 (k := 5) b5
  have e6 := setY e5 (k := 6) b6
  exact ⟨e6, fun B0 hB => (((((((Below.refl B0 w).setCell (p := ⟨B, 0, none⟩) hB b0).setCell (p := ⟨B, 1, none⟩) hB b1).setCell (p := ⟨B, 2, none⟩) hB b2).setCell (p := ⟨B, 3, none⟩) hB b3).setCell (p := ⟨B, 4, none⟩) hB b4).setCell (p := ⟨B, 5, none⟩) hB b5).setCell (p := ⟨B, 6, none⟩) hB b6⟩
theorem cells7f {W : World} {B : Nat} {a b c d e f g : Value} {t : TypeId} (h : W.heap[B]? = some (.cells #[a, b, c, d, e, f, g] t (0, 0))) :
    (W.cell? ⟨B, 0, none⟩ = some a ∧ W.cell? ⟨B, 1, none⟩ = some b ∧ W.cell? ⟨B, 2, none⟩ = some c ∧ W.cell? ⟨B, 3, none⟩ = some d ∧ W.cell? ⟨B, 4, none⟩ = some e ∧ W.cell? ⟨B, 5, none⟩ = some f ∧ W.cell? ⟨B, 6, none⟩ = some g) ∧
    (W.frozen? ⟨B, 0, none⟩ = false ∧ W.frozen? ⟨B, 1, none⟩ = false ∧ W.frozen? ⟨B, 2, none⟩ = false ∧ W.frozen? ⟨B, 3, none⟩ = false ∧ W.frozen? ⟨B, 4, none⟩ = false ∧ W.frozen? ⟨B, 5, none⟩ = false ∧ W.frozen? ⟨B, 6, none⟩ = false) := by
  constructor
  · simp [World.cell?, h]
  · simp [World.frozen?, h]
theorem getR_at (r : ByteArray) (A : Int) (a : Nat) (hA : A = (a : Int)) (w : World) (hs : r.size ≤ 1048576) (ha : a + 8 ≤ r.size) : Calls Tryd.prog 30 #[.string r, .int .i64 A, .int .i64 8] w fun e w' => e = .returned (.agg #[.int .u64 ((getN r a 8 : Nat) : Int), .bool true]) ∧ Below w.heap.size w w' := by
  subst hA
  rw [getN_in ha]
  exact getR_in r a w hs ha

set_option maxRecDepth 1000000 in
set_option maxHeartbeats 16000000 in
theorem decode_ref (r : ByteArray) (w : World) (hr : r.size ≤ 1048576) :
    Calls Tryd.prog 22 #[.string r] w fun e w' => e = .returned (.agg #[.int .i64 (decV r).k, .string (decV r).a, .string (decV r).b, .string (decV r).l, .string (decV r).s, .string (decV r).r, .bool (okA r)]) ∧ Below w.heap.size w w' := by
  obtain ⟨W1, hW1⟩ : ∃ W1, w.alloc (.cells #[.int .i64 0, .string ⟨#[]⟩, .string ⟨#[]⟩, .string ⟨#[]⟩, .string ⟨#[]⟩, .string ⟨#[]⟩, .bool false] 50) = W1 := ⟨_, rfl⟩
  have hb1 : Below w.heap.size w W1 := by rw [← hW1]; exact (Below.refl _ w).alloc (Nat.le_refl _) _
  have hA : W1.heap[w.heap.size]? = some (.cells #[.int .i64 0, .string ⟨#[]⟩, .string ⟨#[]⟩, .string ⟨#[]⟩, .string ⟨#[]⟩, .string ⟨#[]⟩, .bool false] 50 (0, 0)) := by rw [← hW1]; exact World.alloc_heap_new w _
  have HA := Lib.hid (fun w' (hb : Below W1.heap.size W1 w') => (hb.block _ (lt_of_block hA)).trans hA)
  have HB1 := Lib.hid (fun w' (hb : Below W1.heap.size W1 w') => hb1.trans (hb.mono hb1.size))
  have HW1 := Lib.hid hW1
  have hl1 := lt_of_block hA
  have hZ : okA r = false → (Value.agg #[.int .i64 (decV r).k, .string (decV r).a, .string (decV r).b, .string (decV r).l, .string (decV r).s, .string (decV r).r, .bool (okA r)]) = .agg #[.int .i64 0, .string ⟨#[]⟩, .string ⟨#[]⟩, .string ⟨#[]⟩, .string ⟨#[]⟩, .string ⟨#[]⟩, .bool false] := fun h => by rw [dec_zero h, h]; rfl
  have HZ := Lib.hid hZ
  clear hA hb1 hW1 hZ
  by_cases h41 : r.size = 41
  · have HG := Lib.hid (fun (A : Int) (a : Nat) (hA : A = (a : Int)) (ha : a + 8 ≤ 41) w' => getR_at r A a hA w' hr (by omega))
    have HU := Lib.hid (fun j w' => unpackR_any (getN r (1 + 8 * j) 8) w' (getN_lt r (1 + 8 * j)))
    have hne : ((r.size : Int) != 41) = false := by rw [h41]; rfl
    have hF0 := cellsT_zero r
    have HF5 := Lib.hid (cellsT_five r)
    have HOK := Lib.hid (ok_all h41)
    have HPART := Lib.hid (fun k (hk : k < 5) => ok_part (r := r) hk)
    have h0 : 0 < r.size := by omega
    have hfst := getN_first h0
    have hby := getN_byte r
    have hwc : IntKind.i64.wrap (r[0].toNat : Int) = (r[0].toNat : Int) := IntWalk.i64_in _ ⟨by omega, by omega⟩
    have huk : (unA r).k = (r[0].toNat : Int) := by rw [← hfst]; rfl
    have HRR := Lib.hid (fun w' => right_ref (unA r) w' (unA_small r))
    clear hr hby hfst
    go_enter Tryd.func22, Tryd.ntmps22
    go_upto_region 1 with fail
    rw [HW1.out]
    clear HW1
    go_upto_region 4 with fail
    have hb2 := (Below.refl W1.heap.size W1).alloc (Nat.le_refl _) (.cells #[.string ⟨#[]⟩, .string ⟨#[]⟩, .string ⟨#[]⟩, .string ⟨#[]⟩, .string ⟨#[]⟩] 36)
    have hT2 : (W1.alloc (.cells #[.string ⟨#[]⟩, .string ⟨#[]⟩, .string ⟨#[]⟩, .string ⟨#[]⟩, .string ⟨#[]⟩] 36)).heap[W1.heap.size]? = some (.cells (cellsT r 0) 36 (0, 0)) := World.alloc_heap_new W1 _
    clear hF0
    generalize hZZ : W1.alloc (.cells #[.string ⟨#[]⟩, .string ⟨#[]⟩, .string ⟨#[]⟩, .string ⟨#[]⟩, .string ⟨#[]⟩] 36) = Z at *
    clear hZZ
    go_wp2
    go_loopw [4, 5] (fun i _ wr => ∃ k : Nat, k ≤ 5 ∧ i = .int .i64 (k : Int) ∧ wr.heap[W1.heap.size]? = some (.cells (cellsT r k) 36 (0, 0)) ∧ (∀ j, j < k → pT r j = true) ∧ Below W1.heap.size W1 wr) (fun i _ _ => 5 - (intOf i).toNat)
    case atStart => exact ⟨0, Nat.zero_le _, rfl, hT2, fun j hj => absurd hj (Nat.not_lt_zero _), hb2⟩
    case round =>
      clear hT2 hb2
      obtain ⟨k, hk, rfl, hT, hps, hR⟩ := hrel
      by_cases hlt : k < 5
      · have hlt' : (k : Int) < 5 := by omega
        have hk0 : (0 : Int) ≤ (k : Int) := by omega
        have HST := Lib.hid (cellsT_succ r k hlt)
        have HUk := Lib.hid (HU.out k)
        have HUe := Lib.hid (show uT r k = unT (getN r (1 + 8 * k) 8) from rfl)
        have HPe := Lib.hid (show pT r k = packT (unS (getN r (1 + 8 * k) 8)) from rfl)
        have HVe := Lib.hid (tC_at r k hlt)
        have hln := lt_of_block hT
        have hfi : ∀ (n : Nat) (w : World), (Instr.field 41 (.agg #[.int .u64 (n : Int), .bool true]) 0).run Tryd.prog w = .ok (.int .u64 (n : Int)) w := fun _ _ => by kernel_rfl
        cases hp : pT r k with
        | false =>
          have HE := Lib.hid (HZ.out (HPART.out k hlt hp))
          rw [HPe.out] at hp
          rw [hp] at HUk
          clear hp hps HPART HOK HF5 HPe
          go_upto_region 8 with (first
            | (go_at_call 30; refine (HG.out _ (1 + 8 * k) (by omega) (by omega) _).mono ?_; rintro e w4 ⟨rfl, hb4⟩)
            | (go_at_call 29; (with_reducible refine (HUk.out _).mono ?_); rintro e w5 ⟨rfl, hb5⟩))
          have hb5' := (hR.trans (hb4.mono hR.size)).trans (hb5.mono (Nat.le_trans hR.size hb4.size))
          have hb6 := hb5'.alloc hb5'.size (.cells #[.string (unT (getN r (1 + 8 * k) 8)), .bool false] 56)
          have hN6 := World.alloc_heap_new w5 (.cells #[.string (unT (getN r (1 + 8 * k) 8)), .bool false] 56)
          generalize hZ6 : w5.alloc (.cells #[.string (unT (getN r (1 + 8 * k) 8)), .bool false] 56) = Z6 at *
          have o1 := cellAtY hN6 1 _ rfl
          have hD := HA.out _ hb6
          have HS := Lib.hid (store7Y hD (.int .i64 0) (.string ⟨#[]⟩) (.string ⟨#[]⟩) (.string ⟨#[]⟩) (.string ⟨#[]⟩) (.string ⟨#[]⟩) (.bool false))
          obtain ⟨⟨c0, c1, c2, c3, c4, c5, c6⟩, f0, f1, f2, f3, f4, f5, f6⟩ := cells7f hD
          have HB6 := Lib.hid (HB1.out _ hb6)
          clear hZ6 hN6 hD hb6 hb5' hb4 hb5 HG HU HUk HRR hT
          go_wp2
          refine bodyPost_ret (results_cell_row rfl _ _ w.heap.size 50 _ (0, 0) _ rfl HS.out.1 Tryd.underlying50 rfl size12G) rfl ?_
          exact ⟨by rw [HE.out], HB6.out.trans (HS.out.2 _ (Nat.le_refl _))⟩
        | true =>
          rw [HPe.out] at hp
          rw [hp] at HUk
          have HPS := Lib.hid (show ∀ j, j < k + 1 → pT r j = true from fun j hj => by
            by_cases h : j < k
            · exact hps j h
            · obtain rfl : j = k := by omega
              rw [HPe.out]; exact hp)
          clear hp hps HPART HOK HF5 HPe
          go_upto_region 8 with (first
            | (go_at_call 30; refine (HG.out _ (1 + 8 * k) (by omega) (by omega) _).mono ?_; rintro e w4 ⟨rfl, hb4⟩)
            | (go_at_call 29; (with_reducible refine (HUk.out _).mono ?_); rintro e w5 ⟨rfl, hb5⟩))
          have hb5' := (hR.trans (hb4.mono hR.size)).trans (hb5.mono (Nat.le_trans hR.size hb4.size))
          have hT5 := (hb5.block _ (Nat.lt_of_lt_of_le hln hb4.size)).trans ((hb4.block _ hln).trans hT)
          have hl5 : W1.heap.size < w5.heap.size := lt_of_block hT5
          have hT6 := (Below.heap_alloc w5 (.cells #[.string (unT (getN r (1 + 8 * k) 8)), .bool true] 56) _ hl5).trans hT5
          have hb6 := hb5'.alloc hb5'.size (.cells #[.string (unT (getN r (1 + 8 * k) 8)), .bool true] 56)
          have hN6 := World.alloc_heap_new w5 (.cells #[.string (unT (getN r (1 + 8 * k) 8)), .bool true] 56)
          generalize hZ6 : w5.alloc (.cells #[.string (unT (getN r (1 + 8 * k) 8)), .bool true] 56) = Z6 at *
          have o0 := cellAtY hN6 0 _ rfl
          have o1 := cellAtY hN6 1 _ rfl
          have ot := cellAtY hT6 k _ HVe.out
          have of := frozenY hT6 k
          have HT6 := Lib.hid hT6
          have HB6 := Lib.hid hb6
          clear hZ6 hN6 hb6 hb5' hb4 hb5 HG HU HUk HRR hT hT5 hT6
          go_wp2
          go_roundw
          case rel => exact ⟨k + 1, by omega, by go_num, (setY HT6.out _).trans (by rw [← HUe.out, HST.out]), HPS.out, HB6.out.setCell (p := ⟨W1.heap.size, k, none⟩) (Nat.le_refl _) _⟩
          case measure => simp [intOf]; omega
      · obtain rfl : k = 5 := by omega
        have HOA := Lib.hid (HOK.out hps)
        rw [HF5.out] at hT
        rw [huk] at HRR
        obtain ⟨⟨c0, c1, c2, c3, c4⟩, -⟩ := cells5 hT
        clear hps hT HPART HOK HF5 HG HU hk hlt
        obtain ⟨x, hx⟩ : ∃ x, unA r = x := ⟨_, rfl⟩
        rw [hx] at HRR huk c0 c1 c2 c3 c4
        have HX := Lib.hid hx
        have hb7 := hR.alloc hR.size (.cells #[.int .i64 (r[0].toNat : Int), .string x.a, .string x.b, .string x.l, .string x.s, .string x.r] 28)
        have HUK := Lib.hid huk
        have HB7 := Lib.hid hb7
        have HR7 := Lib.hid hR
        clear hx huk hb7 hR hl1 hne
        obtain ⟨rt, hrt⟩ : ∃ rt, rightA x = rt := ⟨_, rfl⟩
        rw [hrt] at HRR
        have HRT := Lib.hid hrt
        clear hrt
        go_upto_region 11 with fail
        have HC := Lib.hid (fun w' (hb : Below wr.heap.size wr w') => (show Below wr.heap.size wr w' ∧ (w'.cell? ⟨W1.heap.size, 0, none⟩ = some (.string x.a) ∧ w'.cell? ⟨W1.heap.size, 1, none⟩ = some (.string x.b) ∧ w'.cell? ⟨W1.heap.size, 2, none⟩ = some (.string x.l) ∧ w'.cell? ⟨W1.heap.size, 3, none⟩ = some (.string x.s) ∧ w'.cell? ⟨W1.heap.size, 4, none⟩ = some (.string x.r)) from ⟨hb, (hb.cell (p := ⟨W1.heap.size, 0, none⟩) (World.block_lt_of_cell? _ _ c0)).trans c0, (hb.cell (p := ⟨W1.heap.size, 1, none⟩) (World.block_lt_of_cell? _ _ c1)).trans c1, (hb.cell (p := ⟨W1.heap.size, 2, none⟩) (World.block_lt_of_cell? _ _ c2)).trans c2, (hb.cell (p := ⟨W1.heap.size, 3, none⟩) (World.block_lt_of_cell? _ _ c3)).trans c3, (hb.cell (p := ⟨W1.heap.size, 4, none⟩) (World.block_lt_of_cell? _ _ c4)).trans c4⟩))
        clear c0 c1 c2 c3 c4
        refine wp_region_held_drew (S := fun w' => Below wr.heap.size wr w' ∧ (w'.cell? ⟨W1.heap.size, 0, none⟩ = some (.string x.a) ∧ w'.cell? ⟨W1.heap.size, 1, none⟩ = some (.string x.b) ∧ w'.cell? ⟨W1.heap.size, 2, none⟩ = some (.string x.l) ∧ w'.cell? ⟨W1.heap.size, 3, none⟩ = some (.string x.s) ∧ w'.cell? ⟨W1.heap.size, 4, none⟩ = some (.string x.r))) (by kernel_rfl) (HC.out _ (Below.drew (Below.refl _ _))) (fun hHeld => ?_)
        apply held_shellR (R := fun w' => Below wr.heap.size wr w' ∧ w'.heap[wr.heap.size]? = some (.cells #[.int .i64 (r[0].toNat : Int), .string x.a, .string x.b, .string x.l, .string x.s, .string x.r] 28 (0, 0)))
        exact fun _ _ d _ _ h => by cases d <;> exact h
        rotate_left 1
        intro KK hKp hfin
        refine wpAnyH_take (i := 0) (v := .string r) rfl (by kernel_rfl) (by kernel_rfl) (by kernel_rfl) (fun c a w h => hKp c a _ _ w h) (Or.inl ⟨by kernel_rfl, fun w hSw => by dsimp only at hSw; obtain ⟨-, g0, g1, g2, g3, g4⟩ := hSw; go_simp⟩) (by assumption) ?_
        simp only [Act.put, List.getElem_toArray, List.getElem_cons_zero, List.setIfInBounds_toArray, List.set_cons_zero, List.set_cons_succ]
        refine wpAnyH_take (i := 1) (v := .int .u8 (r[0].toNat : Int)) rfl (by kernel_rfl) (by kernel_rfl) (by kernel_rfl) (fun c a w h => hKp c a _ _ w h) (Or.inl ⟨by kernel_rfl, fun w hSw => by dsimp only at hSw; obtain ⟨-, g0, g1, g2, g3, g4⟩ := hSw; go_simp⟩) (by assumption) ?_
        simp only [Act.put, List.getElem_toArray, List.getElem_cons_zero, List.getElem_cons_succ, List.setIfInBounds_toArray, List.set_cons_zero, List.set_cons_succ]
        refine wpAnyH_take (i := 2) (v := .int .i64 (r[0].toNat : Int)) rfl (by kernel_rfl) (by kernel_rfl) (by kernel_rfl) (fun c a w h => hKp c a _ _ w h) (Or.inl ⟨by kernel_rfl, fun w hSw => by dsimp only at hSw; obtain ⟨-, g0, g1, g2, g3, g4⟩ := hSw; go_simp⟩) (by assumption) ?_
        simp only [Act.put, List.getElem_toArray, List.getElem_cons_zero, List.getElem_cons_succ, List.setIfInBounds_toArray, List.set_cons_zero, List.set_cons_succ]
        refine wpAnyH_take (i := 3) (v := .pointer (some ⟨W1.heap.size, 0, none⟩)) rfl (by kernel_rfl) (by kernel_rfl) (by kernel_rfl) (fun c a w h => hKp c a _ _ w h) (Or.inl ⟨by kernel_rfl, fun w hSw => by dsimp only at hSw; obtain ⟨-, g0, g1, g2, g3, g4⟩ := hSw; go_simp⟩) (by assumption) ?_
        simp only [Act.put, List.getElem_toArray, List.getElem_cons_zero, List.getElem_cons_succ, List.setIfInBounds_toArray, List.set_cons_zero, List.set_cons_succ]
        refine wpAnyH_take (i := 4) (v := .string x.a) rfl (by kernel_rfl) (by kernel_rfl) (by kernel_rfl) (fun c a w h => hKp c a _ _ w h) (Or.inl ⟨by kernel_rfl, fun w hSw => by dsimp only at hSw; obtain ⟨-, g0, g1, g2, g3, g4⟩ := hSw; go_simp⟩) (by assumption) ?_
        simp only [Act.put, List.getElem_toArray, List.getElem_cons_zero, List.getElem_cons_succ, List.setIfInBounds_toArray, List.set_cons_zero, List.set_cons_succ]
        refine wpAnyH_take (i := 5) (v := .pointer (some ⟨W1.heap.size, 1, none⟩)) rfl (by kernel_rfl) (by kernel_rfl) (by kernel_rfl) (fun c a w h => hKp c a _ _ w h) (Or.inl ⟨by kernel_rfl, fun w hSw => by dsimp only at hSw; obtain ⟨-, g0, g1, g2, g3, g4⟩ := hSw; go_simp⟩) (by assumption) ?_
        simp only [Act.put, List.getElem_toArray, List.getElem_cons_zero, List.getElem_cons_succ, List.setIfInBounds_toArray, List.set_cons_zero, List.set_cons_succ]
        refine wpAnyH_take (i := 6) (v := .string x.b) rfl (by kernel_rfl) (by kernel_rfl) (by kernel_rfl) (fun c a w h => hKp c a _ _ w h) (Or.inl ⟨by kernel_rfl, fun w hSw => by dsimp only at hSw; obtain ⟨-, g0, g1, g2, g3, g4⟩ := hSw; go_simp⟩) (by assumption) ?_
        simp only [Act.put, List.getElem_toArray, List.getElem_cons_zero, List.getElem_cons_succ, List.setIfInBounds_toArray, List.set_cons_zero, List.set_cons_succ]
        refine wpAnyH_take (i := 7) (v := .pointer (some ⟨W1.heap.size, 2, none⟩)) rfl (by kernel_rfl) (by kernel_rfl) (by kernel_rfl) (fun c a w h => hKp c a _ _ w h) (Or.inl ⟨by kernel_rfl, fun w hSw => by dsimp only at hSw; obtain ⟨-, g0, g1, g2, g3, g4⟩ := hSw; go_simp⟩) (by assumption) ?_
        simp only [Act.put, List.getElem_toArray, List.getElem_cons_zero, List.getElem_cons_succ, List.setIfInBounds_toArray, List.set_cons_zero, List.set_cons_succ]
        refine wpAnyH_take (i := 8) (v := .string x.l) rfl (by kernel_rfl) (by kernel_rfl) (by kernel_rfl) (fun c a w h => hKp c a _ _ w h) (Or.inl ⟨by kernel_rfl, fun w hSw => by dsimp only at hSw; obtain ⟨-, g0, g1, g2, g3, g4⟩ := hSw; go_simp⟩) (by assumption) ?_
        simp only [Act.put, List.getElem_toArray, List.getElem_cons_zero, List.getElem_cons_succ, List.setIfInBounds_toArray, List.set_cons_zero, List.set_cons_succ]
        refine wpAnyH_take (i := 9) (v := .pointer (some ⟨W1.heap.size, 3, none⟩)) rfl (by kernel_rfl) (by kernel_rfl) (by kernel_rfl) (fun c a w h => hKp c a _ _ w h) (Or.inl ⟨by kernel_rfl, fun w hSw => by dsimp only at hSw; obtain ⟨-, g0, g1, g2, g3, g4⟩ := hSw; go_simp⟩) (by assumption) ?_
        simp only [Act.put, List.getElem_toArray, List.getElem_cons_zero, List.getElem_cons_succ, List.setIfInBounds_toArray, List.set_cons_zero, List.set_cons_succ]
        refine wpAnyH_take (i := 10) (v := .string x.s) rfl (by kernel_rfl) (by kernel_rfl) (by kernel_rfl) (fun c a w h => hKp c a _ _ w h) (Or.inl ⟨by kernel_rfl, fun w hSw => by dsimp only at hSw; obtain ⟨-, g0, g1, g2, g3, g4⟩ := hSw; go_simp⟩) (by assumption) ?_
        simp only [Act.put, List.getElem_toArray, List.getElem_cons_zero, List.getElem_cons_succ, List.setIfInBounds_toArray, List.set_cons_zero, List.set_cons_succ]
        refine wpAnyH_take (i := 11) (v := .pointer (some ⟨W1.heap.size, 4, none⟩)) rfl (by kernel_rfl) (by kernel_rfl) (by kernel_rfl) (fun c a w h => hKp c a _ _ w h) (Or.inl ⟨by kernel_rfl, fun w hSw => by dsimp only at hSw; obtain ⟨-, g0, g1, g2, g3, g4⟩ := hSw; go_simp⟩) (by assumption) ?_
        simp only [Act.put, List.getElem_toArray, List.getElem_cons_zero, List.getElem_cons_succ, List.setIfInBounds_toArray, List.set_cons_zero, List.set_cons_succ]
        refine wpAnyH_take (i := 12) (v := .string x.r) rfl (by kernel_rfl) (by kernel_rfl) (by kernel_rfl) (fun c a w h => hKp c a _ _ w h) (Or.inl ⟨by kernel_rfl, fun w hSw => by dsimp only at hSw; obtain ⟨-, g0, g1, g2, g3, g4⟩ := hSw; go_simp⟩) (by assumption) ?_
        simp only [Act.put, List.getElem_toArray, List.getElem_cons_zero, List.getElem_cons_succ, List.setIfInBounds_toArray, List.set_cons_zero, List.set_cons_succ]
        refine wpAnyH_take (i := 13) (v := .agg #[.int .i64 (r[0].toNat : Int), .string x.a, .string x.b, .string x.l, .string x.s, .string x.r]) rfl (by kernel_rfl) (by kernel_rfl) (by kernel_rfl) (fun c a w h => hKp c a _ _ w h) (Or.inl ⟨by kernel_rfl, fun w hSw => by dsimp only at hSw; obtain ⟨-, g0, g1, g2, g3, g4⟩ := hSw; go_simp⟩) (by assumption) ?_
        simp only [Act.put, List.getElem_toArray, List.getElem_cons_zero, List.getElem_cons_succ, List.setIfInBounds_toArray, List.set_cons_zero, List.set_cons_succ]
        refine wpAnyH_ready (rs := [14]) (by kernel_rfl) (by simp) ?_
        refine AllReadyH.cons rfl (fun Kx hKx => ?_) AllReadyH.nil
        rw [if_pos (by kernel_rfl)]
        go_simp
        refine hKx.out _ _ (HC.out _ ((Below.drew (Below.refl _ _)).alloc (Nat.le_refl _) _)) (fun hHeld => ?_)
        clear hKx Kx
        try simp only [Act.put, List.getElem_toArray, List.getElem_cons_zero, List.getElem_cons_succ, List.setIfInBounds_toArray, List.set_cons_zero, List.set_cons_succ]
        refine wpAnyH_ready (rs := [15]) (by kernel_rfl) (by simp) ?_
        refine AllReadyH.cons rfl (fun Kx hKx => ?_) AllReadyH.nil
        rw [if_pos (by kernel_rfl)]
        go_simp
        refine hKx.out _ _ (HC.out _ ((Below.drew (Below.refl _ _)).alloc (Nat.le_refl _) _)) (fun hHeld => ?_)
        clear hKx Kx
        try simp only [Act.put, List.getElem_toArray, List.getElem_cons_zero, List.getElem_cons_succ, List.setIfInBounds_toArray, List.set_cons_zero, List.set_cons_succ]
        refine wpAnyH_done (by kernel_rfl) ?_ _
        exact hfin _ ⟨hHeld.1, World.alloc_heap_new _ _⟩
        intro Z9 hS9
        rcases hS9 with ⟨hb9a, hN9⟩
        have hb9 : Below W1.heap.size W1 Z9 := HR7.out.trans (hb9a.mono HR7.out.size)
        clear hb9a HC HB7
        go_upto_region 12 with fail
        obtain ⟨a0, a1, a2, a3, a4, a5⟩ := cells6 hN9
        go_upto_region 13 with (go_at_call 31; (with_reducible refine (HRR.out _).mono ?_); rintro e w10 ⟨rfl, hb10⟩)
        clear a0 a1 a2 a3 a4 a5
        obtain ⟨a0, a1, a2, a3, a4, a5⟩ := cells6 ((hb10.block _ (lt_of_block hN9)).trans hN9)
        have hb11 := hb9.trans (hb10.mono hb9.size)
        have hD := HA.out _ hb11
        obtain ⟨⟨c0, c1, c2, c3, c4, c5, c6⟩, f0, f1, f2, f3, f4, f5, f6⟩ := cells7f hD
        have HB11 := Lib.hid (HB1.out _ hb11)
        have HS0 := Lib.hid (store7Y hD (.int .i64 0) (.string ⟨#[]⟩) (.string ⟨#[]⟩) (.string ⟨#[]⟩) (.string ⟨#[]⟩) (.string ⟨#[]⟩) (.bool false))
        have HS1 := Lib.hid (store7Y hD (.int .i64 (r[0].toNat : Int)) (.string x.a) (.string x.b) (.string x.l) (.string x.s) (.string x.r) (.bool true))
        have HDU := Lib.hid (fun h : okA r = true => (dec_una h).trans HX.out)
        have HO := Lib.hid (show okA r = rt by rw [HOA.out, HX.out, HRT.out])
        clear hD hb11 hb10 hb9 hN9 HA HB1 HOA HRT HRR
        cases rt with
        | false =>
          have HE := Lib.hid (HZ.out HO.out)
          clear HS1 HDU HZ
          go_wp2
          refine bodyPost_ret (results_cell_row rfl _ _ w.heap.size 50 _ (0, 0) _ rfl HS0.out.1 Tryd.underlying50 rfl size12G) rfl ?_
          exact ⟨by rw [HE.out], HB11.out.trans (HS0.out.2 _ (Nat.le_refl _))⟩
        | true =>
          have HE := Lib.hid (HDU.out HO.out)
          clear HS0 HDU HZ
          go_wp2
          refine bodyPost_ret (results_cell_row rfl _ _ w.heap.size 50 _ (0, 0) _ rfl HS1.out.1 Tryd.underlying50 rfl size12G) rfl ?_
          exact ⟨by rw [HE.out, HO.out, HUK.out], HB11.out.trans (HS1.out.2 _ (Nat.le_refl _))⟩
  · have hne : ((r.size : Int) != 41) = true := by simp; omega
    have HE := Lib.hid (HZ.out (ok_short h41))
    obtain ⟨⟨c0, c1, c2, c3, c4, c5, c6⟩, f0, f1, f2, f3, f4, f5, f6⟩ := cells7f (HA.out _ (Below.refl _ _))
    have HS := Lib.hid (store7Y (HA.out _ (Below.refl _ _)) (.int .i64 0) (.string ⟨#[]⟩) (.string ⟨#[]⟩) (.string ⟨#[]⟩) (.string ⟨#[]⟩) (.string ⟨#[]⟩) (.bool false))
    clear h41 hr
    go_enter Tryd.func22, Tryd.ntmps22
    go_upto_region 1 with fail
    rw [HW1.out]
    clear HW1
    go_wp2
    refine bodyPost_ret (results_cell_row rfl _ _ w.heap.size 50 _ (0, 0) _ rfl HS.out.1 Tryd.underlying50 rfl size12G) rfl ?_
    exact ⟨by rw [HE.out], (HB1.out _ (Below.refl _ _)).trans (HS.out.2 _ (Nat.le_refl _))⟩
end Go.Proofs.YtlpjdknmnomdlaaDoor
