/-
  image.Decode: what the next things are; so many things.
-/
import Derived.Test.YtbafmnafhaoggaaGreatDoorODFill
import Derived.Test.YtbafmnafhaoggaaGreatDoorZLik
import Derived.Deep.RegionHeld3
namespace Go.Proofs.YtbafmnafhaoggaaGreatDoor
open Go Go.RowKit

theorem RdZ.low {W w' : World} {R T p B : Nat} {b : ByteArray} (h : RdZ W R T b p) (hb : Below B W w') (h1 : R < B) (h2 : T < B) : RdZ w' R T b p :=
  ⟨(hb.block _ h1).trans h.rd, (hb.block _ h2).trans h.bx, h.ne, h.sz⟩
theorem RdZ.grown {W w' : World} {R T p B : Nat} {b : ByteArray} {row : Option Nat} (h : RdZ W R T b p) (hg : W.grownBy w' row) (hr : ∀ g, row = some g → B ≤ g) (h1 : R < B) (h2 : T < B) : RdZ w' R T b p :=
  ⟨(hg.block _ (lt_of_block h.rd) (fun e => by have := hr _ e.symm; omega)).trans h.rd, (hg.block _ (lt_of_block h.bx) (fun e => by have := hr _ e.symm; omega)).trans h.bx, h.ne, h.sz⟩
theorem RdZ.box {W : World} {R T p : Nat} {b : ByteArray} (h : RdZ W R T b p) : W.cell? ⟨T, 0, none⟩ = some (takeV R) := cell_of_one h.bx
theorem grown_lowR {W w w' : World} {R : Nat} (hg : W.grownBy w (some R)) (hb : Below W.heap.size w w') : W.grownBy w' (some R) :=
  ⟨hb.os.trans hg.os, hb.tape.trans hg.tape, hb.output.trans hg.output, Nat.le_trans hg.size hb.size, fun k hk hne => (hb.block k hk).trans (hg.block k hk hne)⟩
theorem grown_rowR {W w w' : World} {R : Nat} {row : Option Nat} (hg : W.grownBy w (some R)) (hb : w.grownBy w' row) (hr : ∀ g, row = some g → W.heap.size ≤ g) : W.grownBy w' (some R) :=
  ⟨hb.os.trans hg.os, hb.tape.trans hg.tape, hb.output.trans hg.output, Nat.le_trans hg.size hb.size, fun k hk hne => (hb.block k (Nat.lt_of_lt_of_le hk hg.size) (fun e => by have := hr _ e.symm; omega)).trans (hg.block k hk hne)⟩
theorem grown_transR {W w w' : World} {R : Nat} (hg : W.grownBy w (some R)) (hb : w.grownBy w' (some R)) : W.grownBy w' (some R) :=
  ⟨hb.os.trans hg.os, hb.tape.trans hg.tape, hb.output.trans hg.output, Nat.le_trans hg.size hb.size, fun k hk hne => (hb.block k (Nat.lt_of_lt_of_le hk hg.size) hne).trans (hg.block k hk hne)⟩
theorem grown_belR {W w : World} {R : Nat} (hb : Below W.heap.size W w) : W.grownBy w (some R) := ⟨hb.os, hb.tape, hb.output, hb.size, fun k hk _ => hb.block k hk⟩
theorem grown_of2 {W w w' : World} {R : Nat} (hb : Below W.heap.size W w) (h : Gr2 w w' R W.heap.size) : W.grownBy w' (some R) :=
  ⟨h.os.trans hb.os, h.tape.trans hb.tape, h.output.trans hb.output, Nat.le_trans hb.size h.size, fun k hk hne => (h.block k (Nat.lt_of_lt_of_le hk hb.size) (fun e => hne (by rw [e])) (by omega)).trans (hb.block k hk)⟩
theorem own_keptR {w w' : World} {base e sz n R : Nat} {v : Value} {xs : List Value} (h : w.ownsRow base e sz v n xs) (hg : w.grownBy w' (some R)) (hR : R < base) : w'.ownsRow base e sz v n xs :=
  h.kept hg (by
    cases hv : v.ownBlock with
    | none => exact .inl rfl
    | some g => exact .inr (fun e => by have := (h.lt g hv).1; have e' := Option.some.inj e; omega))
theorem mb_storeD {w : World} {B : Nat} {t : TypeId} {a0 a1 : Value} (h : w.heap[B]? = some (.cells #[a0, a1] t (0, 0))) (b0 b1 : Value) :
    ((w.setCell ⟨B, 0, none⟩ b0).setCell ⟨B, 1, none⟩ b1).heap[B]? = some (.cells #[b0, b1] t (0, 0)) ∧ ∀ B0, B0 ≤ B → Below B0 w ((w.setCell ⟨B, 0, none⟩ b0).setCell ⟨B, 1, none⟩ b1) := by
  have e0 : (w.setCell ⟨B, 0, none⟩ b0).heap[B]? = some (.cells #[b0, a1] t (0, 0)) := setY h b0
  have e1 : ((w.setCell ⟨B, 0, none⟩ b0).setCell ⟨B, 1, none⟩ b1).heap[B]? = some (.cells #[b0, b1] t (0, 0)) := setY e0 b1
  exact ⟨e1, fun B0 hB => (((Below.refl B0 w).setCell (p := ⟨B, 0, none⟩) hB b0).setCell (p := ⟨B, 1, none⟩) hB b1)⟩
theorem rl_storeD {w : World} {B : Nat} {t : TypeId} {a0 a1 a2 a3 a4 a5 a6 a7 a8 : Value} (h : w.heap[B]? = some (.cells #[a0, a1, a2, a3, a4, a5, a6, a7, a8] t (0, 0))) (b0 b1 b2 b3 b4 b5 b6 b7 b8 : Value) :
    (((((((((w.setCell ⟨B, 0, none⟩ b0).setCell ⟨B, 1, none⟩ b1).setCell ⟨B, 2, none⟩ b2).setCell ⟨B, 3, none⟩ b3).setCell ⟨B, 4, none⟩ b4).setCell ⟨B, 5, none⟩ b5).setCell ⟨B, 6, none⟩ b6).setCell ⟨B, 7, none⟩ b7).setCell ⟨B, 8, none⟩ b8).heap[B]? = some (.cells #[b0, b1, b2, b3, b4, b5, b6, b7, b8] t (0, 0)) ∧ ∀ B0, B0 ≤ B → Below B0 w (((((((((w.setCell ⟨B, 0, none⟩ b0).setCell ⟨B, 1, none⟩ b1).setCell ⟨B, 2, none⟩ b2).setCell ⟨B, 3, none⟩ b3).setCell ⟨B, 4, none⟩ b4).setCell ⟨B, 5, none⟩ b5).setCell ⟨B, 6, none⟩ b6).setCell ⟨B, 7, none⟩ b7).setCell ⟨B, 8, none⟩ b8) := by
  have e0 : (w.setCell ⟨B, 0, none⟩ b0).heap[B]? = some (.cells #[b0, a1, a2, a3, a4, a5, a6, a7, a8] t (0, 0)) := setY h b0
  have e1 : ((w.setCell ⟨B, 0, none⟩ b0).setCell ⟨B, 1, none⟩ b1).heap[B]? = some (.cells #[b0, b1, a2, a3, a4, a5, a6, a7, a8] t (0, 0)) := setY e0 b1
  have e2 : (((w.setCell ⟨B, 0, none⟩ b0).setCell ⟨B, 1, none⟩ b1).setCell ⟨B, 2, none⟩ b2).heap[B]? = some (.cells #[b0, b1, b2, a3, a4, a5, a6, a7, a8] t (0, 0)) := setY e1 b2
  have e3 : ((((w.setCell ⟨B, 0, none⟩ b0).setCell ⟨B, 1, none⟩ b1).setCell ⟨B, 2, none⟩ b2).setCell ⟨B, 3, none⟩ b3).heap[B]? = some (.cells #[b0, b1, b2, b3, a4, a5, a6, a7, a8] t (0, 0)) := setY e2 b3
  have e4 : (((((w.setCell ⟨B, 0, none⟩ b0).setCell ⟨B, 1, none⟩ b1).setCell ⟨B, 2, none⟩ b2).setCell ⟨B, 3, none⟩ b3).setCell ⟨B, 4, none⟩ b4).heap[B]? = some (.cells #[b0, b1, b2, b3, b4, a5, a6, a7, a8] t (0, 0)) := setY e3 b4
  have e5 : ((((((w.setCell ⟨B, 0, none⟩ b0).setCell ⟨B, 1, none⟩ b1).setCell ⟨B, 2, none⟩ b2).setCell ⟨B, 3, none⟩ b3).setCell ⟨B, 4, none⟩ b4).setCell ⟨B, 5, none⟩ b5).heap[B]? = some (.cells #[b0, b1, b2, b3, b4, b5, a6, a7, a8] t (0, 0)) := setY e4 b5
  have e6 : (((((((w.setCell ⟨B, 0, none⟩ b0).setCell ⟨B, 1, none⟩ b1).setCell ⟨B, 2, none⟩ b2).setCell ⟨B, 3, none⟩ b3).setCell ⟨B, 4, none⟩ b4).setCell ⟨B, 5, none⟩ b5).setCell ⟨B, 6, none⟩ b6).heap[B]? = some (.cells #[b0, b1, b2, b3, b4, b5, b6, a7, a8] t (0, 0)) := setY e5 b6
  have e7 : ((((((((w.setCell ⟨B, 0, none⟩ b0).setCell ⟨B, 1, none⟩ b1).setCell ⟨B, 2, none⟩ b2).setCell ⟨B, 3, none⟩ b3).setCell ⟨B, 4, none⟩ b4).setCell ⟨B, 5, none⟩ b5).setCell ⟨B, 6, none⟩ b6).setCell ⟨B, 7, none⟩ b7).heap[B]? = some (.cells #[b0, b1, b2, b3, b4, b5, b6, b7, a8] t (0, 0)) := setY e6 b7
  have e8 : (((((((((w.setCell ⟨B, 0, none⟩ b0).setCell ⟨B, 1, none⟩ b1).setCell ⟨B, 2, none⟩ b2).setCell ⟨B, 3, none⟩ b3).setCell ⟨B, 4, none⟩ b4).setCell ⟨B, 5, none⟩ b5).setCell ⟨B, 6, none⟩ b6).setCell ⟨B, 7, none⟩ b7).setCell ⟨B, 8, none⟩ b8).heap[B]? = some (.cells #[b0, b1, b2, b3, b4, b5, b6, b7, b8] t (0, 0)) := setY e7 b8
  exact ⟨e8, fun B0 hB => ((((((((((Below.refl B0 w).setCell (p := ⟨B, 0, none⟩) hB b0).setCell (p := ⟨B, 1, none⟩) hB b1).setCell (p := ⟨B, 2, none⟩) hB b2).setCell (p := ⟨B, 3, none⟩) hB b3).setCell (p := ⟨B, 4, none⟩) hB b4).setCell (p := ⟨B, 5, none⟩) hB b5).setCell (p := ⟨B, 6, none⟩) hB b6).setCell (p := ⟨B, 7, none⟩) hB b7).setCell (p := ⟨B, 8, none⟩) hB b8)⟩
theorem frozAll {W : World} {B : Nat} {cs : Array Value} {t : TypeId} (h : W.heap[B]? = some (.cells cs t (0, 0))) : W.frozen? ⟨B, 0, none⟩ = false ∧ W.frozen? ⟨B, 1, none⟩ = false ∧ W.frozen? ⟨B, 2, none⟩ = false ∧ W.frozen? ⟨B, 3, none⟩ = false ∧ W.frozen? ⟨B, 4, none⟩ = false ∧ W.frozen? ⟨B, 5, none⟩ = false ∧ W.frozen? ⟨B, 6, none⟩ = false ∧ W.frozen? ⟨B, 7, none⟩ = false ∧ W.frozen? ⟨B, 8, none⟩ = false :=
  ⟨frozenY h _, frozenY h _, frozenY h _, frozenY h _, frozenY h _, frozenY h _, frozenY h _, frozenY h _, frozenY h _⟩
theorem sizeLkD : (Tryz.prog.info? 75).map (·.size) = some 6 := by kernel_rfl
theorem sizeMbD : (Tryz.prog.info? 82).map (·.size) = some 2 := by kernel_rfl
theorem sizeRlD : (Tryz.prog.info? 79).map (·.size) = some 9 := by kernel_rfl
def lkD (b : ByteArray) (p : Nat) : Lk := ⟨txD b p 0, txD b p 1, txD b p 2, txD b p 3, txD b p 4, txD b p 5⟩
def mbD (b : ByteArray) (p : Nat) : Mb := ⟨txD b p 0, txD b p 1⟩
def rlD (b : ByteArray) (p : Nat) : Rl := ⟨(nb b p 1 : Nat), (nb b (p + 1) 1 : Nat), decide (nb b (p + 2) 1 = 1), txD b (p + 3) 0, txD b (p + 3) 1, txD b (p + 3) 2, txD b (p + 3) 3, txD b (p + 3) 4, txD b (p + 3) 5⟩
def alD (b : ByteArray) (p : Nat) : Al := decV (ck b p 41)

set_option maxRecDepth 100000 in
set_option maxHeartbeats 8000000 in
theorem nextA_any {W : World} {R T p : Nat} {b : ByteArray} (h : RdZ W R T b p) (hg : GL W) (hgR : 1 ≠ R) :
    Calls Tryz.prog 62 #[.pointer (some ⟨T, 0, none⟩)] W fun e w' => e = .returned (.agg #[.int .i64 (alD b p).k, .string (alD b p).a, .string (alD b p).b, .string (alD b p).l, .string (alD b p).s, .string (alD b p).r]) ∧ RdZ w' R T b (p + 41) ∧ W.grownBy w' (some R) := by
  obtain ⟨W1, hW1⟩ : ∃ W1, W.alloc (.cells #[.int .i64 0, .string ⟨#[]⟩, .string ⟨#[]⟩, .string ⟨#[]⟩, .string ⟨#[]⟩, .string ⟨#[]⟩] 42) = W1 := ⟨_, rfl⟩
  have hb1 : Below W.heap.size W W1 := by rw [← hW1]; exact (Below.refl _ W).alloc (Nat.le_refl _) _
  have hA : W1.heap[W.heap.size]? = some (.cells #[.int .i64 0, .string ⟨#[]⟩, .string ⟨#[]⟩, .string ⟨#[]⟩, .string ⟨#[]⟩, .string ⟨#[]⟩] 42 (0, 0)) := by rw [← hW1]; exact World.alloc_heap_new W _
  have hR := lt_of_block h.rd
  have hT := lt_of_block h.bx
  have hr1 := h.below hb1
  have hG1 : GL W1 := hg.below hb1 hg.size
  have HT := Lib.hid (hr1.take 41 41 rfl (by decide))
  have HD := Lib.hid (fun w' (hw : W1.grownBy w' (some R)) => decode_al (ck b p 41) w' (Nat.le_trans (size_ck_le _ _ _) (by decide)) (hG1.block (hw.block _ hG1.size (fun e => hgR (Option.some.inj e)))))
  have hc1 := hr1.box
  have HX := Lib.hid (show alD b p = decV (ck b p 41) from rfl)
  have HA := Lib.hid hA
  have hAl := lt_of_block hA
  have HB1 := Lib.hid hb1
  have HRT := Lib.hid (And.intro hR hT)
  generalize okA (ck b p 41) = ok41 at *
  generalize ck b p 41 = c41 at *
  generalize decV c41 = x at *
  clear hA hb1 hr1 hG1 hg h hR hT
  go_enter Tryz.func62, Tryz.ntmps62
  go_upto_region 1 with fail
  clear hW1
  unfold takeV at hc1
  go_wp2_with (go_at_call 59; (with_reducible refine HT.out.mono ?_); rintro e w5 ⟨rfl, hr5, hg5⟩)
  refine (HD.out _ hg5).mono ?_
  rintro e w6 ⟨rfl, hb6⟩
  have hN6 := (hb6.block _ (Nat.lt_of_lt_of_le hAl hg5.size)).trans ((hg5.block _ hAl (fun e => by have e' := Option.some.inj e; have := HRT.out.1; omega)).trans HA.out)
  have HR6 := Lib.hid (hr5.below hb6)
  have HG6 := Lib.hid (grown_transR (grown_belR (R := R) HB1.out) (grown_transR hg5 (grown_belR hb6)))
  obtain ⟨⟨c0, c1, c2, c3, c4, c5⟩, f0, f1, f2, f3, f4, f5⟩ := al_cells hN6
  have HS := Lib.hid (al_store hN6 (.int .i64 x.k) (.string x.a) (.string x.b) (.string x.l) (.string x.s) (.string x.r))
  clear hN6 hr5 hg5 hb6
  go_upto_region 2 with fail
  have hN7 := HS.out.1
  have hB7 := HS.out.2 _ (Nat.le_refl _)
  clear HS c0 c1 c2 c3 c4 c5 f0 f1 f2 f3 f4 f5
  obtain ⟨w7, hw7⟩ : ∃ w7, ((((((w6.setCell ⟨W.heap.size, 0, none⟩ (.int .i64 x.k)).setCell ⟨W.heap.size, 1, none⟩ (.string x.a)).setCell ⟨W.heap.size, 2, none⟩ (.string x.b)).setCell ⟨W.heap.size, 3, none⟩ (.string x.l)).setCell ⟨W.heap.size, 4, none⟩ (.string x.s)).setCell ⟨W.heap.size, 5, none⟩ (.string x.r)) = w7 := ⟨_, rfl⟩
  rw [hw7] at hN7 hB7
  rw [hw7]
  clear hw7
  obtain ⟨⟨c0, c1, c2, c3, c4, c5⟩, f0, f1, f2, f3, f4, f5⟩ := al_cells hN7
  have HS := Lib.hid (al_store hN7 (.int .i64 x.k) (.string x.a) (.string x.b) (.string x.l) (.string x.s) (.string x.r))
  have HB7 := Lib.hid hB7
  clear hN7 hB7
  go_wp2
  refine bodyPost_ret (results_cell_row rfl _ _ W.heap.size 42 _ (0, 0) _ rfl HS.out.1 Tryz.underlying42 rfl sizeAl) rfl ?_
  have hb := HB7.out.trans (HS.out.2 _ (Nat.le_refl _))
  exact ⟨by rw [HX.out], HR6.out.low hb HRT.out.1 HRT.out.2, grown_lowR HG6.out hb⟩

set_option maxRecDepth 100000 in
set_option maxHeartbeats 8000000 in
theorem nextL_any {W : World} {R T p : Nat} {b : ByteArray} (h : RdZ W R T b p) :
    Calls Tryz.prog 65 #[.pointer (some ⟨T, 0, none⟩)] W fun e w' => e = .returned (.agg #[.string (txD b p 0), .string (txD b p 1), .string (txD b p 2), .string (txD b p 3), .string (txD b p 4), .string (txD b p 5)]) ∧ RdZ w' R T b (p + 48) ∧ W.grownBy w' (some R) := by
  obtain ⟨W1, hW1⟩ : ∃ W1, W.alloc (.cells #[.string ⟨#[]⟩, .string ⟨#[]⟩, .string ⟨#[]⟩, .string ⟨#[]⟩, .string ⟨#[]⟩, .string ⟨#[]⟩] 75) = W1 := ⟨_, rfl⟩
  have hb1 : Below W.heap.size W W1 := by rw [← hW1]; exact (Below.refl _ W).alloc (Nat.le_refl _) _
  have hA : W1.heap[W.heap.size]? = some (.cells #[.string ⟨#[]⟩, .string ⟨#[]⟩, .string ⟨#[]⟩, .string ⟨#[]⟩, .string ⟨#[]⟩, .string ⟨#[]⟩] 75 (0, 0)) := by rw [← hW1]; exact World.alloc_heap_new W _
  have hR := lt_of_block h.rd
  have hT := lt_of_block h.bx
  have hr1 := h.below hb1
  have HT := Lib.hid (fun w' (h : Below W1.heap.size W1 w') => (likelyTexts_any W.heap.size w').mono (R' := fun e w'' => ∃ v, e = .returned v ∧ PtrsZ w'' v W.heap.size [0, 1, 2, 3, 4, 5] ∧ Below W1.heap.size W1 w'') fun e w'' ⟨v, p, q, r⟩ => ⟨v, p, q, h.trans (r.mono h.size)⟩)
  have HF := Lib.hid (fun v w' (hp : PtrsZ w' v W.heap.size [0, 1, 2, 3, 4, 5]) (hw : Below W1.heap.size W1 w') => (fill_any (o0 := 0) (m := 6) (hr1.below hw) hp rfl (fun i o hio => by rcases i with _ | _ | _ | _ | _ | _ | i <;> simp at hio <;> omega) ((hw.block _ (lt_of_block hA)).trans hA) (Nat.ne_of_lt hR) (Nat.ne_of_lt hT) (by show 0 + 6 ≤ 6; decide) (fun i a hia => by rcases i with _ | _ | _ | _ | _ | _ | i <;> simp at hia) (by decide)).mono (R' := fun e w'' => e = .returned (.tuple #[]) ∧ w''.heap[W.heap.size]? = some (.cells #[.string (txD b p 0), .string (txD b p 1), .string (txD b p 2), .string (txD b p 3), .string (txD b p 4), .string (txD b p 5)] 75 (0, 0)) ∧ RdZ w'' R T b (p + 48) ∧ W.grownBy w'' (some R)) fun e w'' ⟨p1, p2, p3, p4⟩ => ⟨p1, p2, p3, grown_of2 (hb1.trans (hw.mono hb1.size)) p4⟩)
  have HC := Lib.hid (fun w' (hw : Below W1.heap.size W1 w') => (hr1.below hw).box)
  have HW1 := Lib.hid hW1
  have HRT := Lib.hid (And.intro hR hT)
  generalize txD b p 0 = y0 at *
  generalize txD b p 1 = y1 at *
  generalize txD b p 2 = y2 at *
  generalize txD b p 3 = y3 at *
  generalize txD b p 4 = y4 at *
  generalize txD b p 5 = y5 at *
  clear hW1 hb1 hA hr1 h hR hT
  unfold takeV at HC HF
  go_enter Tryz.func65, Tryz.ntmps65
  go_upto_region 1 with fail
  rw [HW1.out]
  have hd : Below W1.heap.size W1 W1.drew := Below.drew (Below.refl _ _)
  go_region_held3 (fun w' => w'.cell? ⟨T, 0, none⟩ = some (.func (.func 59) #[.pointer (some ⟨R, 0, none⟩)] #[]))
    (first | exact HC.out _ (by assumption) | exact RdZ.box (by assumption))
    (first
      | (go_at_call 43; (with_reducible refine (HT.out _ (by assumption)).mono ?_); rintro e w5 ⟨v, rfl, hp, hb5⟩)
      | (go_at_call 66; (with_reducible refine (HF.out _ _ hp (by assumption)).mono ?_); rintro e w6 ⟨rfl, hN6, hr6, hg6⟩))
  all_goals
    obtain ⟨c0, c1, c2, c3, c4, c5⟩ := cells6 hN6
    obtain ⟨f0, f1, f2, f3, f4, f5, -, -, -⟩ := frozAll hN6
    have HS := Lib.hid (al_store hN6 (.string y0) (.string y1) (.string y2) (.string y3) (.string y4) (.string y5))
    have HG6 := Lib.hid hg6
    have HR6 := Lib.hid hr6
    clear hN6 hr6 hg6
    go_wp2
    refine bodyPost_ret (results_cell_row rfl _ _ W.heap.size 75 _ (0, 0) _ rfl HS.out.1 Tryz.underlying75 rfl sizeLkD) rfl ?_
    have hb := HS.out.2 _ (Nat.le_refl _)
    exact ⟨rfl, HR6.out.low hb HRT.out.1 HRT.out.2, grown_lowR HG6.out hb⟩

set_option maxRecDepth 100000 in
set_option maxHeartbeats 8000000 in
theorem nextM_any {W : World} {R T p : Nat} {b : ByteArray} (h : RdZ W R T b p) :
    Calls Tryz.prog 70 #[.pointer (some ⟨T, 0, none⟩)] W fun e w' => e = .returned (.agg #[.string (txD b p 0), .string (txD b p 1)]) ∧ RdZ w' R T b (p + 16) ∧ W.grownBy w' (some R) := by
  obtain ⟨W1, hW1⟩ : ∃ W1, W.alloc (.cells #[.string ⟨#[]⟩, .string ⟨#[]⟩] 82) = W1 := ⟨_, rfl⟩
  have hb1 : Below W.heap.size W W1 := by rw [← hW1]; exact (Below.refl _ W).alloc (Nat.le_refl _) _
  have hA : W1.heap[W.heap.size]? = some (.cells #[.string ⟨#[]⟩, .string ⟨#[]⟩] 82 (0, 0)) := by rw [← hW1]; exact World.alloc_heap_new W _
  have hR := lt_of_block h.rd
  have hT := lt_of_block h.bx
  have hr1 := h.below hb1
  have HT := Lib.hid (fun w' (h : Below W1.heap.size W1 w') => (memberTexts_any W.heap.size w').mono (R' := fun e w'' => ∃ v, e = .returned v ∧ PtrsZ w'' v W.heap.size [0, 1] ∧ Below W1.heap.size W1 w'') fun e w'' ⟨v, p, q, r⟩ => ⟨v, p, q, h.trans (r.mono h.size)⟩)
  have HF := Lib.hid (fun v w' (hp : PtrsZ w' v W.heap.size [0, 1]) (hw : Below W1.heap.size W1 w') => (fill_any (o0 := 0) (m := 2) (hr1.below hw) hp rfl (fun i o hio => by rcases i with _ | _ | i <;> simp at hio <;> omega) ((hw.block _ (lt_of_block hA)).trans hA) (Nat.ne_of_lt hR) (Nat.ne_of_lt hT) (by show 0 + 2 ≤ 2; decide) (fun i a hia => by rcases i with _ | _ | i <;> simp at hia) (by decide)).mono (R' := fun e w'' => e = .returned (.tuple #[]) ∧ w''.heap[W.heap.size]? = some (.cells #[.string (txD b p 0), .string (txD b p 1)] 82 (0, 0)) ∧ RdZ w'' R T b (p + 16) ∧ W.grownBy w'' (some R)) fun e w'' ⟨p1, p2, p3, p4⟩ => ⟨p1, p2, p3, grown_of2 (hb1.trans (hw.mono hb1.size)) p4⟩)
  have HC := Lib.hid (fun w' (hw : Below W1.heap.size W1 w') => (hr1.below hw).box)
  have HW1 := Lib.hid hW1
  have HRT := Lib.hid (And.intro hR hT)
  generalize txD b p 0 = y0 at *
  generalize txD b p 1 = y1 at *
  clear hW1 hb1 hA hr1 h hR hT
  unfold takeV at HC HF
  go_enter Tryz.func70, Tryz.ntmps70
  go_upto_region 1 with fail
  rw [HW1.out]
  have hd : Below W1.heap.size W1 W1.drew := Below.drew (Below.refl _ _)
  go_region_held3 (fun w' => w'.cell? ⟨T, 0, none⟩ = some (.func (.func 59) #[.pointer (some ⟨R, 0, none⟩)] #[]))
    (first | exact HC.out _ (by assumption) | exact RdZ.box (by assumption))
    (first
      | (go_at_call 53; (with_reducible refine (HT.out _ (by assumption)).mono ?_); rintro e w5 ⟨v, rfl, hp, hb5⟩)
      | (go_at_call 66; (with_reducible refine (HF.out _ _ hp (by assumption)).mono ?_); rintro e w6 ⟨rfl, hN6, hr6, hg6⟩))
  all_goals
    obtain ⟨c0, c1⟩ := cells2Z hN6
    obtain ⟨f0, f1, f2, f3, f4, f5, -, -, -⟩ := frozAll hN6
    have HS := Lib.hid (mb_storeD hN6 (.string y0) (.string y1))
    have HG6 := Lib.hid hg6
    have HR6 := Lib.hid hr6
    clear hN6 hr6 hg6
    go_wp2
    refine bodyPost_ret (results_cell_row rfl _ _ W.heap.size 82 _ (0, 0) _ rfl HS.out.1 Tryz.underlying82 rfl sizeMbD) rfl ?_
    have hb := HS.out.2 _ (Nat.le_refl _)
    exact ⟨rfl, HR6.out.low hb HRT.out.1 HRT.out.2, grown_lowR HG6.out hb⟩
end Go.Proofs.YtbafmnafhaoggaaGreatDoor
