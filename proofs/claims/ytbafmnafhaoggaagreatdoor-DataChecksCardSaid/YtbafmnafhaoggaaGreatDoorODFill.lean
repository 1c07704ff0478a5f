/-
  image.Decode: the next packed texts to their places.
-/
import Derived.Test.YtbafmnafhaoggaaGreatDoorODRead
namespace Go.Proofs.YtbafmnafhaoggaaGreatDoor
open Go Go.RowKit

structure Gr2 (W w' : World) (R B : Nat) : Prop where
  os : w'.os = W.os
  tape : w'.tape = W.tape
  output : w'.output = W.output
  size : W.heap.size ≤ w'.heap.size
  block : ∀ k, k < W.heap.size → k ≠ R → k ≠ B → w'.heap[k]? = W.heap[k]?
theorem Gr2.refl (W : World) (R B : Nat) : Gr2 W W R B := ⟨rfl, rfl, rfl, Nat.le_refl _, fun _ _ _ _ => rfl⟩
theorem Gr2.grown {W w w' : World} {R B : Nat} (h : Gr2 W w R B) (hg : w.grownBy w' (some R)) : Gr2 W w' R B :=
  ⟨hg.os.trans h.os, hg.tape.trans h.tape, hg.output.trans h.output, Nat.le_trans h.size hg.size, fun k hk h1 h2 => (hg.block k (Nat.lt_of_lt_of_le hk h.size) (fun e => h1 (Option.some.inj e))).trans (h.block k hk h1 h2)⟩
theorem Gr2.below {W w w' : World} {R B : Nat} (h : Gr2 W w R B) (hb : Below w.heap.size w w') : Gr2 W w' R B :=
  ⟨hb.os.trans h.os, hb.tape.trans h.tape, hb.output.trans h.output, Nat.le_trans h.size hb.size, fun k hk h1 h2 => (hb.block k (Nat.lt_of_lt_of_le hk h.size)).trans (h.block k hk h1 h2)⟩
theorem Gr2.set {W w : World} {R B : Nat} (h : Gr2 W w R B) (k : Nat) (v : Value) : Gr2 W (w.setCell ⟨B, k, none⟩ v) R B :=
  ⟨h.os, h.tape, h.output, by rw [show (w.setCell ⟨B, k, none⟩ v).heap.size = w.heap.size by simp [World.setCell]]; exact h.size, fun j hj h1 h2 => (Below.heap_setCell w ⟨B, k, none⟩ v j h2).trans (h.block j hj h1 h2)⟩
theorem RdZ.set {W : World} {R T B p k : Nat} {b : ByteArray} {v : Value} (h : RdZ W R T b p) (h1 : R ≠ B) (h2 : T ≠ B) : RdZ (W.setCell ⟨B, k, none⟩ v) R T b p :=
  ⟨(Below.heap_setCell W ⟨B, k, none⟩ v R h1).trans h.rd, (Below.heap_setCell W ⟨B, k, none⟩ v T h2).trans h.bx, h.ne, h.sz⟩

def fillL (cs : Array Value) (o0 : Nat) (tx : Nat → ByteArray) : Nat → Array Value
  | 0 => cs
  | k + 1 => (fillL cs o0 tx k).setIfInBounds (o0 + k) (.string (tx k))
theorem size_fillL (cs : Array Value) (o0 : Nat) (tx : Nat → ByteArray) (k : Nat) : (fillL cs o0 tx k).size = cs.size := by
  induction k with
  | zero => rfl
  | succ k ih => rw [fillL, Array.size_setIfInBounds, ih]
def txD (b : ByteArray) (p k : Nat) : ByteArray := unT (getN (ck b (p + 8 * k) 8) 0 8)

theorem get_at08 (r : ByteArray) (w : World) (hr : r.size ≤ 1048576) : Calls Tryz.prog 92 #[.string r, .int .i64 0, .int .i64 8] w fun e w' => (∃ b, e = .returned (.tuple #[.int .u64 ((getN r 0 8 : Nat) : Int), .bool b])) ∧ w = w' := get_all r 0 8 w hr (by decide)

set_option maxRecDepth 100000 in
set_option maxHeartbeats 8000000 in
theorem fill_any {W : World} {R T B p o0 m : Nat} {b : ByteArray} {v : Value} {os : List Nat} {cs : Array Value} {t : TypeId} (h : RdZ W R T b p) (hp : PtrsZ W v B os) (hm : os.length = m) (hos : ∀ i o, os[i]? = some o → o = o0 + i)
    (hB : W.heap[B]? = some (.cells cs t (0, 0))) (hRB : R ≠ B) (hTB : T ≠ B) (hsz : o0 + m ≤ cs.size) (hcs : ∀ (i : Nat) (a : Option Addr), cs[i]? ≠ some (Value.pointer a)) (h6 : m ≤ 6) :
    Calls Tryz.prog 66 #[v, takeV R] W fun e w' => e = .returned (.tuple #[]) ∧ w'.heap[B]? = some (.cells (fillL cs o0 (txD b p) m) t (0, 0)) ∧ RdZ w' R T b (p + 8 * m) ∧ Gr2 W w' R B := by
  obtain ⟨g, rfl, hg⟩ := hp
  have hgR : ∀ i o, os[i]? = some o → g ≠ R := fun i o ho e => by
    have h1 := hg i o ho
    subst e
    simp [World.cell?, h.rd] at h1
    rcases i with _ | i <;> simp at h1
  have hgB : ∀ i o, os[i]? = some o → g ≠ B := fun i o ho e => by
    have h1 := hg i o ho
    subst e
    have h2 : W.cell? ⟨g, i, none⟩ = cs[i]? := by simp [World.cell?, hB]
    exact hcs i _ (h2.symm.trans h1)
  have HG := Lib.hid (fun k (hk : k < m) w' (hr : Gr2 W w' R B) => show w'.cell? ⟨g, k, none⟩ = some (.pointer (some ⟨B, o0 + k, none⟩)) from by
    have ho : os[k]? = some os[k] := List.getElem?_eq_getElem (by omega)
    have h1 := hg k _ ho
    rw [hos k _ ho] at h1
    exact (World.cell?_of_block (a := ⟨g, k, none⟩) (hr.block g (lt_cellZ h1) (hgR k _ ho) (hgB k _ ho))).trans h1)
  rw [hm]
  have HRB := Lib.hid (And.intro hRB hTB)
  have HSZ := Lib.hid (show ∀ k, k < m → ∀ (w' : World), w'.heap[B]? = some (.cells (fillL cs o0 (txD b p) k) t (0, 0)) → (∃ u, w'.cell? ⟨B, o0 + k, none⟩ = some u) ∧ w'.frozen? ⟨B, o0 + k, none⟩ = false from fun k hk w' hw => by
    have hl : o0 + k < (fillL cs o0 (txD b p) k).size := by rw [size_fillL]; omega
    exact ⟨⟨_, cellAtY hw (o0 + k) _ (Array.getElem?_eq_getElem hl)⟩, frozenY hw _⟩)
  have HR0 := Lib.hid h
  have HB0 := Lib.hid hB
  have hm6 : (m : Int) ≤ 6 := by omega
  clear hg hgR hgB hos hm hB hcs h hRB hTB hsz
  unfold takeV
  go_enter Tryz.func66, Tryz.ntmps66
  go_wp2_with fail
  go_loopw [5, 6, 7, 10] (fun _ _ _ i wr => ∃ k : Nat, k ≤ m ∧ i = .int .i64 (k : Int) ∧ Hid (RdZ wr R T b (p + 8 * k)) ∧ Hid (wr.heap[B]? = some (.cells (fillL cs o0 (txD b p) k) t (0, 0))) ∧ Hid (Gr2 W wr R B)) (fun _ _ _ i _ => m - (intOf i).toNat)
  case atStart => exact ⟨0, Nat.zero_le _, rfl, HR0, HB0, Lib.hid (Gr2.refl _ _ _)⟩
  case round =>
    obtain ⟨k, hk, rfl, HR, HB, HF⟩ := hrel
    clear HR0 HB0
    by_cases hlt : k < m
    · have hlt' : (k : Int) < (m : Int) := by omega
      have hk0 : (0 : Int) ≤ (k : Int) := by omega
      have c1 := HG.out k hlt wr HF.out
      have HT := Lib.hid (HR.out.take 8 8 rfl (by decide))
      have HE := Lib.hid (show txD b p k = unT (getN (ck b (p + 8 * k) 8) 0 8) from rfl)
      have HCK := Lib.hid (fun w' => get_at08 (ck b (p + 8 * k) 8) w' (Nat.le_trans (size_ck_le _ _ _) (by decide)))
      generalize ck b (p + 8 * k) 8 = c8 at *
      have HU := Lib.hid (fun w' => unpack_any (getN c8 0 8) w')
      generalize unT (getN c8 0 8) = tx at *
      generalize packT (unS (getN c8 0 8)) = ok8 at *
      generalize getN c8 0 8 = n8 at *
      have HSk := Lib.hid (HSZ.out k hlt)
      have HNX := Lib.hid (show fillL cs o0 (txD b p) (k + 1) = (fillL cs o0 (txD b p) k).setIfInBounds (o0 + k) (.string (txD b p k)) from rfl)
      have hBl := lt_of_block HB.out
      go_wp2_with (first
        | (go_at_call 59; (with_reducible refine HT.out.mono ?_); rintro e w5 ⟨rfl, hr5, hg5⟩)
        | (go_at_call 92; (with_reducible refine (HCK.out _).mono ?_); rintro e w6 ⟨⟨b0, rfl⟩, rfl⟩)
        | (go_at_call 94; (with_reducible refine (HU.out _).mono ?_); rintro e w7 ⟨rfl, hb7⟩; have HR7 := Lib.hid (hr5.below hb7); have HB7 := Lib.hid ((hb7.block _ (Nat.lt_of_lt_of_le hBl hg5.size)).trans ((hg5.block _ hBl (fun e => HRB.out.1 (Option.some.inj e).symm)).trans HB.out)); have HF7 := Lib.hid ((HF.out.grown hg5).below hb7); obtain ⟨⟨u7, c7⟩, f7⟩ := HSk.out w7 HB7.out; clear hr5 hg5 hb7))
      go_roundw
      case rel =>
        refine ⟨k + 1, by omega, by go_num, Lib.hid ?_, Lib.hid ?_, Lib.hid (HF7.out.set _ _)⟩
        · have := HR7.out.set (k := o0 + k) (v := .string tx) HRB.out.1 HRB.out.2
          rw [show p + 8 * (k + 1) = p + 8 * k + 8 by omega]
          exact this
        · exact (setY HB7.out _).trans (by rw [HNX.out, HE.out])
      case measure => simp [intOf]; omega
    · obtain rfl : k = m := by omega
      go_wp2_with fail
      go_end0
      exact ⟨rfl, HB.out, HR.out, HF.out⟩
end Go.Proofs.YtbafmnafhaoggaaGreatDoor
