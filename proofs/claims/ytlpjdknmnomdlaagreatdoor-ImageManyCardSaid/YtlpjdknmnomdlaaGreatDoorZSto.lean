/-
  What stays where a block of the call's own is stored into. (Printed by wip/gen_zparts.py.)
-/
import Derived.Test.YtlpjdknmnomdlaaGreatDoorZRowA
namespace Go.Proofs.YtlpjdknmnomdlaaGreatDoor
open Go Go.RowKit

theorem gr_reflZ {w : World} {B : Nat} : w.grownBy w (some B) := ⟨rfl, rfl, rfl, Nat.le_refl _, fun _ _ _ => rfl⟩
theorem gr_setZ {W1 w7 : World} {B : Nat} (h : W1.grownBy w7 (some B)) (k : Nat) (u : Value) : W1.grownBy (w7.setCell ⟨B, k, none⟩ u) (some B) :=
  ⟨h.os, h.tape, h.output, by simpa [World.setCell] using h.size, fun j hj hne => (Below.heap_setCell w7 ⟨B, k, none⟩ u j (fun e => hne (by rw [e]))).trans (h.block j hj hne)⟩
theorem PartZ.grown {W W' : World} {u er : Value} {wh : ByteArray} {rows : List ByteArray} {o : Option Nat} {B : Nat} {cs : Array Value} {t : TypeId} (h : PartZ W u er wh rows o) (hg : W.grownBy W' (some B)) (hB : W.heap[B]? = some (.cells cs t (0, 0))) (t1 : t ≠ 9) (t2 : t ≠ 116) : PartZ W' u er wh rows o := by
  cases o with
  | none =>
    refine ⟨h.1, h.2.kept hg ?_⟩
    rcases h.2.2 with ⟨rfl, _⟩ | ⟨g, c, cur, rfl, _, hgb, _⟩
    · exact .inl rfl
    · refine .inr fun e => ?_
      have e : g = B := by simpa [Value.ownBlock] using e
      subst e
      rw [hB] at hgb
      injection hgb with hgb
      injection hgb with _ ht _
      exact t1 ht
  | some i =>
    obtain ⟨⟨b, rfl, hb⟩, hs⟩ := h
    refine ⟨⟨b, rfl, (hg.block b (lt_of_block hb) (fun e => ?_)).trans hb⟩, hs⟩
    have e : b = B := by simpa using e
    subst e
    rw [hB] at hb
    injection hb with hb
    injection hb with _ ht _
    exact t2 ht
theorem PartZ.one {W : World} {u er : Value} {wh : ByteArray} {rows : List ByteArray} {o : Option Nat} (h : PartZ W u er wh rows o) : u.oneCell' = true ∧ er.oneCell' = true := by
  obtain ⟨a, m, c, rfl⟩ := h.slice
  cases o with
  | none => rw [h.1]; exact ⟨rfl, rfl⟩
  | some i => obtain ⟨b, rfl, _⟩ := h.1; exact ⟨rfl, rfl⟩
theorem belowZ_setRow {B g : Nat} {w0 w : World} (hb : Below B w0 w) (hBg : B ≤ g) (cs : Array Value) : Below B w0 (w.setRow g cs) :=
  hb.trans ⟨rfl, rfl, rfl, by simp [World.setRow], fun k hk => setRow_other w g k cs (by omega)⟩
theorem gr_setRowZ (w : World) (g : Nat) (cs : Array Value) : w.grownBy (w.setRow g cs) (some g) := ⟨rfl, rfl, rfl, by simp [World.setRow], fun k _ hk => setRow_other w g k _ (fun e => hk (by simp [e]))⟩
end Go.Proofs.YtlpjdknmnomdlaaGreatDoor
