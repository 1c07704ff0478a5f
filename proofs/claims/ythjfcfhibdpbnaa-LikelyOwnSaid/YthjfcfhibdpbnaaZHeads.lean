/-
  Package image: counts, what of an image can't be told by the first of its bytes, and these. What stays where a block of the call's own is stored into. (Printed by wip/gen_zparts.py.) Package image: the rows of a part, one behind the other.
-/
import Derived.Test.YthjfcfhibdpbnaaZPacks
import Derived.Test.YthjfcfhibdpbnaaWAll
import Derived.LoopIn
import Derived.Maps.AppendAt
/-! Package image: counts, what of an image can't be told by the first of its bytes, and these. -/
namespace Go.Proofs.Ythjfcfhibdpbnaa
open Go Go.RowKit

/-- An image in memory. -/
structure ImR (W : World) (va vl vr vm : Value) (im : Im) : Prop where
  a : RowC W va 6 (im.als.map alC)
  l : RowC W vl 6 (im.lks.map lkC)
  r : RowC W vr 9 (im.rls.map rlC)
  m : RowC W vm 2 (im.mbs.map mbC)
theorem ImR.below {W W' : World} {va vl vr vm : Value} {im : Im} (h : ImR W va vl vr vm im) (hb : Below W.heap.size W W') : ImR W' va vl vr vm im := ⟨h.a.below hb, h.l.below hb, h.r.below hb, h.m.below hb⟩
theorem ImR.slices {W : World} {va vl vr vm : Value} {im : Im} (h : ImR W va vl vr vm im) : ∃ a1 c1 a2 c2 a3 c3 a4 c4, va = .slice a1 (cntN im 0) c1 ∧ vl = .slice a2 (cntN im 1) c2 ∧ vr = .slice a3 (cntN im 2) c3 ∧ vm = .slice a4 (cntN im 3) c4 := by
  obtain ⟨a1, c1, h1⟩ := h.a.slice
  obtain ⟨a2, c2, h2⟩ := h.l.slice
  obtain ⟨a3, c3, h3⟩ := h.r.slice
  obtain ⟨a4, c4, h4⟩ := h.m.slice
  rw [List.length_map] at h1 h2 h3 h4
  exact ⟨a1, c1, a2, c2, a3, c3, a4, c4, h1, h2, h3, h4⟩
end Go.Proofs.Ythjfcfhibdpbnaa

/-! What stays where a block of the call's own is stored into. (Printed by wip/gen_zparts.py.) -/
namespace Go.Proofs.Ythjfcfhibdpbnaa
open Go Go.RowKit

theorem gr_reflZ {w : World} {B : Nat} : w.grownBy w (some B) := ⟨rfl, rfl, rfl, Nat.le_refl _, fun _ _ _ => rfl⟩
theorem gr_setZ {W1 w7 : World} {B : Nat} (h : W1.grownBy w7 (some B)) (k : Nat) (u : Value) : W1.grownBy (w7.setCell ⟨B, k, none⟩ u) (some B) :=
  ⟨h.os, h.tape, h.output, by simpa [World.setCell] using h.size, fun j hj hne => (Below.heap_setCell w7 ⟨B, k, none⟩ u j (fun e => hne (by rw [e]))).trans (h.block j hj hne)⟩
theorem belowZ_setRow {B g : Nat} {w0 w : World} (hb : Below B w0 w) (hBg : B ≤ g) (cs : Array Value) : Below B w0 (w.setRow g cs) :=
  hb.trans ⟨rfl, rfl, rfl, by simp [World.setRow], fun k hk => setRow_other w g k cs (by omega)⟩
theorem gr_setRowZ (w : World) (g : Nat) (cs : Array Value) : w.grownBy (w.setRow g cs) (some g) := ⟨rfl, rfl, rfl, by simp [World.setRow], fun k _ hk => setRow_other w g k _ (fun e => hk (by simp [e]))⟩
end Go.Proofs.Ythjfcfhibdpbnaa

/-! Package image: the rows of a part, one behind the other. -/
namespace Go.Proofs.Ythjfcfhibdpbnaa
open Go Go.RowKit

end Go.Proofs.Ythjfcfhibdpbnaa
