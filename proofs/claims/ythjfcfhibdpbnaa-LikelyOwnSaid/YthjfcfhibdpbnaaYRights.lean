/-
  Package alias: what a text may be at a place: none, small, number, maybe, sized; closures that tell it; must. Package alias: the map of closures that tell what each kind must be; what is found in it. (Printed by wip/gen_ykinds.py.) Package alias: fields, the closure that tells whether an alias is what it must be, Right. (Printed by wip/gen_yright.py.) Package alias: packed, unpacked, Encode, Decode, Key.
-/
import Derived.Test.YthjfcfhibdpbnaaYMath
import Derived.OneCell
import Derived.IntWalk
import Derived.StillTailTactics
import Derived.Maps.OwnIn
import Derived.Carry
import Derived.Deep.RegionHeld3
import Derived.Deep.CutRange
import Derived.Test.YthjfcfhibdpbnaaCPacks
import Derived.Laws.ResultCell
/-! Package alias: what a text may be at a place: none, small, number, maybe, sized; closures that tell it; must. -/
namespace Go.Proofs.Ythjfcfhibdpbnaa
open Go Go.RowKit

/-! number. -/
/-! What a closure asks of a text, whatever is made behind it (the block M apart). -/
theorem gr_transY {M : Nat} {a b c : World} (h : a.grownBy b (some M)) (k : b.grownBy c (some M)) : a.grownBy c (some M) :=
  ⟨k.os.trans h.os, k.tape.trans h.tape, k.output.trans h.output, Nat.le_trans h.size k.size, fun j hj hne => (k.block j (Nat.lt_of_lt_of_le hj h.size) hne).trans (h.block j hj hne)⟩
def FitV (M : Nat) (w : World) (v : Value) (p : ByteArray → Bool) : Prop :=
  ∃ (F : FuncId) (C : Array Value), v = .func (.func F) #[] C ∧ Enters Try.prog F ∧ ∀ s : ByteArray, s.size ≤ 1048576 → ∀ w5, w.grownBy w5 (some M) → Calls Try.prog F (#[.string s] ++ C) w5 fun e w' => e = .returned (.bool (p s)) ∧ Below w5.heap.size w5 w'
theorem FitV.grown {M : Nat} {w w' : World} {v : Value} {p : ByteArray → Bool} (h : FitV M w v p) (hg : w.grownBy w' (some M)) : FitV M w' v p := by
  obtain ⟨F, C, h1, h2, h3⟩ := h
  exact ⟨F, C, h1, h2, fun s hs w5 h5 => h3 s hs w5 (gr_transY hg h5)⟩
/-! maybe. -/
/-! sized. -/
/-! must. -/
theorem setY {w : World} {B k : Nat} {cs : Array Value} {t : TypeId} (h : w.heap[B]? = some (.cells cs t (0, 0))) (v : Value) : (w.setCell ⟨B, k, none⟩ v).heap[B]? = some (.cells (cs.setIfInBounds k v) t (0, 0)) := by
  simp [World.setCell, Array.getElem?_modify, h]
end Go.Proofs.Ythjfcfhibdpbnaa

/-! Package alias: the map of closures that tell what each kind must be; what is found in it. (Printed by wip/gen_ykinds.py.) -/
namespace Go.Proofs.Ythjfcfhibdpbnaa
open Go Go.RowKit Go.Maps

attribute [local go_sem] Oper.semAt_some

end Go.Proofs.Ythjfcfhibdpbnaa

/-! Package alias: fields, the closure that tells whether an alias is what it must be, Right. (Printed by wip/gen_yright.py.) -/
namespace Go.Proofs.Ythjfcfhibdpbnaa
open Go Go.RowKit

/-! must's closure. -/
theorem FitV.call {M : Nat} {w : World} {F : FuncId} {C : Array Value} {p : ByteArray → Bool} (h : FitV M w (.func (.func F) #[] C) p) :
    Enters Try.prog F ∧ ∀ s : ByteArray, s.size ≤ 1048576 → ∀ w5, w.grownBy w5 (some M) → Calls Try.prog F (#[.string s] ++ C) w5 fun e w' => e = .returned (.bool (p s)) ∧ Below w5.heap.size w5 w' := by
  obtain ⟨F', C', h1, h2, h3⟩ := h
  injection h1 with e1 _ e3
  injection e1 with e1
  subst e1 e3
  exact ⟨h2, h3⟩

theorem cells6 {W : World} {B : Nat} {a b c d e f : Value} {t : TypeId} (h : W.heap[B]? = some (.cells #[a, b, c, d, e, f] t (0, 0))) :
    W.cell? ⟨B, 0, none⟩ = some a ∧ W.cell? ⟨B, 1, none⟩ = some b ∧ W.cell? ⟨B, 2, none⟩ = some c ∧ W.cell? ⟨B, 3, none⟩ = some d ∧ W.cell? ⟨B, 4, none⟩ = some e ∧ W.cell? ⟨B, 5, none⟩ = some f := by
  simp [World.cell?, h]

/-! Right. -/
/-- What is asked of an alias that is handed over. -/
structure AlS (x : Al) : Prop where
  k : (Lit.int .i64 x.k).wf = true
  a : x.a.size ≤ 1000
  b : x.b.size ≤ 1000
  l : x.l.size ≤ 1000
  s : x.s.size ≤ 1000
  r : x.r.size ≤ 1000
end Go.Proofs.Ythjfcfhibdpbnaa

/-! Package alias: packed, unpacked, Encode, Decode, Key. -/
namespace Go.Proofs.Ythjfcfhibdpbnaa
open Go Go.RowKit

/-! packed. -/
end Go.Proofs.Ythjfcfhibdpbnaa
