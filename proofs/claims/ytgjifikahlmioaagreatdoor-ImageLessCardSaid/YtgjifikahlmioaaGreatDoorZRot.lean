/-
  An image and a copy of it in memory, a row of the copy after another turned. (Printed by wip/gen_zturned.py.)
-/
import Derived.Test.YtgjifikahlmioaaGreatDoorZMade
import Derived.Test.YtgjifikahlmioaaGreatDoorZPerm
namespace Go.Proofs.YtgjifikahlmioaaGreatDoor
open Go Go.RowKit

structure TuI (w wx : World) (I X b : Nat) (im xi : Im) (va vl vr vm v0 v1 v3 : Value) : Prop where
  i : wx.heap[I]? = some (.cells #[va, vl, vr, vm, .int .i64 im.th, .int .i64 im.de] 33 (0, 0))
  x : wx.heap[X]? = some (.cells #[v0, v1, vr, v3, .int .i64 im.th, .int .i64 im.de] 33 (0, 0))
  o : Own4 wx b im va vl vr vm
  z : Own4 wx b xi v0 v1 vr v3
  bel : Below w.heap.size w wx
  lX : w.heap.size ≤ X
  ne : I ≠ X
  b0 : b ≤ wx.heap.size
theorem TuI.below {w wx wy : World} {I X b : Nat} {im xi : Im} {va vl vr vm v0 v1 v3 : Value} (h : TuI w wx I X b im xi va vl vr vm v0 v1 v3) (hb : Below wx.heap.size wx wy) : TuI w wy I X b im xi va vl vr vm v0 v1 v3 :=
  ⟨(hb.block _ (lt_of_block h.i)).trans h.i, (hb.block _ (lt_of_block h.x)).trans h.x, h.o.below hb, h.z.below hb, h.bel.trans (hb.mono h.bel.size), h.lX, h.ne, Nat.le_trans h.b0 hb.size⟩
theorem TuI.turnA {w wr w8 : World} {I X b n : Nat} {im xi : Im} {va vl vr vm v0 v1 v3 v' : Value} {l : List Al} (h : TuI w wr I X b im xi va vl vr vm v0 v1 v3) (hb : Below wr.heap.size wr w8)
    (hown : w8.ownsRow wr.heap.size 47 6 v' n ((l.map alC).flatMap id)) (hn : n = l.length) (hs : ∀ y ∈ l, AlS y) : TuI w (w8.setCell ⟨X, 0, none⟩ v') I X b im { xi with als := l } va vl vr vm v' v1 v3 := by
  subst hn
  have h8 := h.below hb
  have hz : Own4 w8 b xi v0 v1 vr v3 := h8.z
  have hz2 : Own4 w8 b { xi with als := l } v' v1 vr v3 := { l := hz.l, r := hz.r, m := hz.m, a := own_lowW hown h.b0, s := { hz.s with als := hs } }
  exact ⟨(heap_setCellZ h.ne).trans h8.i, setY h8.x v', h8.o.kept (gr_setZ gr_reflZ 0 v') h8.x, hz2.kept (gr_setZ gr_reflZ 0 v') h8.x, h8.bel.setCell (p := ⟨X, 0, none⟩) h.lX v', h.lX, h.ne, by simp [World.setCell]; exact h8.b0⟩
theorem TuI.turnL {w wr w8 : World} {I X b n : Nat} {im xi : Im} {va vl vr vm v0 v1 v3 v' : Value} {l : List Lk} (h : TuI w wr I X b im xi va vl vr vm v0 v1 v3) (hb : Below wr.heap.size wr w8)
    (hown : w8.ownsRow wr.heap.size 49 6 v' n ((l.map lkC).flatMap id)) (hn : n = l.length) (hs : ∀ y ∈ l, LkS y) : TuI w (w8.setCell ⟨X, 1, none⟩ v') I X b im { xi with lks := l } va vl vr vm v0 v' v3 := by
  subst hn
  have h8 := h.below hb
  have hz : Own4 w8 b xi v0 v1 vr v3 := h8.z
  have hz2 : Own4 w8 b { xi with lks := l } v0 v' vr v3 := { a := hz.a, r := hz.r, m := hz.m, l := own_lowW hown h.b0, s := { hz.s with lks := hs } }
  exact ⟨(heap_setCellZ h.ne).trans h8.i, setY h8.x v', h8.o.kept (gr_setZ gr_reflZ 1 v') h8.x, hz2.kept (gr_setZ gr_reflZ 1 v') h8.x, h8.bel.setCell (p := ⟨X, 1, none⟩) h.lX v', h.lX, h.ne, by simp [World.setCell]; exact h8.b0⟩
theorem TuI.turnM {w wr w8 : World} {I X b n : Nat} {im xi : Im} {va vl vr vm v0 v1 v3 v' : Value} {l : List Mb} (h : TuI w wr I X b im xi va vl vr vm v0 v1 v3) (hb : Below wr.heap.size wr w8)
    (hown : w8.ownsRow wr.heap.size 54 2 v' n ((l.map mbC).flatMap id)) (hn : n = l.length) (hs : ∀ y ∈ l, MbS y) : TuI w (w8.setCell ⟨X, 3, none⟩ v') I X b im { xi with mbs := l } va vl vr vm v0 v1 v' := by
  subst hn
  have h8 := h.below hb
  have hz : Own4 w8 b xi v0 v1 vr v3 := h8.z
  have hz2 : Own4 w8 b { xi with mbs := l } v0 v1 vr v' := { a := hz.a, l := hz.l, r := hz.r, m := own_lowW hown h.b0, s := { hz.s with mbs := hs } }
  exact ⟨(heap_setCellZ h.ne).trans h8.i, setY h8.x v', h8.o.kept (gr_setZ gr_reflZ 3 v') h8.x, hz2.kept (gr_setZ gr_reflZ 3 v') h8.x, h8.bel.setCell (p := ⟨X, 3, none⟩) h.lX v', h.lX, h.ne, by simp [World.setCell]; exact h8.b0⟩
theorem PermI.refl (a : Im) : PermI a a := ⟨List.Perm.refl _, List.Perm.refl _, rfl, List.Perm.refl _, rfl, rfl⟩
theorem PermI.setA {x im : Im} (h : PermI x im) (n : Nat) : PermI { x with als := rotZ n im.als } im := ⟨rotZ_perm n _, h.lks, h.rls, h.mbs, h.th, h.de⟩
theorem PermI.setL {x im : Im} (h : PermI x im) (n : Nat) : PermI { x with lks := rotZ n im.lks } im := ⟨h.als, rotZ_perm n _, h.rls, h.mbs, h.th, h.de⟩
theorem PermI.setM {x im : Im} (h : PermI x im) (n : Nat) : PermI { x with mbs := rotZ n im.mbs } im := ⟨h.als, h.lks, h.rls, rotZ_perm n _, h.th, h.de⟩
theorem held_shellV {P : Program} {md : Region.Mode} {ops : Array Oper} {S : World → Prop} {R : Value → Option Addr → Nat → Nat → World → Prop} {Q : Exit → Act → World → Prop} {n : Nat} {l : Array Bool} {a : Act} {w : World} {aF : Value → Option Addr → Nat → Nat → Act} (h1 : ∀ c (a : Act) d v w, Q (.panic c) (a.put d v) w → Q (.panic c) a w) (h2 : ∀ u v m c w, R u v m c w → Q .normal (aF u v m c) w)
    (h3 : ∀ K : Exit → Act → World → Prop, (∀ c (a : Act) d v w, K (.panic c) (a.put d v) w → K (.panic c) a w) → (∀ u v m c w, R u v m c w → K .normal (aF u v m c) w) → wpAnyH P md ops K S n l a w) : wpAnyH P md ops Q S n l a w := h3 Q h1 h2
theorem own_emptyZ (w : World) (e : TypeId) (sz : Nat) : (w.alloc (.cells #[] e)).ownsRow w.heap.size e sz (.slice (some ⟨w.heap.size, 0, none⟩) 0 0) 0 [] :=
  ⟨by simp, .inr ⟨w.heap.size, 0, #[], rfl, Nat.le_refl _, World.alloc_heap_new _ _, Nat.le_refl _, Nat.zero_le _, by simp, by simp⟩⟩
theorem own_capZ {w : World} {base sz n m cap g : Nat} {e : TypeId} {xs : List Value} (h : w.ownsRow base e sz (.slice (some ⟨g, 0, none⟩) m cap) n xs) : m = n ∧ n ≤ cap ∧ cap ≤ maxLen := by
  rcases h.2 with ⟨he, _⟩ | ⟨g', c', cur, he, _, _, hc, hm, _⟩
  · cases he
  · injection he with e1 e2 e3
    subst e2 e3
    exact ⟨rfl, hc, hm⟩
theorem slice_casesZ {w : World} {base sz n : Nat} {e : TypeId} {v : Value} {xs : List Value} (h : w.ownsRow base e sz v n xs) : (v = .slice none 0 0 ∧ n = 0) ∨ (∃ g, v = .slice (some ⟨g, 0, none⟩) n 0 ∧ n = 0) ∨ (∃ g cap, v = .slice (some ⟨g, 0, none⟩) n cap ∧ n ≤ cap ∧ 0 < cap ∧ cap ≤ maxLen) := by
  rcases h.2 with ⟨rfl, h0⟩ | ⟨g, c, cur, rfl, _, _, hc, hm, _⟩
  · exact .inl ⟨rfl, h0⟩
  · rcases Nat.eq_zero_or_pos c with h0 | h0
    · subst h0; exact .inr (.inl ⟨g, rfl, by omega⟩)
    · exact .inr (.inr ⟨g, c, rfl, hc, h0, hm⟩)
end Go.Proofs.YtgjifikahlmioaaGreatDoor
