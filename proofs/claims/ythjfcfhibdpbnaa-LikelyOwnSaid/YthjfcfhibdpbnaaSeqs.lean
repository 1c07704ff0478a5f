/-
  A range over a function, where the iterator may range over a further iterator: what each side owes the other is told by block numbers alone. No program is named here. A range over a function, as in Seq; which of the old blocks a round leaves alone is told by a predicate (the iterator's own box lies among the caller's). No program is named here.
-/
import Derived.RangeFuncNested
import Derived.RangeFuncBound
import Derived.RangeFuncCalls
import Derived.RangeFuncLeaves
import Derived.WalkKit
/-! A range over a function, where the iterator may range over a further iterator: what each side owes the other is told by block numbers alone. No program is named here. -/
namespace Go.Proofs.Ythjfcfhibdpbnaa
open Go Go.RowKit

/-- Blocks below lo, and those from hi on but the free ones, lie as they lay; the streams are as they were. -/
structure Keep (lo hi : Nat) (fr : Obj → Bool) (W W' : World) : Prop where
  os : W'.os = W.os
  tape : W'.tape = W.tape
  output : W'.output = W.output
  size : W.heap.size ≤ W'.heap.size
  blk : ∀ k o, W.heap[k]? = some o → (k < lo ∨ (hi ≤ k ∧ fr o = false)) → W'.heap[k]? = some o

section
variable {lo hi : Nat} {fr : Obj → Bool} {A B C W : World}
theorem Keep.refl (lo hi : Nat) (fr : Obj → Bool) (W : World) : Keep lo hi fr W W := ⟨rfl, rfl, rfl, Nat.le_refl _, fun _ _ h _ => h⟩
theorem Keep.trans (h : Keep lo hi fr A B) (k : Keep lo hi fr B C) : Keep lo hi fr A C :=
  ⟨k.os.trans h.os, k.tape.trans h.tape, k.output.trans h.output, Nat.le_trans h.size k.size, fun i o hi' hk => k.blk i o (h.blk i o hi' hk) hk⟩
theorem Keep.mono {lo' hi' : Nat} (h : Keep lo hi fr A B) (hl : lo' ≤ lo) (hh : hi ≤ hi') : Keep lo' hi' fr A B :=
  ⟨h.os, h.tape, h.output, h.size, fun k o hk hr => h.blk k o hk (hr.elim (fun h => .inl (by omega)) (fun h => .inr ⟨by omega, h.2⟩))⟩
theorem Keep.of_below (h : Below A.heap.size A B) : Keep lo hi fr A B :=
  ⟨h.os, h.tape, h.output, h.size, fun k _ hk _ => (h.block k (Array.getElem?_eq_some_iff.1 hk).1).trans hk⟩
theorem Keep.grown {row : Option Nat} (h : A.grownBy B row) (hr : ∀ r, row = some r → lo ≤ r ∧ (r < hi ∨ ∃ o, A.heap[r]? = some o ∧ fr o = true)) : Keep lo hi fr A B :=
  ⟨h.os, h.tape, h.output, h.size, fun k o hk hk' => (h.block k (Array.getElem?_eq_some_iff.1 hk).1 (fun e => by
    obtain ⟨h1, h2⟩ := hr k e.symm
    rcases hk' with h' | ⟨h', hf⟩
    · omega
    · rcases h2 with h2 | ⟨o', ho', hf'⟩
      · omega
      · rw [hk] at ho'; cases ho'; rw [hf] at hf'; cases hf')).trans hk⟩
theorem Keep.setCell (lo hi : Nat) (fr : Obj → Bool) (W : World) {p : Addr} (v : Value) (h1 : lo ≤ p.block) (h2 : p.block < hi) : Keep lo hi fr W (W.setCell p v) :=
  ⟨rfl, rfl, rfl, by simp [World.setCell], fun k _ hk hr => (Below.heap_setCell _ _ _ _ (by omega)).trans hk⟩
theorem Keep.drew (lo hi : Nat) (fr : Obj → Bool) (W : World) : Keep lo hi fr W W.drew := ⟨rfl, rfl, rfl, Nat.le_refl _, fun _ _ h _ => h⟩
theorem Keep.putObj {r : Nat} {o : Obj} (o' : Obj) (_h : W.heap[r]? = some o) (h1 : lo ≤ r) (h2 : r < hi) : Keep lo hi fr W (W.putObj r o') :=
  Keep.grown (grownBy_putObj' W r o') (fun k e => by cases e; exact ⟨h1, .inl h2⟩)
end
theorem grown_of_below {A B : World} (h : Below A.heap.size A B) : A.grownBy B none := ⟨h.os, h.tape, h.output, h.size, fun k hk _ => h.block k hk⟩

theorem ownFrom_le {β : Type} {B B' : Nat} {I : β → World → Prop} (h : OwnFrom B I) (hB : B ≤ B') : OwnFrom B' I :=
  fun s W W' row hs hg hr => h s W W' row hs hg (fun r e => ⟨Nat.le_trans hB (hr r e).1, (hr r e).2⟩)
theorem ownFrom_block {β : Type} {B r : Nat} {o : Obj} (hr : r < B) : OwnFrom B (fun (_ : β) W => W.heap[r]? = some o) :=
  fun _ _ _ _ hs hg hrow => (hg.block r (Array.getElem?_eq_some_iff.1 hs).1 (fun e => by have := (hrow r e.symm).1; omega)).trans hs
/-- The contract of an iterator: at whatever invariant of its caller that minds no block beyond the caller's heap, but cells. -/
def SeqZ {α : Type} (P : Program) (g : Nat) (lb : Array Value) (encs : α → Array Value) (lo : Nat) (fr : Obj → Bool) (S Sp : List α → Prop) (w : World) : Prop :=
  ∀ (n l : Nat) (J Jx : List α → World → Prop) (W : World), Below w.heap.size w W → OwnFrom W.heap.size J → OwnFrom W.heap.size Jx →
    (∀ pre x W1, J pre W1 → Sp (pre ++ [x]) → YieldAt Fence.wide (n - 1) P l (encs x) W1 fun e W' =>
      (e = .returned (.bool true) ∧ J (pre ++ [x]) W' ∧ Keep lo W.heap.size fr W1 W') ∨ (e = .returned (.bool false) ∧ Jx (pre ++ [x]) W' ∧ Keep lo W.heap.size fr W1 W')) →
    J [] W →
    CallsIn Fence.wide n P g (#[.func (.yield l) #[] #[]] ++ lb) W fun e W' => (∃ v, e = .returned v) ∧ ((∃ xs, S xs ∧ J xs W') ∨ (∃ pre, Sp pre ∧ Jx pre W'))

theorem SeqZ.later {α : Type} {P : Program} {g : Nat} {lb : Array Value} {encs : α → Array Value} {lo : Nat} {fr : Obj → Bool} {S Sp : List α → Prop} {w w' : World}
    (h : SeqZ P g lb encs lo fr S Sp w) (hb : Below w.heap.size w w') : SeqZ P g lb encs lo fr S Sp w' :=
  fun n l J Jx W hW hJ hJx hY h0 => h n l J Jx W (hb.trans (hW.mono hb.size)) hJ hJx hY h0

variable {P : Program}

end Go.Proofs.Ythjfcfhibdpbnaa

/-! A range over a function, as in Seq; which of the old blocks a round leaves alone is told by a predicate (the iterator's own box lies among the caller's). No program is named here. -/
namespace Go.Proofs.Ythjfcfhibdpbnaa
open Go Go.RowKit

/-- Blocks of which q holds, and those from hi on but the free ones, lie as they lay; the streams are as they were. -/
structure KeepQ (q : Nat → Prop) (hi : Nat) (fr : Obj → Bool) (W W' : World) : Prop where
  os : W'.os = W.os
  tape : W'.tape = W.tape
  output : W'.output = W.output
  size : W.heap.size ≤ W'.heap.size
  blk : ∀ k o, W.heap[k]? = some o → (q k ∨ (hi ≤ k ∧ fr o = false)) → W'.heap[k]? = some o

section
variable {q : Nat → Prop} {hi : Nat} {fr : Obj → Bool} {A B C W : World}
theorem KeepQ.refl (q : Nat → Prop) (hi : Nat) (fr : Obj → Bool) (W : World) : KeepQ q hi fr W W := ⟨rfl, rfl, rfl, Nat.le_refl _, fun _ _ h _ => h⟩
theorem KeepQ.trans (h : KeepQ q hi fr A B) (k : KeepQ q hi fr B C) : KeepQ q hi fr A C :=
  ⟨k.os.trans h.os, k.tape.trans h.tape, k.output.trans h.output, Nat.le_trans h.size k.size, fun i o hi' hk => k.blk i o (h.blk i o hi' hk) hk⟩
theorem KeepQ.mono {q' : Nat → Prop} {hi' : Nat} (h : KeepQ q hi fr A B) (hl : ∀ k, q' k → q k) (hh : hi ≤ hi') : KeepQ q' hi' fr A B :=
  ⟨h.os, h.tape, h.output, h.size, fun k o hk hr => h.blk k o hk (hr.elim (fun h => .inl (hl k h)) (fun h => .inr ⟨by omega, h.2⟩))⟩
theorem KeepQ.of_below (h : Below A.heap.size A B) : KeepQ q hi fr A B :=
  ⟨h.os, h.tape, h.output, h.size, fun k _ hk _ => (h.block k (Array.getElem?_eq_some_iff.1 hk).1).trans hk⟩
theorem KeepQ.grown {row : Option Nat} (h : A.grownBy B row) (hr : ∀ r, row = some r → ¬ q r ∧ (r < hi ∨ ∃ o, A.heap[r]? = some o ∧ fr o = true)) : KeepQ q hi fr A B :=
  ⟨h.os, h.tape, h.output, h.size, fun k o hk hk' => (h.block k (Array.getElem?_eq_some_iff.1 hk).1 (fun e => by
    obtain ⟨h1, h2⟩ := hr k e.symm
    rcases hk' with h' | ⟨h', hf⟩
    · exact h1 h'
    · rcases h2 with h2 | ⟨o', ho', hf'⟩
      · omega
      · rw [hk] at ho'; cases ho'; rw [hf] at hf'; cases hf')).trans hk⟩
theorem KeepQ.setCell (q : Nat → Prop) (hi : Nat) (fr : Obj → Bool) (W : World) {p : Addr} (v : Value) (h1 : ¬ q p.block) (h2 : p.block < hi) : KeepQ q hi fr W (W.setCell p v) :=
  ⟨rfl, rfl, rfl, by simp [World.setCell], fun k _ hk hr => (Below.heap_setCell _ _ _ _ (fun e => by
    rcases hr with hr | hr
    · exact h1 (e ▸ hr)
    · omega)).trans hk⟩
theorem KeepQ.putObj {r : Nat} {o : Obj} (o' : Obj) (_h : W.heap[r]? = some o) (h1 : ¬ q r) (h2 : r < hi) : KeepQ q hi fr W (W.putObj r o') :=
  KeepQ.grown (grownBy_putObj' W r o') (fun k e => by cases e; exact ⟨h1, .inl h2⟩)
end

/-- The contract of an iterator. -/
def SeqQ {α : Type} (P : Program) (g : Nat) (lb : Array Value) (encs : α → Array Value) (q : Nat → Prop) (fr : Obj → Bool) (S Sp : List α → Prop) (w : World) : Prop :=
  ∀ (n l : Nat) (J Jx : List α → World → Prop) (W : World), Below w.heap.size w W → OwnFrom W.heap.size J → OwnFrom W.heap.size Jx →
    (∀ pre x W1, J pre W1 → Sp (pre ++ [x]) → YieldAt Fence.wide (n - 1) P l (encs x) W1 fun e W' =>
      (e = .returned (.bool true) ∧ J (pre ++ [x]) W' ∧ KeepQ q W.heap.size fr W1 W') ∨ (e = .returned (.bool false) ∧ Jx (pre ++ [x]) W' ∧ KeepQ q W.heap.size fr W1 W')) →
    J [] W →
    CallsIn Fence.wide n P g (#[.func (.yield l) #[] #[]] ++ lb) W fun e W' => (∃ v, e = .returned v) ∧ ((∃ xs, S xs ∧ J xs W') ∨ (∃ pre, Sp pre ∧ Jx pre W'))
theorem SeqQ.later {α : Type} {P : Program} {g : Nat} {lb : Array Value} {encs : α → Array Value} {q : Nat → Prop} {fr : Obj → Bool} {S Sp : List α → Prop} {w w' : World}
    (h : SeqQ P g lb encs q fr S Sp w) (hb : Below w.heap.size w w') : SeqQ P g lb encs q fr S Sp w' :=
  fun n l J Jx W hW hJ hJx hY h0 => h n l J Jx W (hb.trans (hW.mono hb.size)) hJ hJx hY h0

/-- How a round's body may end. -/
def endQ {α : Type} (q : Nat → Prop) (hi : Nat) (fr : Obj → Bool) (I : List α → World → Prop) (Ix : Code → List α → World → Prop) (xs : List α) (W : World) : Exit → Act → World → Prop
  | .normal, _, W' => KeepQ q hi fr W W' ∧ I xs W'
  | .ret, _, W' => KeepQ q hi fr W W' ∧ Ix .ret xs W'
  | .exit id, _, W' => KeepQ q hi fr W W' ∧ Ix (.exit id) xs W'
  | .goto t, _, W' => KeepQ q hi fr W W' ∧ Ix (.goto t) xs W'
  | .panic _, _, _ => False
  | .outgrown, _, _ => False

variable {P : Program}

end Go.Proofs.Ythjfcfhibdpbnaa
