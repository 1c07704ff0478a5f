/-
  A range over a function, where the iterator may range over a further iterator: what each side owes the other is told by block numbers alone. No program is named here. A range over a function, as in Seq; which of the old blocks a round leaves alone is told by a predicate (the iterator's own box lies among the caller's). No program is named here.
-/
import Derived.RangeFuncNested
import Derived.RangeFuncBound
import Derived.RangeFuncCalls
import Derived.RangeFuncLeaves
import Derived.WalkKit
/-! A range over a function, where the iterator may range over a further iterator: what each side owes the other is told by block numbers alone. No program is named here. -/
namespace Go.Proofs.Ytaiailcimpgmaaa
open Go Go.RowKit

/-- Blocks below lo, and those from hi on but the free ones, lie as they lay; the streams are as they were. -/
structure Keep (lo hi : Nat) (fr : Obj → Bool) (W W' : World) : Prop where
  os : W'.os = W.os
  tape : W'.tape = W.tape
  output : W'.output = W.output
  size : W.heap.size ≤ W'.heap.size
  blk : ∀ k o, W.heap[k]? = some o → (k < lo ∨ (hi ≤ k ∧ fr o = false)) → W'.heap[k]? = some o

section
variable {lo hi : Nat} {fr : Obj → Bool} {A B C W : World}
theorem Keep.refl (lo hi : Nat) (fr : Obj → Bool) (W : World) : Keep lo hi fr W W := ⟨rfl, rfl, rfl, Nat.le_refl _, fun _ _ h _ => h⟩
theorem Keep.trans (h : Keep lo hi fr A B) (k : Keep lo hi fr B C) : Keep lo hi fr A C :=
  ⟨k.os.trans h.os, k.tape.trans h.tape, k.output.trans h.output, Nat.le_trans h.size k.size, fun i o hi' hk => k.blk i o (h.blk i o hi' hk) hk⟩
theorem Keep.mono {lo' hi' : Nat} (h : Keep lo hi fr A B) (hl : lo' ≤ lo) (hh : hi ≤ hi') : Keep lo' hi' fr A B :=
  ⟨h.os, h.tape, h.output, h.size, fun k o hk hr => h.blk k o hk (hr.elim (fun h => .inl (by omega)) (fun h => .inr ⟨by omega, h.2⟩))⟩
theorem Keep.of_below (h : Below A.heap.size A B) : Keep lo hi fr A B :=
  ⟨h.os, h.tape, h.output, h.size, fun k _ hk _ => (h.block k (Array.getElem?_eq_some_iff.1 hk).1).trans hk⟩
theorem Keep.blk' (h : Keep lo hi fr A B) (k : Nat) (hk : k < A.heap.size) (hl : k < lo) : B.heap[k]? = A.heap[k]? := by
  rw [Array.getElem?_eq_getElem hk]
  exact h.blk k _ (Array.getElem?_eq_getElem hk) (.inl hl)
theorem Keep.grown {row : Option Nat} (h : A.grownBy B row) (hr : ∀ r, row = some r → lo ≤ r ∧ (r < hi ∨ ∃ o, A.heap[r]? = some o ∧ fr o = true)) : Keep lo hi fr A B :=
  ⟨h.os, h.tape, h.output, h.size, fun k o hk hk' => (h.block k (Array.getElem?_eq_some_iff.1 hk).1 (fun e => by
    obtain ⟨h1, h2⟩ := hr k e.symm
    rcases hk' with h' | ⟨h', hf⟩
    · omega
    · rcases h2 with h2 | ⟨o', ho', hf'⟩
      · omega
      · rw [hk] at ho'; cases ho'; rw [hf] at hf'; cases hf')).trans hk⟩
theorem Keep.setCell (lo hi : Nat) (fr : Obj → Bool) (W : World) {p : Addr} (v : Value) (h1 : lo ≤ p.block) (h2 : p.block < hi) : Keep lo hi fr W (W.setCell p v) :=
  ⟨rfl, rfl, rfl, by simp [World.setCell], fun k _ hk hr => (Below.heap_setCell _ _ _ _ (by omega)).trans hk⟩
theorem Keep.drew (lo hi : Nat) (fr : Obj → Bool) (W : World) : Keep lo hi fr W W.drew := ⟨rfl, rfl, rfl, Nat.le_refl _, fun _ _ h _ => h⟩
theorem Keep.putObj {r : Nat} {o : Obj} (o' : Obj) (_h : W.heap[r]? = some o) (h1 : lo ≤ r) (h2 : r < hi) : Keep lo hi fr W (W.putObj r o') :=
  Keep.grown (grownBy_putObj' W r o') (fun k e => by cases e; exact ⟨h1, .inl h2⟩)
end
theorem grown_of_below {A B : World} (h : Below A.heap.size A B) : A.grownBy B none := ⟨h.os, h.tape, h.output, h.size, fun k hk _ => h.block k hk⟩

theorem ownFrom_le {β : Type} {B B' : Nat} {I : β → World → Prop} (h : OwnFrom B I) (hB : B ≤ B') : OwnFrom B' I :=
  fun s W W' row hs hg hr => h s W W' row hs hg (fun r e => ⟨Nat.le_trans hB (hr r e).1, (hr r e).2⟩)
theorem ownFrom_block {β : Type} {B r : Nat} {o : Obj} (hr : r < B) : OwnFrom B (fun (_ : β) W => W.heap[r]? = some o) :=
  fun _ _ _ _ hs hg hrow => (hg.block r (Array.getElem?_eq_some_iff.1 hs).1 (fun e => by have := (hrow r e.symm).1; omega)).trans hs
theorem ownFrom_cell {β : Type} {B : Nat} {p : Addr} {v : Value} : OwnFrom B (fun (_ : β) W => W.cell? p = some v) :=
  fun _ _ _ _ hs hg hrow => cell_kept hs hg (fun r e => (hrow r e).2)

/-- The contract of an iterator: at whatever invariant of its caller that minds no block beyond the caller's heap, but cells. -/
def SeqZ {α : Type} (P : Program) (g : Nat) (lb : Array Value) (encs : α → Array Value) (lo : Nat) (fr : Obj → Bool) (S Sp : List α → Prop) (w : World) : Prop :=
  ∀ (n l : Nat) (J Jx : List α → World → Prop) (W : World), Below w.heap.size w W → OwnFrom W.heap.size J → OwnFrom W.heap.size Jx →
    (∀ pre x W1, J pre W1 → Sp (pre ++ [x]) → YieldAt Fence.wide (n - 1) P l (encs x) W1 fun e W' =>
      (e = .returned (.bool true) ∧ J (pre ++ [x]) W' ∧ Keep lo W.heap.size fr W1 W') ∨ (e = .returned (.bool false) ∧ Jx (pre ++ [x]) W' ∧ Keep lo W.heap.size fr W1 W')) →
    J [] W →
    CallsIn Fence.wide n P g (#[.func (.yield l) #[] #[]] ++ lb) W fun e W' => (∃ v, e = .returned v) ∧ ((∃ xs, S xs ∧ J xs W') ∨ (∃ pre, Sp pre ∧ Jx pre W'))

theorem SeqZ.later {α : Type} {P : Program} {g : Nat} {lb : Array Value} {encs : α → Array Value} {lo : Nat} {fr : Obj → Bool} {S Sp : List α → Prop} {w w' : World}
    (h : SeqZ P g lb encs lo fr S Sp w) (hb : Below w.heap.size w w') : SeqZ P g lb encs lo fr S Sp w' :=
  fun n l J Jx W hW hJ hJx hY h0 => h n l J Jx W (hb.trans (hW.mono hb.size)) hJ hJx hY h0

/-- At the wide fence no depth is asked. -/
theorem yield_any {P : Program} {m k l : Nat} {args : Array Value} {W : World} {R : Ending → World → Prop} (h : YieldAt Fence.wide m P l args W R) : YieldAt Fence.wide k P l args W R := by
  obtain ⟨fn, tmps, assign, body, h1, h2, h3⟩ := h
  exact ⟨fn, tmps, assign, body, h1, h2, fun c cs _ => h3 c cs (room_wide _)⟩

/-- How a round's body may end. -/
def endZ {α : Type} (lo hi : Nat) (fr : Obj → Bool) (I : List α → World → Prop) (Ix : Code → List α → World → Prop) (xs : List α) (W : World) : Exit → Act → World → Prop
  | .normal, _, W' => Keep lo hi fr W W' ∧ I xs W'
  | .ret, _, W' => Keep lo hi fr W W' ∧ Ix .ret xs W'
  | .exit id, _, W' => Keep lo hi fr W W' ∧ Ix (.exit id) xs W'
  | .goto t, _, W' => Keep lo hi fr W W' ∧ Ix (.goto t) xs W'
  | .panic _, _, _ => False
  | .outgrown, _, _ => False

variable {P : Program}

set_option maxRecDepth 100000 in
/-- A range over a function, by its iterator's contract and one walk of its body. -/
theorem rangeZ {α : Type} {n : Nat} {g : Operand} {ps : Array Tmp} {assign body : Code} {Q : Exit → Act → World → Prop} {a : Act} {w : World}
    {gf : Nat} {lb : Array Value} (hg : a.eval g = .func (.func gf) #[] lb) (eg : ∀ args w, (callFunc gf args).run P w = .ok (.enter gf args) w)
    {encs : α → Array Value} {lo : Nat} {fr : Obj → Bool} {S Sp : List α → Prop} (hseq : SeqZ P gf lb encs lo fr S Sp w) (hfr : ∀ o, fr o = true → o.isCells = true) (hlo : lo ≤ w.heap.size) (hps : ∀ x, (encs x).size = ps.size)
    (I : List α → World → Prop) (Ix : Code → List α → World → Prop) (hI : OwnFrom w.heap.size I) (hIx : ∀ c, OwnFrom w.heap.size (Ix c)) (h0 : I [] w) (a₁ : α → Act)
    (hassign : ∀ (l : Nat) (x : α) (W : World) (K : Act → World → Prop), K (a₁ x) W →
      assign.wpIn (Fence.wide.inRound l) (n - 1 - 1) P (Exit.then K (fun _ _ _ => False)) { tmps := (ps.zip (encs x)).foldl (fun t (p, v) => t.setIfInBounds p v) a.tmps, defers := [] } W)
    (hbody : ∀ (l : Nat) (pre : List α) (x : α) (W : World), I pre W → Sp (pre ++ [x]) → w.heap.size ≤ W.heap.size → body.wpIn (Fence.wide.inRound l) (n - 1 - 1) P (endZ lo w.heap.size fr I Ix (pre ++ [x]) W) (a₁ x) W)
    (hdone : ∀ (D : Nat) (xs : List α) (W : World), w.heap.size ≤ D → S xs → I xs W → W.heap[D]? = some (.deferred (some [])) → Q .normal { a with defers := { target := .collected D, args := #[] } :: a.defers } W)
    (hstop : ∀ (D : Nat) (c : Code) (pre : List α) (W : World), w.heap.size ≤ D → Sp pre → Ix c pre W → W.heap[D]? = some (.deferred (some [])) → c.wpIn Fence.wide n P Q { a with defers := { target := .collected D, args := #[] } :: a.defers } W) :
    (Code.rangeFunc g ps assign body).wpIn Fence.wide n P Q a w := by
  refine wpIn_rangeFunc ?_
  intro fn _
  have hro : Fence.wide.round = none := rfl
  rw [hro]
  obtain ⟨rec, hrec⟩ : ∃ rec : LoopState → Option Code → Loop, rec = fun st pe => { state := st, pending := pe, fn, tmps := a.tmps, params := ps, assign, body, defers := w.heap.size } := ⟨_, rfl⟩
  obtain ⟨W1, hW1⟩ : ∃ W1, (w.alloc (.deferred (some []))).alloc (.loop (rec .ready none)) = W1 := ⟨_, rfl⟩
  have hs1 : W1.heap.size = w.heap.size + 1 + 1 := by rw [← hW1]; simp
  have hL1 : W1.heap[w.heap.size + 1]? = some (.loop (rec .ready none)) := by
    have := World.alloc_heap_new (w.alloc (.deferred (some []))) (.loop (rec .ready none))
    rw [← hW1]; rwa [World.size_alloc] at this
  have hK1 : W1.heap[w.heap.size]? = some (.deferred (some [])) := by
    rw [← hW1]; exact (Below.heap_alloc _ _ _ (by simp)).trans (World.alloc_heap_new w _)
  have hI1 : I [] W1 := by rw [← hW1]; exact hI.alloc _ (hI.alloc _ h0)
  have hb1 : Below w.heap.size w W1 := by rw [← hW1]; exact ((Below.refl _ w).alloc (Nat.le_refl _) _).alloc (by simp) _
  refine ⟨w.heap.size + 1, [{ target := .collected w.heap.size, args := #[] }], W1, { target := .fn (.func gf) lb, args := #[.func (.yield (w.heap.size + 1)) #[] #[]] }, W1, gf,
    #[.func (.yield (w.heap.size + 1)) #[] #[]] ++ lb, W1, by rw [← hW1, hrec]; exact run_enterLoop_outer _ _ _ _ _, by simp only [resolve, hg]; simp [go_sem], fun _ _ => trivial, by simp [invoke, go_sem, eg], fun h => (by simp [Fence.wide] at h), ?_⟩
  refine (hseq (n - 1) (w.heap.size + 1)
    (fun pre W => (I pre W ∧ w.heap.size ≤ W.heap.size) ∧ (W.heap[w.heap.size + 1]? = some (.loop (rec .ready none)) ∧ W.heap[w.heap.size]? = some (.deferred (some []))))
    (fun pre W => ∃ c, Ix c pre W ∧ (W.heap[w.heap.size + 1]? = some (.loop (rec .done (some c))) ∧ W.heap[w.heap.size]? = some (.deferred (some []))))
    W1 hb1 ?own1 ?own2 ?round ⟨⟨hI1, by omega⟩, hL1, hK1⟩).mono ?after
  case own1 =>
    intro s A B row hs hg' hr
    exact ⟨⟨(ownFrom_le hI (by omega)) s A B row hs.1.1 hg' hr, Nat.le_trans hs.1.2 hg'.size⟩, ownFrom_block (β := Unit) (by omega) () A B row hs.2.1 hg' hr, ownFrom_block (β := Unit) (by omega) () A B row hs.2.2 hg' hr⟩
  case own2 =>
    rintro s A B row ⟨c, h1, h2, h3⟩ hg' hr
    exact ⟨c, (ownFrom_le (hIx c) (by omega)) s A B row h1 hg' hr, ownFrom_block (β := Unit) (by omega) () A B row h2 hg' hr, ownFrom_block (β := Unit) (by omega) () A B row h3 hg' hr⟩
  case round =>
    rintro pre x W ⟨⟨hi, hws⟩, hl, hk⟩ hlen
    have hlt : w.heap.size + 1 < W.heap.size := (Array.getElem?_eq_some_iff.1 hl).1
    have hy := run_yield (P := P) (args := encs x) hl (by rw [hrec]; exact hps x)
    rw [hrec] at hy
    refine ⟨fn, _, assign, body, hy, roundIn_of_wpIn (F := Fence.wide) trivial (hassign _ x W _ ?_)⟩
    clear hy
    refine ⟨_, run_beginRound hl (by rw [hrec]), ?_⟩
    obtain ⟨W2, hW2⟩ : ∃ W2, W.putObj (w.heap.size + 1) (.loop { rec .ready none with state := .busy }) = W2 := ⟨_, rfl⟩
    have hl2 : W2.heap[w.heap.size + 1]? = some (.loop { rec .ready none with state := .busy }) := by rw [← hW2]; exact World.putObj_heap_same hlt
    have hk2 : W2.heap[w.heap.size]? = some (.deferred (some [])) := by rw [← hW2]; exact (World.putObj_heap_other (by omega)).trans hk
    have hw2 : Keep lo W1.heap.size fr W W2 := by rw [← hW2]; exact Keep.putObj _ hl (by omega) (by omega)
    have hi2 : I pre W2 := by rw [← hW2]; exact hI.putObj _ hi (by omega) hl rfl
    rw [hW2]
    refine wpIn_mono (hbody _ pre x W2 hi2 hlen (Nat.le_trans hws hw2.size)) ?_
    have fin : ∀ (jump : Option Code) (W3 : World), Keep lo w.heap.size fr W2 W3 → ∃ W4, (Instr.endRound (w.heap.size + 1) jump).run P W3 = .ok (.bool jump.isNone) W4 ∧
        W4.heap[w.heap.size + 1]? = some (.loop (rec (if jump.isNone then .ready else .done) jump)) ∧ W4.heap[w.heap.size]? = some (.deferred (some [])) ∧ Keep lo W1.heap.size fr W W4 ∧
        W3.grownBy W4 (some (w.heap.size + 1)) ∧ W3.heap[w.heap.size + 1]? = some (.loop { rec .ready none with state := .busy }) := by
      intro jump W3 hk3
      have nfr : ∀ o : Obj, o.isCells = false → fr o = false := fun o ho => by
        cases hfo : fr o with
        | false => rfl
        | true => rw [hfr o hfo] at ho; cases ho
      have hl3 := hk3.blk _ _ hl2 (.inr ⟨by omega, nfr _ rfl⟩)
      have hd3 := hk3.blk _ _ hk2 (.inr ⟨by omega, nfr _ rfl⟩)
      have hre := run_endRound (P := P) jump hl3
      rw [hrec] at hre
      refine ⟨_, hre, ?_, (World.putObj_heap_other (by omega)).trans hd3, ?_, grownBy_putObj' _ _ _, hl3⟩
      · rw [hrec]; exact World.putObj_heap_same (Array.getElem?_eq_some_iff.1 hl3).1
      · exact (hw2.trans (hk3.mono (Nat.le_refl _) (by omega))).trans (Keep.putObj _ hl3 (by omega) (by omega))
    rintro e a3 W3 hp
    have leave : ∀ c, Keep lo w.heap.size fr W2 W3 → Ix c (pre ++ [x]) W3 → ∃ v W4, (Instr.endRound (w.heap.size + 1) (some c)).run P W3 = .ok v W4 ∧
        ((Ending.returned v = .returned (.bool true) ∧ (((I (pre ++ [x]) W4 ∧ w.heap.size ≤ W4.heap.size) ∧ (W4.heap[w.heap.size + 1]? = some (.loop (rec .ready none)) ∧ W4.heap[w.heap.size]? = some (.deferred (some [])))) ∧ Keep lo W1.heap.size fr W W4)) ∨
          (Ending.returned v = .returned (.bool false) ∧ (∃ c, Ix c (pre ++ [x]) W4 ∧ (W4.heap[w.heap.size + 1]? = some (.loop (rec .done (some c))) ∧ W4.heap[w.heap.size]? = some (.deferred (some [])))) ∧ Keep lo W1.heap.size fr W W4)) := by
      intro c hk3 hi3
      obtain ⟨W4, hr, hl4, hd4, hk4, hg4, ho⟩ := fin (some c) W3 hk3
      exact ⟨_, _, hr, .inr ⟨rfl, ⟨c, (hIx c) _ _ _ _ hi3 hg4 (fun r e => by cases e; exact ⟨by omega, _, ho, rfl⟩), hl4, hd4⟩, hk4⟩⟩
    cases e with
    | normal =>
      obtain ⟨hk3, hi3⟩ := hp
      obtain ⟨W4, hr, hl4, hd4, hk4, hg4, ho⟩ := fin none W3 hk3
      exact ⟨_, _, hr, .inl ⟨rfl, ⟨⟨hI _ _ _ _ hi3 hg4 (fun r e => by cases e; exact ⟨by omega, _, ho, rfl⟩), by have := hk4.size; omega⟩, hl4, hd4⟩, hk4⟩⟩
    | ret => exact leave _ hp.1 hp.2
    | exit id => exact leave _ hp.1 hp.2
    | goto t => exact leave _ hp.1 hp.2
    | panic ch => exact hp.elim
    | outgrown => exact hp.elim
  case after =>
    rintro e W2 ⟨⟨v, rfl⟩, (⟨xs, hS, ⟨hi, _⟩, hl, hk⟩ | ⟨pre, hSp, c, hi, hl, hk⟩)⟩
    · exact ⟨none, _, by have := run_endLoop (P := P) hl (by rw [hrec]; simp); rw [hrec] at this; exact this, hdone _ xs _ (Nat.le_refl _) hS (hI.putObj _ hi (by omega) hl rfl) ((World.putObj_heap_other (by omega)).trans hk)⟩
    · exact ⟨some c, _, by have := run_endLoop (P := P) hl (by rw [hrec]; simp); rw [hrec] at this; exact this, hstop _ c pre _ (Nat.le_refl _) hSp ((hIx c).putObj _ hi (by omega) hl rfl) ((World.putObj_heap_other (by omega)).trans hk)⟩
end Go.Proofs.Ytaiailcimpgmaaa

/-! A range over a function, as in Seq; which of the old blocks a round leaves alone is told by a predicate (the iterator's own box lies among the caller's). No program is named here. -/
namespace Go.Proofs.Ytaiailcimpgmaaa
open Go Go.RowKit

/-- Blocks of which q holds, and those from hi on but the free ones, lie as they lay; the streams are as they were. -/
structure KeepQ (q : Nat → Prop) (hi : Nat) (fr : Obj → Bool) (W W' : World) : Prop where
  os : W'.os = W.os
  tape : W'.tape = W.tape
  output : W'.output = W.output
  size : W.heap.size ≤ W'.heap.size
  blk : ∀ k o, W.heap[k]? = some o → (q k ∨ (hi ≤ k ∧ fr o = false)) → W'.heap[k]? = some o

section
variable {q : Nat → Prop} {hi : Nat} {fr : Obj → Bool} {A B C W : World}
theorem KeepQ.refl (q : Nat → Prop) (hi : Nat) (fr : Obj → Bool) (W : World) : KeepQ q hi fr W W := ⟨rfl, rfl, rfl, Nat.le_refl _, fun _ _ h _ => h⟩
theorem KeepQ.trans (h : KeepQ q hi fr A B) (k : KeepQ q hi fr B C) : KeepQ q hi fr A C :=
  ⟨k.os.trans h.os, k.tape.trans h.tape, k.output.trans h.output, Nat.le_trans h.size k.size, fun i o hi' hk => k.blk i o (h.blk i o hi' hk) hk⟩
theorem KeepQ.mono {q' : Nat → Prop} {hi' : Nat} (h : KeepQ q hi fr A B) (hl : ∀ k, q' k → q k) (hh : hi ≤ hi') : KeepQ q' hi' fr A B :=
  ⟨h.os, h.tape, h.output, h.size, fun k o hk hr => h.blk k o hk (hr.elim (fun h => .inl (hl k h)) (fun h => .inr ⟨by omega, h.2⟩))⟩
theorem KeepQ.of_below (h : Below A.heap.size A B) : KeepQ q hi fr A B :=
  ⟨h.os, h.tape, h.output, h.size, fun k _ hk _ => (h.block k (Array.getElem?_eq_some_iff.1 hk).1).trans hk⟩
theorem KeepQ.blk' (h : KeepQ q hi fr A B) (k : Nat) (hk : k < A.heap.size) (hl : q k) : B.heap[k]? = A.heap[k]? := by
  rw [Array.getElem?_eq_getElem hk]
  exact h.blk k _ (Array.getElem?_eq_getElem hk) (.inl hl)
theorem KeepQ.grown {row : Option Nat} (h : A.grownBy B row) (hr : ∀ r, row = some r → ¬ q r ∧ (r < hi ∨ ∃ o, A.heap[r]? = some o ∧ fr o = true)) : KeepQ q hi fr A B :=
  ⟨h.os, h.tape, h.output, h.size, fun k o hk hk' => (h.block k (Array.getElem?_eq_some_iff.1 hk).1 (fun e => by
    obtain ⟨h1, h2⟩ := hr k e.symm
    rcases hk' with h' | ⟨h', hf⟩
    · exact h1 h'
    · rcases h2 with h2 | ⟨o', ho', hf'⟩
      · omega
      · rw [hk] at ho'; cases ho'; rw [hf] at hf'; cases hf')).trans hk⟩
theorem KeepQ.setCell (q : Nat → Prop) (hi : Nat) (fr : Obj → Bool) (W : World) {p : Addr} (v : Value) (h1 : ¬ q p.block) (h2 : p.block < hi) : KeepQ q hi fr W (W.setCell p v) :=
  ⟨rfl, rfl, rfl, by simp [World.setCell], fun k _ hk hr => (Below.heap_setCell _ _ _ _ (fun e => by
    rcases hr with hr | hr
    · exact h1 (e ▸ hr)
    · omega)).trans hk⟩
theorem KeepQ.putObj {r : Nat} {o : Obj} (o' : Obj) (_h : W.heap[r]? = some o) (h1 : ¬ q r) (h2 : r < hi) : KeepQ q hi fr W (W.putObj r o') :=
  KeepQ.grown (grownBy_putObj' W r o') (fun k e => by cases e; exact ⟨h1, .inl h2⟩)
end

/-- The contract of an iterator. -/
def SeqQ {α : Type} (P : Program) (g : Nat) (lb : Array Value) (encs : α → Array Value) (q : Nat → Prop) (fr : Obj → Bool) (S Sp : List α → Prop) (w : World) : Prop :=
  ∀ (n l : Nat) (J Jx : List α → World → Prop) (W : World), Below w.heap.size w W → OwnFrom W.heap.size J → OwnFrom W.heap.size Jx →
    (∀ pre x W1, J pre W1 → Sp (pre ++ [x]) → YieldAt Fence.wide (n - 1) P l (encs x) W1 fun e W' =>
      (e = .returned (.bool true) ∧ J (pre ++ [x]) W' ∧ KeepQ q W.heap.size fr W1 W') ∨ (e = .returned (.bool false) ∧ Jx (pre ++ [x]) W' ∧ KeepQ q W.heap.size fr W1 W')) →
    J [] W →
    CallsIn Fence.wide n P g (#[.func (.yield l) #[] #[]] ++ lb) W fun e W' => (∃ v, e = .returned v) ∧ ((∃ xs, S xs ∧ J xs W') ∨ (∃ pre, Sp pre ∧ Jx pre W'))
theorem SeqQ.later {α : Type} {P : Program} {g : Nat} {lb : Array Value} {encs : α → Array Value} {q : Nat → Prop} {fr : Obj → Bool} {S Sp : List α → Prop} {w w' : World}
    (h : SeqQ P g lb encs q fr S Sp w) (hb : Below w.heap.size w w') : SeqQ P g lb encs q fr S Sp w' :=
  fun n l J Jx W hW hJ hJx hY h0 => h n l J Jx W (hb.trans (hW.mono hb.size)) hJ hJx hY h0

/-- How a round's body may end. -/
def endQ {α : Type} (q : Nat → Prop) (hi : Nat) (fr : Obj → Bool) (I : List α → World → Prop) (Ix : Code → List α → World → Prop) (xs : List α) (W : World) : Exit → Act → World → Prop
  | .normal, _, W' => KeepQ q hi fr W W' ∧ I xs W'
  | .ret, _, W' => KeepQ q hi fr W W' ∧ Ix .ret xs W'
  | .exit id, _, W' => KeepQ q hi fr W W' ∧ Ix (.exit id) xs W'
  | .goto t, _, W' => KeepQ q hi fr W W' ∧ Ix (.goto t) xs W'
  | .panic _, _, _ => False
  | .outgrown, _, _ => False

variable {P : Program}

set_option maxRecDepth 100000 in
/-- A range over a function, by its iterator's contract and one walk of its body. -/
theorem rangeQ {α : Type} {n : Nat} {g : Operand} {ps : Array Tmp} {assign body : Code} {Q : Exit → Act → World → Prop} {a : Act} {w : World}
    {gf : Nat} {lb : Array Value} (hg : a.eval g = .func (.func gf) #[] lb) (eg : ∀ args w, (callFunc gf args).run P w = .ok (.enter gf args) w)
    {encs : α → Array Value} {q : Nat → Prop} {fr : Obj → Bool} {S Sp : List α → Prop} (hseq : SeqQ P gf lb encs q fr S Sp w) (hfr : ∀ o, fr o = true → o.isCells = true) (hq : ∀ k, q k → k < w.heap.size) (hps : ∀ x, (encs x).size = ps.size)
    (I : List α → World → Prop) (Ix : Code → List α → World → Prop) (hI : OwnFrom w.heap.size I) (hIx : ∀ c, OwnFrom w.heap.size (Ix c)) (h0 : I [] w) (a₁ : α → Act)
    (hassign : ∀ (l : Nat) (x : α) (W : World) (K : Act → World → Prop), K (a₁ x) W →
      assign.wpIn (Fence.wide.inRound l) (n - 1 - 1) P (Exit.then K (fun _ _ _ => False)) { tmps := (ps.zip (encs x)).foldl (fun t (p, v) => t.setIfInBounds p v) a.tmps, defers := [] } W)
    (hbody : ∀ (l : Nat) (pre : List α) (x : α) (W : World), I pre W → Sp (pre ++ [x]) → w.heap.size ≤ W.heap.size → body.wpIn (Fence.wide.inRound l) (n - 1 - 1) P (endQ q w.heap.size fr I Ix (pre ++ [x]) W) (a₁ x) W)
    (hdone : ∀ (D : Nat) (xs : List α) (W : World), w.heap.size ≤ D → S xs → I xs W → W.heap[D]? = some (.deferred (some [])) → Q .normal { a with defers := { target := .collected D, args := #[] } :: a.defers } W)
    (hstop : ∀ (D : Nat) (c : Code) (pre : List α) (W : World), w.heap.size ≤ D → Sp pre → Ix c pre W → W.heap[D]? = some (.deferred (some [])) → c.wpIn Fence.wide n P Q { a with defers := { target := .collected D, args := #[] } :: a.defers } W) :
    (Code.rangeFunc g ps assign body).wpIn Fence.wide n P Q a w := by
  refine wpIn_rangeFunc ?_
  intro fn _
  have hro : Fence.wide.round = none := rfl
  rw [hro]
  obtain ⟨rec, hrec⟩ : ∃ rec : LoopState → Option Code → Loop, rec = fun st pe => { state := st, pending := pe, fn, tmps := a.tmps, params := ps, assign, body, defers := w.heap.size } := ⟨_, rfl⟩
  obtain ⟨W1, hW1⟩ : ∃ W1, (w.alloc (.deferred (some []))).alloc (.loop (rec .ready none)) = W1 := ⟨_, rfl⟩
  have hs1 : W1.heap.size = w.heap.size + 1 + 1 := by rw [← hW1]; simp
  have hL1 : W1.heap[w.heap.size + 1]? = some (.loop (rec .ready none)) := by
    have := World.alloc_heap_new (w.alloc (.deferred (some []))) (.loop (rec .ready none))
    rw [← hW1]; rwa [World.size_alloc] at this
  have hK1 : W1.heap[w.heap.size]? = some (.deferred (some [])) := by
    rw [← hW1]; exact (Below.heap_alloc _ _ _ (by simp)).trans (World.alloc_heap_new w _)
  have hI1 : I [] W1 := by rw [← hW1]; exact hI.alloc _ (hI.alloc _ h0)
  have hb1 : Below w.heap.size w W1 := by rw [← hW1]; exact ((Below.refl _ w).alloc (Nat.le_refl _) _).alloc (by simp) _
  refine ⟨w.heap.size + 1, [{ target := .collected w.heap.size, args := #[] }], W1, { target := .fn (.func gf) lb, args := #[.func (.yield (w.heap.size + 1)) #[] #[]] }, W1, gf,
    #[.func (.yield (w.heap.size + 1)) #[] #[]] ++ lb, W1, by rw [← hW1, hrec]; exact run_enterLoop_outer _ _ _ _ _, by simp only [resolve, hg]; simp [go_sem], fun _ _ => trivial, by simp [invoke, go_sem, eg], fun h => (by simp [Fence.wide] at h), ?_⟩
  refine (hseq (n - 1) (w.heap.size + 1)
    (fun pre W => (I pre W ∧ w.heap.size ≤ W.heap.size) ∧ (W.heap[w.heap.size + 1]? = some (.loop (rec .ready none)) ∧ W.heap[w.heap.size]? = some (.deferred (some []))))
    (fun pre W => ∃ c, Ix c pre W ∧ (W.heap[w.heap.size + 1]? = some (.loop (rec .done (some c))) ∧ W.heap[w.heap.size]? = some (.deferred (some []))))
    W1 hb1 ?own1 ?own2 ?round ⟨⟨hI1, by omega⟩, hL1, hK1⟩).mono ?after
  case own1 =>
    intro s A B row hs hg' hr
    exact ⟨⟨(ownFrom_le hI (by omega)) s A B row hs.1.1 hg' hr, Nat.le_trans hs.1.2 hg'.size⟩, ownFrom_block (β := Unit) (by omega) () A B row hs.2.1 hg' hr, ownFrom_block (β := Unit) (by omega) () A B row hs.2.2 hg' hr⟩
  case own2 =>
    rintro s A B row ⟨c, h1, h2, h3⟩ hg' hr
    exact ⟨c, (ownFrom_le (hIx c) (by omega)) s A B row h1 hg' hr, ownFrom_block (β := Unit) (by omega) () A B row h2 hg' hr, ownFrom_block (β := Unit) (by omega) () A B row h3 hg' hr⟩
  case round =>
    rintro pre x W ⟨⟨hi, hws⟩, hl, hk⟩ hlen
    have hlt : w.heap.size + 1 < W.heap.size := (Array.getElem?_eq_some_iff.1 hl).1
    have hy := run_yield (P := P) (args := encs x) hl (by rw [hrec]; exact hps x)
    rw [hrec] at hy
    refine ⟨fn, _, assign, body, hy, roundIn_of_wpIn (F := Fence.wide) trivial (hassign _ x W _ ?_)⟩
    clear hy
    refine ⟨_, run_beginRound hl (by rw [hrec]), ?_⟩
    obtain ⟨W2, hW2⟩ : ∃ W2, W.putObj (w.heap.size + 1) (.loop { rec .ready none with state := .busy }) = W2 := ⟨_, rfl⟩
    have hl2 : W2.heap[w.heap.size + 1]? = some (.loop { rec .ready none with state := .busy }) := by rw [← hW2]; exact World.putObj_heap_same hlt
    have hk2 : W2.heap[w.heap.size]? = some (.deferred (some [])) := by rw [← hW2]; exact (World.putObj_heap_other (by omega)).trans hk
    have hw2 : KeepQ q W1.heap.size fr W W2 := by rw [← hW2]; exact KeepQ.putObj _ hl (fun h => by have := hq _ h; omega) (by omega)
    have hi2 : I pre W2 := by rw [← hW2]; exact hI.putObj _ hi (by omega) hl rfl
    rw [hW2]
    refine wpIn_mono (hbody _ pre x W2 hi2 hlen (Nat.le_trans hws hw2.size)) ?_
    have fin : ∀ (jump : Option Code) (W3 : World), KeepQ q w.heap.size fr W2 W3 → ∃ W4, (Instr.endRound (w.heap.size + 1) jump).run P W3 = .ok (.bool jump.isNone) W4 ∧
        W4.heap[w.heap.size + 1]? = some (.loop (rec (if jump.isNone then .ready else .done) jump)) ∧ W4.heap[w.heap.size]? = some (.deferred (some [])) ∧ KeepQ q W1.heap.size fr W W4 ∧
        W3.grownBy W4 (some (w.heap.size + 1)) ∧ W3.heap[w.heap.size + 1]? = some (.loop { rec .ready none with state := .busy }) := by
      intro jump W3 hk3
      have nfr : ∀ o : Obj, o.isCells = false → fr o = false := fun o ho => by
        cases hfo : fr o with
        | false => rfl
        | true => rw [hfr o hfo] at ho; cases ho
      have hl3 := hk3.blk _ _ hl2 (.inr ⟨by omega, nfr _ rfl⟩)
      have hd3 := hk3.blk _ _ hk2 (.inr ⟨by omega, nfr _ rfl⟩)
      have hre := run_endRound (P := P) jump hl3
      rw [hrec] at hre
      refine ⟨_, hre, ?_, (World.putObj_heap_other (by omega)).trans hd3, ?_, grownBy_putObj' _ _ _, hl3⟩
      · rw [hrec]; exact World.putObj_heap_same (Array.getElem?_eq_some_iff.1 hl3).1
      · exact (hw2.trans (hk3.mono (fun _ h => h) (by omega))).trans (KeepQ.putObj _ hl3 (fun h => by have := hq _ h; omega) (by omega))
    rintro e a3 W3 hp
    have leave : ∀ c, KeepQ q w.heap.size fr W2 W3 → Ix c (pre ++ [x]) W3 → ∃ v W4, (Instr.endRound (w.heap.size + 1) (some c)).run P W3 = .ok v W4 ∧
        ((Ending.returned v = .returned (.bool true) ∧ (((I (pre ++ [x]) W4 ∧ w.heap.size ≤ W4.heap.size) ∧ (W4.heap[w.heap.size + 1]? = some (.loop (rec .ready none)) ∧ W4.heap[w.heap.size]? = some (.deferred (some [])))) ∧ KeepQ q W1.heap.size fr W W4)) ∨
          (Ending.returned v = .returned (.bool false) ∧ (∃ c, Ix c (pre ++ [x]) W4 ∧ (W4.heap[w.heap.size + 1]? = some (.loop (rec .done (some c))) ∧ W4.heap[w.heap.size]? = some (.deferred (some [])))) ∧ KeepQ q W1.heap.size fr W W4)) := by
      intro c hk3 hi3
      obtain ⟨W4, hr, hl4, hd4, hk4, hg4, ho⟩ := fin (some c) W3 hk3
      exact ⟨_, _, hr, .inr ⟨rfl, ⟨c, (hIx c) _ _ _ _ hi3 hg4 (fun r e => by cases e; exact ⟨by omega, _, ho, rfl⟩), hl4, hd4⟩, hk4⟩⟩
    cases e with
    | normal =>
      obtain ⟨hk3, hi3⟩ := hp
      obtain ⟨W4, hr, hl4, hd4, hk4, hg4, ho⟩ := fin none W3 hk3
      exact ⟨_, _, hr, .inl ⟨rfl, ⟨⟨hI _ _ _ _ hi3 hg4 (fun r e => by cases e; exact ⟨by omega, _, ho, rfl⟩), by have := hk4.size; omega⟩, hl4, hd4⟩, hk4⟩⟩
    | ret => exact leave _ hp.1 hp.2
    | exit id => exact leave _ hp.1 hp.2
    | goto t => exact leave _ hp.1 hp.2
    | panic ch => exact hp.elim
    | outgrown => exact hp.elim
  case after =>
    rintro e W2 ⟨⟨v, rfl⟩, (⟨xs, hS, ⟨hi, _⟩, hl, hk⟩ | ⟨pre, hSp, c, hi, hl, hk⟩)⟩
    · exact ⟨none, _, by have := run_endLoop (P := P) hl (by rw [hrec]; simp); rw [hrec] at this; exact this, hdone _ xs _ (Nat.le_refl _) hS (hI.putObj _ hi (by omega) hl rfl) ((World.putObj_heap_other (by omega)).trans hk)⟩
    · exact ⟨some c, _, by have := run_endLoop (P := P) hl (by rw [hrec]; simp); rw [hrec] at this; exact this, hstop _ c pre _ (Nat.le_refl _) hSp ((hIx c).putObj _ hi (by omega) hl rfl) ((World.putObj_heap_other (by omega)).trans hk)⟩
end Go.Proofs.Ytaiailcimpgmaaa
