/-
  Rows of literals: what many 'build's in a row leave in the frame, reckoned by the kernel in one go; a slice of literals. No program is named here.
-/
import Derived.Great.BuildSlice
import Derived.Tactics
import Derived.KernelRfl
namespace Go.Proofs.Ytaiailcimpgmaaa
open Go

def litActs (P : Program) : List Oper → Act → Option Act
  | [], a => some a
  | o :: r, a =>
    match o.guard, o.op with
    | none, .build t parts => (P.built t (parts.map fun (i, x) => (i, a.eval x)).toList).bind fun cells => litActs P r (a.put o.dst (.agg cells))
    | none, .assign x => litActs P r (a.put o.dst (a.eval x))
    | _, _ => none
theorem wpList_lits {P : Program} {ops : Array Oper} {Q : Exit → Act → World → Prop} {w : World} : ∀ (l : List Oper) {rest : List Oper} {a a' : Act}, litActs P l a = some a' → wpList P ops Q rest a' w → wpList P ops Q (l ++ rest) a w
  | [], _, a, a', h, hK => by
    obtain rfl : a = a' := Option.some.inj h
    exact hK
  | o :: r, rest, a, a', h, hK => by
    unfold litActs at h
    split at h
    · rename_i t parts hg ho
      obtain ⟨cells, hc, h⟩ := Option.bind_eq_some_iff.1 h
      refine wpList_build hg t parts ho (by rw [hc]; rfl) ?_
      rw [hc]
      exact wpList_lits r h hK
    · rename_i x hg ho
      refine wpList_plain hg fun K hK' => ?_
      unfold Oper.wp
      simp only [execOp, ho]
      exact hK' _ _ (wpList_lits r h hK)
    · cases h
theorem wpList_litsN {P : Program} {ops : Array Oper} {Q : Exit → Act → World → Prop} {w : World} {l : List Oper} {a : Act} (n : Nat) (a' : Act) (h : litActs P (l.take n) a = some a') (hK : wpList P ops Q (l.drop n) a' w) : wpList P ops Q l a w := by
  have := wpList_lits (ops := ops) (Q := Q) (w := w) (l.take n) h hK
  rwa [List.take_append_drop] at this
def litRow (P : Program) (e : TypeId) (len : Nat) (vals : List (Nat × Value)) : Option (Array Value) :=
  (P.info? e).bind fun ie => ie.zero.bind fun z => if 0 < len * ie.size ∧ len * ie.size ≤ 2 ^ 24 then Instr.fill (fun i => some (i * ie.size, ie.size)) ((Array.range (len * ie.size)).map (z.cells[· % z.cells.size]!)) vals else none
theorem wpList_litRow {P : Program} {ops : Array Oper} {rest : List Oper} {o : Oper} {a a' : Act} {w : World} {Q : Exit → Act → World → Prop} (t e : TypeId) (len : Nat) (parts : Array (Nat × Operand)) (hg : o.guard = none) (ho : o.op = .buildSlice t len parts) (hu : P.underlying t = some (.slice e))
    (cells : Array Value) (N : Nat) (hN : w.heap.size = N) (hf : litRow P e len (parts.map fun (i, x) => (i, a.eval x)).toList = some cells) (ha : a.put o.dst (.slice (some ⟨N, 0, none⟩) len len) = a')
    (h : wpList P ops Q rest a' (w.alloc (.cells cells e))) : wpList P ops Q (o :: rest) a w := by
  subst hN ha
  obtain ⟨ie, hie, hf⟩ := Option.bind_eq_some_iff.1 hf
  obtain ⟨z, hz, hf⟩ := Option.bind_eq_some_iff.1 hf
  split at hf
  · rename_i hc
    exact wpList_buildSlice hg t e len parts ho cells ie z hu hie hz (by omega) (by omega) hf h
  · cases hf
end Go.Proofs.Ytaiailcimpgmaaa
