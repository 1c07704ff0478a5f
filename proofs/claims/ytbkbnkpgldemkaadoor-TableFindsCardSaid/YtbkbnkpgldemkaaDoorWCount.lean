/-
  What laws share that count over a table's rows.
-/
import Derived.Test.YtbkbnkpgldemkaaDoorWList
namespace Go.Proofs.YtbkbnkpgldemkaaDoor
open Go Go.RowKit

theorem seqW_nil2 (p q : Value) (w : World) : (binOp .eql 50 (.func (.func 33) #[] #[p, q]) .nilFunc).run Tryd.prog w = .ok (.bool false) w := by kernel_rfl
theorem ownFrom_grownW {β : Type} {B G : Nat} {W7 : World} (hB : W7.heap.size ≤ B) : OwnFrom B (fun (_ : β) W => W7.grownBy W (some G)) := fun _ _ _ _ hs hg hr =>
  ⟨hg.os.trans hs.os, hg.tape.trans hs.tape, hg.output.trans hs.output, Nat.le_trans hs.size hg.size, fun k hk hne => (hg.block k (Nat.lt_of_lt_of_le hk hs.size) (fun e => by have := (hr k e.symm).1; omega)).trans (hs.block k hk hne)⟩
theorem grown_anyW {A B : World} {row : Option Nat} (h : A.grownBy B none) : A.grownBy B row := ⟨h.os, h.tape, h.output, h.size, fun k hk _ => h.block k hk (by simp)⟩
theorem grown_setW {A W : World} {G : Nat} (h : A.grownBy W (some G)) (v : Value) : A.grownBy (W.setCell ⟨G, 0, none⟩ v) (some G) :=
  ⟨h.os, h.tape, h.output, by simpa [World.setCell] using h.size, fun i hi hne => (Below.heap_setCell W ⟨G, 0, none⟩ v i (fun e => hne (by rw [e]))).trans (h.block i hi hne)⟩
/-- What a counting round keeps: all but the count. -/
def StIW (W7 : World) (G k : Nat) (pre : List (Nat × ByteArray)) (W : World) : Prop :=
  W7.grownBy W (some G) ∧ W.heap[G]? = some (.cells #[.int .i64 (pre.length : Int)] 3 (0, 0)) ∧ pre.length ≤ k
def StXW (W7 : World) (G k : Nat) (c : Code) (pre : List (Nat × ByteArray)) (W : World) : Prop :=
  c = .exit 0 ∧ W7.grownBy W (some G) ∧ W.heap[G]? = some (.cells #[.int .i64 (k : Int)] 3 (0, 0)) ∧ k + 1 = pre.length
/-- The iterator over all rows of a table. -/
theorem all_seqW {fr : Obj → Bool} {q : Nat → Prop} {w : World} {b B1 B2 W K : Nat} {L : List ByteArray} (h : TabL w b W K L) (hq : q b ∧ q B1 ∧ q B2)
    (h1 : w.heap[B1]? = some (.cells #[.pointer (some ⟨b, 0, none⟩)] 31 (0, 0))) (h2 : w.heap[B2]? = some (.cells #[.string ⟨#[]⟩] 9 (0, 0))) :
    SeqQ Tryd.prog 33 #[.pointer (some ⟨B1, 0, none⟩), .pointer (some ⟨B2, 0, none⟩)] (fun x : Nat × ByteArray => #[.int .i64 x.1, .string x.2]) q fr (fun ys => ys = fromW 0 L) (fun pre => pre <+: fromW 0 L) w := by
  have := prefix_seq (fr := fr) (q := q) (w := w) h.wid (mono_empty K (rowsW W (catW L))) hq ⟨h.tab, h1, h2⟩
  rwa [prefix_empty, h.rows] at this
end Go.Proofs.YtbkbnkpgldemkaaDoor
