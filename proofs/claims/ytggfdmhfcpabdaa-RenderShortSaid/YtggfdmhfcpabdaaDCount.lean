/-
  What the laws share that count over Each: what a counting round keeps.
-/
import Derived.Test.YtggfdmhfcpabdaaPiece
namespace Go.Proofs.Ytggfdmhfcpabdaa
open Go Go.RowKit

theorem seq_nil (b : Nat) (w : World) : (binOp .eql 58 (.func (.func 63) #[] #[.pointer (some ⟨b, 0, none⟩)]) .nilFunc).run Try.prog w = .ok (.bool false) w := by kernel_rfl

theorem ownFrom_grown {β : Type} {B G : Nat} {W7 : World} (hB : W7.heap.size ≤ B) : OwnFrom B (fun (_ : β) W => W7.grownBy W (some G)) := fun _ _ _ _ hs hg hr =>
  ⟨hg.os.trans hs.os, hg.tape.trans hs.tape, hg.output.trans hs.output, Nat.le_trans hs.size hg.size, fun k hk hne => (hg.block k (Nat.lt_of_lt_of_le hk hs.size) (fun e => by have := (hr k e.symm).1; omega)).trans (hs.block k hk hne)⟩
theorem grown_any {A B : World} {row : Option Nat} (h : A.grownBy B none) : A.grownBy B row := ⟨h.os, h.tape, h.output, h.size, fun k hk _ => h.block k hk (by simp)⟩

theorem grown_set {A W : World} {G : Nat} (h : A.grownBy W (some G)) (v : Value) : A.grownBy (W.setCell ⟨G, 0, none⟩ v) (some G) :=
  ⟨h.os, h.tape, h.output, by simpa [World.setCell] using h.size, fun i hi hne => (Below.heap_setCell W ⟨G, 0, none⟩ v i (fun e => hne (by rw [e]))).trans (h.block i hi hne)⟩

/-- What a counting round keeps: all but the count. -/
def StI (W7 : World) (G k : Nat) (pre : List (Nat × ByteArray)) (W : World) : Prop :=
  W7.grownBy W (some G) ∧ W.heap[G]? = some (.cells #[.int .i64 (pre.length : Int)] 3 (0, 0)) ∧ pre.length ≤ k
def StX (W7 : World) (G k : Nat) (c : Code) (pre : List (Nat × ByteArray)) (W : World) : Prop :=
  c = .exit 0 ∧ W7.grownBy W (some G) ∧ W.heap[G]? = some (.cells #[.int .i64 (k : Int)] 3 (0, 0)) ∧ k + 1 = pre.length

end Go.Proofs.Ytggfdmhfcpabdaa
