/-
  GrandCases: it returns true.
-/
import Derived.Test.YtpnhjpplfjamkaaGreatDoorEKit
namespace Go.Proofs.YtpnhjpplfjamkaaGreatDoor
open Go Go.RowKit

theorem slice_one (s : ByteArray) (k : Nat) (h : k < s.size) (w : World) :
    (Instr.slice 9 (.string s) (some (.int .i64 (k : Int))) (some (.int .i64 ((k : Int) + 1))) none).run Tryz.prog w = .ok (.string (s.extract k (k + 1))) w := by
  rw [run_slice_string w 9 s .i64 .i64 (k : Int) ((k : Int) + 1) Tryz.underlying9 (by omega) (by omega) (by omega), show ((k : Int) + 1).toNat = k + 1 by omega, Int.toNat_natCast]
theorem one_size (s : ByteArray) (k : Nat) (h : k < s.size) : (s.extract k (k + 1)).size = 1 := by rw [ByteArray.size_extract]; omega
theorem bs_one (s : ByteArray) (k : Nat) (h : k < s.size) : bs (s.extract k (k + 1)) = [s[k]] := by
  rw [bs_extract, show k + 1 - k = 1 by omega]
  have hb : k < (bs s).length := by rw [size_bs]; exact h
  rw [List.drop_eq_getElem_cons hb]
  have hg : (bs s)[k] = s[k] := by show s.data.toList[k]'hb = s.data[k]; simp
  simp [hg]
/-- The bytes of a text, in whatever cases, so far. -/
def CsI (s : ByteArray) (w : World) (k : Nat) (v : Value) (wr : World) : Prop :=
  ∃ L : List UInt8, L.map lowB = ((bs s).take k).map lowB ∧ wr.ownsRow w.heap.size 5 1 v k (bcells L) ∧ Below w.heap.size w wr
theorem CsI.start {s : ByteArray} {w : World} : CsI s w 0 (.slice none 0 0) w := ⟨[], by simp, World.ownsRow_nil _ _ _ _, Below.refl _ _⟩
theorem get_of_bs {c : ByteArray} {b : UInt8} (h : bs c = [b]) (h0 : 0 < c.size) : c[0] = b := by
  have : c = ofL [b] := by rw [← h, ofL_bs]
  subst this
  rfl
theorem CsI.step {s : ByteArray} {w wr w1 : World} {k : Nat} {v v' : Value} {d : UInt8} {o : Obj} (h : CsI s w k v wr) (hk : k < s.size) (hd : lowB d = lowB s[k]) {L : List UInt8} (hL : L.map lowB = ((bs s).take k).map lowB)
    (h1 : w1.ownsRow w.heap.size 5 1 v' (k + 1) (bcells L ++ [.int .u8 (d.toNat : Int)])) (hg : (wr.alloc o).grownBy w1 v.ownBlock) : CsI s w (k + 1) v' w1 := by
  obtain ⟨L0, _, h3, hB⟩ := h
  refine ⟨L ++ [d], ?_, ?_, (hB.alloc hB.size o).grown hg (by simp; have := hB.size; omega) (fun r e => (h3.lt r e).1)⟩
  · rw [bs_take_succ s k hk, List.map_append, List.map_append, hL]
    simp [hd]
  · rw [bcells_append]; exact h1
theorem own_later {w w' : World} {base : Nat} {e : TypeId} {size : Nat} {v : Value} {n : Nat} {xs : List Value} (h : w.ownsRow base e size v n xs) (hb : Below w.heap.size w w') : w'.ownsRow base e size v n xs :=
  h.kept (row := none) ⟨hb.os, hb.tape, hb.output, hb.size, fun k hk _ => hb.block k hk⟩ (by cases v.ownBlock <;> simp)
end Go.Proofs.YtpnhjpplfjamkaaGreatDoor
