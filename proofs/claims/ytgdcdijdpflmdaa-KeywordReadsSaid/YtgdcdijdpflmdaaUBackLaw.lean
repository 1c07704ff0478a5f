/-
  KeywordBack: the walk over the law.
-/
import Derived.Test.YtgdcdijdpflmdaaUKit
namespace Go.Proofs.Ytgdcdijdpflmdaa
open Go Go.RowKit

theorem few_arg (v : Value) (l : List ByteArray) (n : Nat) (N : Int) (hN : N = (n : Int)) (w0 w : World) (hv : RowA w0 v l) (hb : Below w0.heap.size w0 w) (hn : n ≤ 100) :
    Calls Try.prog 15 #[v, .int .i64 N] w fun e w' => ∃ u, e = .returned u ∧ w'.ownsRow w.heap.size 9 1 u (fewT n l).length (strs (fewT n l)) ∧ Below w.heap.size w w' := by
  refine fewU_any v l n N hN w ((RowU.of_arg hv).below hb) ?_ ?_ hn
  · obtain ⟨ao, c, _, _, hi⟩ := hv
    intro x hx
    obtain ⟨i, hi'⟩ := List.getElem?_of_mem hx
    obtain ⟨_, _, _, _, h⟩ := hi i x hi'
    exact h
  · obtain ⟨_, _, _, h, _⟩ := hv
    exact h
theorem RowU.at {W : World} {ao : Option Addr} {l : List ByteArray} {n c : Nat} (h : RowU W (.slice ao n c) l) {k : Nat} {x : ByteArray} (hx : l[k]? = some x) : ∃ g o, ao = some ⟨g, o, none⟩ ∧ W.cell? ⟨g, o + k, none⟩ = some (.string x) := by
  obtain ⟨a', c', he, hc⟩ := h
  injection he with q1 _ _
  subst q1
  exact hc k x hx
theorem few_small (n : Nat) (l : List ByteArray) (m : Nat) (hm : 9 ≤ m) : ∀ x ∈ fewT n l, x.size ≤ m := fun x hx => Nat.le_trans (fewT_size n l x hx) hm
end Go.Proofs.Ytgdcdijdpflmdaa
