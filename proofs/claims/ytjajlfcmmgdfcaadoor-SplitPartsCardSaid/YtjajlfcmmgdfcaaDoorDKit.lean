/-
  What the laws of layer 4 share: contracts that go on from the start of the law.
-/
import Derived.Test.YtjajlfcmmgdfcaaDoorDAwake
import Derived.Test.YtjajlfcmmgdfcaaDoorDSame
namespace Go.Proofs.YtjajlfcmmgdfcaaDoor
open Go Go.RowKit

theorem awake4_on (w : World) (hg : TypeLaid w) : Hid (∀ w5, Below w.heap.size w w5 → Calls Tryd.prog 9 #[] w5 fun e w6 => e = .returned (.bool true) ∧ Below w.heap.size w w6) :=
  fun w5 hb => (awake4_any w5 (hg.below hb hg.size)).mono fun _ _ ⟨p, q⟩ => ⟨p, hb.trans (q.mono hb.size)⟩

/-- Split, told of a law's start. -/
theorem split_on (s : ByteArray) (w : World) (hs : s.size ≤ 1048576) : Hid (∀ w5, Below w.heap.size w w5 → Calls Tryd.prog 14 #[.string s] w5 fun e w6 => ∃ u, e = .returned u ∧ w6.ownsRow w.heap.size 9 1 u (splS s).length (strs (splS s)) ∧ Below w5.heap.size w5 w6 ∧ Below w.heap.size w w6) :=
  fun w5 hb => (split_any s w5 hs).mono fun _ _ ⟨u, p, q, r⟩ => ⟨u, p, own_lower q (by have := hb.size; omega), r, hb.trans (r.mono hb.size)⟩

end Go.Proofs.YtjajlfcmmgdfcaaDoor
