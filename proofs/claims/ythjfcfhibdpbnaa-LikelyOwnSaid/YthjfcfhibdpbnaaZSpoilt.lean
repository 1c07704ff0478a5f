/-
  The document's spoilt of layer 13, whichever way. (Printed by wip/gen_zspoilt.py.)
-/
import Derived.Test.YthjfcfhibdpbnaaZSpA
import Derived.Test.YthjfcfhibdpbnaaZSpB
import Derived.Test.YthjfcfhibdpbnaaZSpC
import Derived.Test.YthjfcfhibdpbnaaZSpD
namespace Go.Proofs.Ythjfcfhibdpbnaa
open Go Go.RowKit

theorem spoilt13_any (im : Im) (va vl vr vm : Value) (odd b : Nat) (hodd : odd < 12) (W0 w : World) (h : Own4 w b im va vl vr vm) (hb : Below W0.heap.size W0 w) (hb0 : W0.heap.size ≤ b) (hbw : b ≤ w.heap.size) (l1 : im.als.length ≤ 50) (l2 : im.lks.length ≤ 50) (l3 : im.rls.length ≤ 50) (l4 : im.mbs.length ≤ 50) (l5 : 2 ≤ im.rls.length) :
    Calls Try.prog 21 #[.agg #[va, vl, vr, vm, .int .i64 im.th, .int .i64 im.de], .int .i64 (odd : Int)] w (SpE W0 b (spI im odd)) := by
  have h12 : odd = 0 ∨ odd = 1 ∨ odd = 2 ∨ odd = 3 ∨ odd = 4 ∨ odd = 5 ∨ odd = 6 ∨ odd = 7 ∨ odd = 8 ∨ odd = 9 ∨ odd = 10 ∨ odd = 11 := by omega
  rcases h12 with rfl | rfl | rfl | rfl | rfl | rfl | rfl | rfl | rfl | rfl | rfl | rfl
  · exact spoilt_w0 im va vl vr vm b W0 w h hb hb0 hbw l1 l2 l3 l4 l5
  · exact spoilt_w1 im va vl vr vm b W0 w h hb hb0 hbw l1 l2 l3 l4 l5
  · exact spoilt_w2 im va vl vr vm b W0 w h hb hb0 hbw l1 l2 l3 l4 l5
  · exact spoilt_w3 im va vl vr vm b W0 w h hb hb0 hbw l1 l2 l3 l4 l5
  · exact spoilt_w4 im va vl vr vm b W0 w h hb hb0 hbw l1 l2 l3 l4 l5
  · exact spoilt_w5 im va vl vr vm b W0 w h hb hb0 hbw l1 l2 l3 l4 l5
  · exact spoilt_w6 im va vl vr vm b W0 w h hb hb0 hbw l1 l2 l3 l4 l5
  · exact spoilt_w7 im va vl vr vm b W0 w h hb hb0 hbw l1 l2 l3 l4 l5
  · exact spoilt_w8 im va vl vr vm b W0 w h hb hb0 hbw l1 l2 l3 l4 l5
  · exact spoilt_w9 im va vl vr vm b W0 w h hb hb0 hbw l1 l2 l3 l4 l5
  · exact spoilt_w10 im va vl vr vm b W0 w h hb hb0 hbw l1 l2 l3 l4 l5
  · exact spoilt_w11 im va vl vr vm b W0 w h hb hb0 hbw l1 l2 l3 l4 l5
end Go.Proofs.Ythjfcfhibdpbnaa
