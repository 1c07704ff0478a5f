/-
  The document's answers of layer 11 in memory; how far its rows have been read, and put in order.
-/
import Derived.Test.YtgjifikahlmioaaGreatDoorWApp
import Derived.Test.YtgjifikahlmioaaGreatDoorWBuilds
import Derived.Laws.Rows
import Derived.Laws.Cover1
import Derived.IntWalk
import Derived.BigQuiet
namespace Go.Proofs.YtgjifikahlmioaaGreatDoor
open Go Go.RowKit

theorem cells_setW {w : World} {B k : Nat} {cs : Array Value} {t : TypeId} (h : w.heap[B]? = some (.cells cs t (0, 0))) (v : Value) : (w.setCell ⟨B, k, none⟩ v).heap[B]? = some (.cells (cs.setIfInBounds k v) t (0, 0)) := by
  simp [World.setCell, Array.getElem?_modify, h]
theorem grown_setG {A W : World} {B : Nat} (h : A.grownBy W (some B)) (k : Nat) (v : Value) : A.grownBy (W.setCell ⟨B, k, none⟩ v) (some B) :=
  ⟨h.os, h.tape, h.output, by rw [show (W.setCell ⟨B, k, none⟩ v).heap.size = W.heap.size by simp [World.setCell]]; exact h.size, fun j hj hne => (Below.heap_setCell W ⟨B, k, none⟩ v j (fun e => hne (by rw [e]))).trans (h.block j hj hne)⟩
theorem own_ne_low {w : World} {base e sz n B : Nat} {v : Value} {xs : List Value} (h : w.ownsRow base e sz v n xs) (hB : B < base) : v.ownBlock = none ∨ v.ownBlock ≠ some B := by
  rcases h.2 with ⟨rfl, _⟩ | ⟨g, c, cur, rfl, hg, _⟩
  · exact .inl rfl
  · refine .inr fun he => ?_
    have : g = B := by simpa [Value.ownBlock] using he
    omega
theorem own_store {w : World} {base e sz n B : Nat} {v a b c : Value} {xs : List Value} (h : w.ownsRow base e sz v n xs) (hB : B < base) :
    (((w.setCell ⟨B, 0, none⟩ a).setCell ⟨B, 1, none⟩ b).setCell ⟨B, 2, none⟩ c).ownsRow base e sz v n xs :=
  h.kept (grown_setG (grown_setG (grown_setG (World.grownBy.refl w (some B)) 0 a) 1 b) 2 c) (own_ne_low h hB)
/-- What the document's answer is, by what is told (newE, buildE). -/
def GotN (W' : World) (base : Nat) (v : Value) (ee p : Int) (L : List ByteArray) : Option (Int × Int) → Prop
  | some (e, q) => v = .slice none 0 0 ∧ ee = e ∧ p = q
  | none => ee = 0 ∧ p = 0 ∧ W'.ownsRow base 9 1 v L.length (strsW L)
theorem GotN.slice {W' : World} {base : Nat} {v : Value} {ee p : Int} {L : List ByteArray} {o : Option (Int × Int)} (h : GotN W' base v ee p L o) : ∃ a n c, v = .slice a n c := by
  cases o with
  | none => obtain ⟨a, c, h⟩ := (RowW.of_own h.2.2).slice; exact ⟨a, _, c, h⟩
  | some q => obtain ⟨h, _⟩ := h; exact ⟨_, _, _, h⟩
theorem GotN.store {W' : World} {base B b' : Nat} {v a b c : Value} {ee p : Int} {L : List ByteArray} {o : Option (Int × Int)} (h : GotN W' base v ee p L o) (hB : B < base) (hb : b' ≤ base) :
    GotN (((W'.setCell ⟨B, 0, none⟩ a).setCell ⟨B, 1, none⟩ b).setCell ⟨B, 2, none⟩ c) b' v ee p L o := by
  cases o with
  | none => exact ⟨h.1, h.2.1, own_lowW (own_store h.2.2 hB) hb⟩
  | some q => exact h

theorem cat_snoc (l : List ByteArray) (x : ByteArray) : catW (l ++ [x]) = catW l ++ x := by
  apply bL_ext
  rw [bL_cat, List.flatMap_append]
  show _ = (catW l ++ x).data.toList
  rw [ByteArray.data_append, Array.toList_append]
  show _ = bL (catW l) ++ bL x
  rw [bL_cat]; simp
theorem none9_belW {w w6 : World} {m : Nat} (h : ((w.drewN m).alloc (.cells #[] 9)).grownBy w6 (Value.slice (some ⟨w.heap.size, 0, none⟩) 0 0).ownBlock) : Below w.heap.size w w6 :=
  ((below_drewN (Below.refl _ w) m).alloc (Nat.le_refl _) _).grown h (by simp) (fun g hg => by cases hg; exact Nat.le_refl _)
theorem own_lenW {w : World} {base n n' c sz : Nat} {e : TypeId} {a : Option Addr} {xs : List Value} (h : w.ownsRow base e sz (.slice a n' c) n xs) : n' = n := (own_capW h).1
theorem bel_step9W {w6 w7 w8 : World} {base n sz : Nat} {e : TypeId} {v : Value} {xs : List Value} (hB7 : Below w6.heap.size w6 w7) (hs : w6.heap.size ≤ base) (ho : w7.ownsRow base e sz v n xs) (hg : w7.grownBy w8 v.ownBlock) : Below w6.heap.size w6 w8 :=
  hB7.grown hg hB7.size (fun g h => Nat.le_trans hs (ho.lt g h).1)
theorem own_insW {w : World} {base b' n : Nat} {v : Value} {x : ByteArray} {T R : List ByteArray} (h : w.ownsRow base 9 1 v n ((strsW T ++ [.string x]) ++ strsW R)) (hb : b' ≤ base) : w.ownsRow b' 9 1 v (T ++ x :: R).length (strsW (T ++ x :: R)) := by
  have e : n = (T ++ x :: R).length := by have := h.1; simp [strsW] at this; simp; omega
  subst e
  have e2 : strsW (T ++ x :: R) = (strsW T ++ [.string x]) ++ strsW R := by simp [strsW]
  rw [e2]
  exact own_lowW h hb
theorem own_none9W (w : World) (m : Nat) : ((w.drewN m).alloc (.cells #[] 9)).ownsRow w.heap.size 9 1 (.slice (some ⟨w.heap.size, 0, none⟩) 0 0) 0 [] := own_noneW (w.drewN m)
theorem own_normW {w : World} {base n : Nat} {v : Value} {R : List ByteArray} (h : w.ownsRow base 9 1 v n ([] ++ strsW R)) : w.ownsRow base 9 1 v R.length (strsW R) := by
  have e : n = R.length := by have := h.1; simp [strsW] at this; omega
  subst e
  exact h
theorem own_sliceW {w : World} {base : Nat} {e : TypeId} {size : Nat} {v : Value} {n : Nat} {xs : List Value} (h : w.ownsRow base e size v n xs) : ∃ ao n' c, v = .slice ao n' c := by
  rcases owned_casesW h with ⟨h, _⟩ | ⟨g, c, h⟩
  · exact ⟨_, _, _, h⟩
  · exact ⟨_, _, _, h⟩
theorem own_someW {w : World} {base n : Nat} {e : TypeId} {sz : Nat} {v : Value} {xs : List Value} (h : w.ownsRow base e sz v n xs) (hn : 0 < n) : ∃ g c, v = .slice (some ⟨g, 0, none⟩) n c := by
  rcases owned_casesW h with ⟨_, rfl⟩ | ⟨g, c, rfl⟩
  · omega
  · exact ⟨g, c, rfl⟩
end Go.Proofs.YtgjifikahlmioaaGreatDoor
