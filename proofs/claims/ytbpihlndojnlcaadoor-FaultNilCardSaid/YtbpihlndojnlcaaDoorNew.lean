/-
  Package fault: New and Wrap; and the chapter's example, asked of Kind, Place and Total.
-/
import Derived.Test.YtbpihlndojnlcaaDoorTotal
import Derived.Deep.RegionHeld3
namespace Go.Proofs.YtbpihlndojnlcaaDoor
open Go Go.RowKit

theorem new_ok (p : Int) (s : ByteArray) (w : World) :
    Calls Tryd.prog 20 #[.int .i64 0, .int .i64 p, .string s] w fun e w' => e = .returned .nilIface ∧ w = w' := by
  go_enter Tryd.func20, Tryd.ntmps20
  go_wp2
  go_ret
  exact ⟨rfl, rfl⟩
theorem new_any (k p : Int) (s : ByteArray) (w : World) (hk : (k == 0) = false) :
    Calls Tryd.prog 20 #[.int .i64 k, .int .i64 p, .string s] w fun e w' => e = .returned (.iface 42 (.pointer (some ⟨w.heap.size, 0, none⟩))) ∧ w.alloc (faultObj p s (.iface 24 (.int .i64 k))) = w' := by
  go_enter Tryd.func20, Tryd.ntmps20
  go_wp2
  go_ret
  exact ⟨rfl, rfl⟩
theorem wrap_nil (p : Int) (s : ByteArray) (w : World) :
    Calls Tryd.prog 21 #[.nilIface, .int .i64 p, .string s] w fun e w' => e = .returned .nilIface ∧ w = w' := by
  go_enter Tryd.func21, Tryd.ntmps21
  go_wp2
  go_ret
  exact ⟨rfl, rfl⟩
theorem wrap_any (t : TypeId) (u : Value) (p : Int) (s : ByteArray) (w : World) :
    Calls Tryd.prog 21 #[.iface t u, .int .i64 p, .string s] w fun e w' => e = .returned (.iface 42 (.pointer (some ⟨w.heap.size, 0, none⟩))) ∧ w.alloc (faultObj p s (.iface t u)) = w' := by
  go_enter Tryd.func21, Tryd.ntmps21
  go_wp2
  go_ret
  exact ⟨rfl, rfl⟩

/-- A fault made of a number. -/
theorem Chain.new (k p : Int) (s : ByteArray) (w : World) :
    Chain (w.alloc (faultObj p s (.iface 24 (.int .i64 k)))) (w.heap.size + 1) (.iface 42 (.pointer (some ⟨w.heap.size, 0, none⟩))) [.fault w.heap.size p s, .num k] :=
  ⟨rfl, Nat.lt_succ_self _, _, World.alloc_heap_new _ _, rfl, rfl⟩
/-- A fault made around an error. -/
theorem Chain.wrap {n : Nat} {v : Value} {xs : List El} {w : World} (p : Int) (s : ByteArray) (h : Chain w n v xs) (hn : n ≤ w.heap.size) :
    Chain (w.alloc (faultObj p s v)) (w.heap.size + 1) (.iface 42 (.pointer (some ⟨w.heap.size, 0, none⟩))) (.fault w.heap.size p s :: xs) :=
  ⟨rfl, Nat.lt_succ_self _, _, World.alloc_heap_new _ _, (h.mono hn).below ((Below.refl _ w).alloc (Nat.le_refl _) _) (Nat.le_refl _)⟩

set_option maxHeartbeats 2000000 in
theorem awake_law (w : World) (hg : TypeLaid w) :
    Calls Tryd.prog 9 #[] w fun e w' => e = .returned (.bool true) ∧ Below w.heap.size w w' := by
  go_enter Tryd.func9, Tryd.ntmps9
  go_wp2_with fail
  refine (new_any 10 3 _ _ rfl).mono ?_
  rintro e w' ⟨rfl, hw⟩
  have hc1 := Chain.new 10 3 ⟨#[115, 117, 98, 116, 97, 103]⟩ w
  have hs1 : w'.heap.size = w.heap.size + 1 := by rw [← hw]; simp
  have hb1 : Below w.heap.size w w' := by rw [← hw]; exact (Below.refl _ w).alloc (Nat.le_refl _) _
  rw [hw] at hc1
  have HW := Lib.hid hw
  clear hw
  have HS1 := Lib.hid hs1
  clear hs1
  go_wp2_with fail
  refine (wrap_any _ _ 10 _ _).mono ?_
  rintro e w2 ⟨rfl, hw⟩
  have hc2 := Chain.wrap 10 ⟨#[116, 97, 103]⟩ hc1 (by rw [HS1.out]; exact Nat.le_refl _)
  have hs2 : w2.heap.size = w'.heap.size + 1 := by rw [← hw]; simp
  have hb2 : Below w.heap.size w w2 := by rw [← hw]; exact hb1.alloc hb1.size _
  rw [hw] at hc2
  have hg2 : TypeLaid w2 := hg.below hb2 hg.size
  clear hw hc1 hb1
  have hn2 : w'.heap.size + 1 ≤ w2.heap.size := by omega
  have K14 := Lib.hid (fun w3 (hb : Below w2.heap.size w2 w3) => (kind_chain w3 (by simp) (Nat.le_trans hn2 hb.size) (hc2.below hb hn2) (hg2.below hb hg2.size)).mono (R' := fun e w4 => e = .returned (.int .i64 10) ∧ Below w2.heap.size w2 w4) fun e w4 ⟨h1, h2⟩ => ⟨h1, hb.trans (h2.mono hb.size)⟩)
  have K17 := Lib.hid (fun w3 (hb : Below w2.heap.size w2 w3) => (place_chain w3 (by simp) (Nat.le_trans hn2 hb.size) (hc2.below hb hn2)).mono (R' := fun e w4 => e = .returned (.int .i64 10) ∧ Below w2.heap.size w2 w4) fun e w4 ⟨h1, h2⟩ => ⟨h1, hb.trans (h2.mono hb.size)⟩)
  have K15 := Lib.hid (fun w3 (hb : Below w2.heap.size w2 w3) => (total_chain w3 (by simp) (Nat.le_trans hn2 hb.size) (hc2.below hb hn2)).mono (R' := fun e w4 => e = .returned (.int .i64 13) ∧ Below w2.heap.size w2 w4) fun e w4 ⟨h1, h2⟩ => ⟨by rw [h1]; simp [totalOf, fsOf, IntKind.wrap_i64], hb.trans (h2.mono hb.size)⟩)
  have hb0 := Below.refl w2.heap.size w2
  have HB2 := Lib.hid hb2
  have HS2 := Lib.hid hs2
  clear hc2 hg2 hs2 hn2 hb2
  go_wp2_with fail
  refine (K14.out _ hb0).mono ?_
  rintro e w4 ⟨rfl, hb4⟩
  go_wp2_with fail
  refine (K17.out _ hb4).mono ?_
  rintro e w5 ⟨rfl, hb5⟩
  go_wp2_with fail
  refine (K15.out _ hb5).mono ?_
  rintro e w6 ⟨rfl, hb6⟩
  go_wp2
  go_ret
  exact ⟨rfl, HB2.out.trans (hb6.mono HB2.out.size)⟩
end Go.Proofs.YtbpihlndojnlcaaDoor
