/-
  Aliases by numbers: words by a number; lists of words. Aliases by numbers: what is spoilt of one. (Printed by wip/gen_yspoilt.py.) Aliases by numbers: Made. (Printed by wip/gen_ymade.py.) How aliases stand: cmp.Compare of texts, cmp.Or, alias.Compare, the document's order and Compare. Layer 12's statements: the chapter's example, rest, short, few; what is made by numbers.
-/
import Derived.Test.YthjfcfhibdpbnaaYMath
import Derived.Test.YthjfcfhibdpbnaaYCode
import Derived.Deep.RegionHeld3
import Derived.Deep.CutRange
import Derived.Test.YthjfcfhibdpbnaaEKit
/-! Aliases by numbers: words by a number; lists of words. -/
namespace Go.Proofs.Ythjfcfhibdpbnaa
open Go Go.RowKit

/-- A row of texts that lies whole in a block. -/
def RowP (W : World) (v : Value) (l : List ByteArray) : Prop := ∃ g cap, v = .slice (some ⟨g, 0, none⟩) l.length cap ∧ ∀ i x, l[i]? = some x → W.cell? ⟨g, i, none⟩ = some (.string x)
theorem RowP.of_block {W : World} {g : Nat} (l : List ByteArray) {t : TypeId} (n cap : Nat) (hn : n = l.length) (h : W.heap[g]? = some (.cells (l.map Value.string).toArray t (0, 0))) : RowP W (.slice (some ⟨g, 0, none⟩) n cap) l := by
  subst hn
  refine ⟨g, cap, rfl, fun i x hx => ?_⟩
  simp [World.cell?, h, hx]
def pickY (L : Nat) (n : Int) : Nat := (Int.tmod (Int.tmod n L + L) L).toNat
def pickS (l : List ByteArray) (n : Int) : ByteArray := l.getD (pickY l.length n) ByteArray.empty
theorem pickY_facts (L : Nat) (n : Int) (hL : 0 < L) : -(L : Int) < Int.tmod n L ∧ Int.tmod n L < L ∧ Int.tmod (Int.tmod n L + L) L = (pickY L n : Int) ∧ pickY L n < L := by
  have h1 := Int.lt_tmod_of_pos n (show (0 : Int) < L by omega)
  have h2 := Int.tmod_lt_of_pos n (show (0 : Int) < L by omega)
  have h3 : 0 ≤ Int.tmod (Int.tmod n L + L) L := Int.tmod_nonneg _ (by omega)
  have h4 := Int.tmod_lt_of_pos (Int.tmod n L + L) (show (0 : Int) < L by omega)
  refine ⟨h1, h2, ?_, ?_⟩
  · unfold pickY; omega
  · unfold pickY; omega
theorem pickS_mem (l : List ByteArray) (n : Int) (hl : 0 < l.length) : pickS l n ∈ l := by
  have h4 := (pickY_facts l.length n hl).2.2.2
  unfold pickS
  rw [List.getD_eq_getElem?_getD, List.getElem?_eq_getElem h4]
  exact List.getElem_mem _
set_option maxRecDepth 100000 in
set_option maxHeartbeats 1000000 in
theorem pickY_ref (v : Value) (l : List ByteArray) (n : Int) (w : World) (hv : RowP w v l) (h0 : 0 < l.length) (hl : l.length ≤ 100) :
    Calls Try.prog 20 #[v, .int .i64 n] w fun e w' => e = .returned (.string (pickS l n)) ∧ w = w' := by
  obtain ⟨g, cap, rfl, hc⟩ := hv
  obtain ⟨h1, h2, h3, h4⟩ := pickY_facts l.length n h0
  obtain ⟨x, hx⟩ : ∃ x, l[pickY l.length n]? = some x := ⟨_, List.getElem?_eq_getElem h4⟩
  have hcell := hc _ x hx
  have HE := Lib.hid (show pickS l n = x by unfold pickS; rw [List.getD_eq_getElem?_getD, hx]; rfl)
  generalize hm : pickY l.length n = m at *
  have hz : ((l.length : Int) == 0) = false := by rw [beq_eq_false_iff_ne]; omega
  have hnz : ¬ (l.length : Int) = 0 := by omega
  generalize hr : Int.tmod n (l.length : Int) = r at *
  have hm0 : (0 : Int) ≤ (m : Int) := by omega
  have hml : (m : Int) < (l.length : Int) := by omega
  clear hc hx hm h0
  go_enter Try.func20, Try.ntmps20
  go_wp2
  go_ret
  exact ⟨ret_string HE.out.symm, rfl⟩

def toLangsY : List ByteArray := [⟨#[104, 101]⟩, ⟨#[114, 111]⟩, ⟨#[110, 98]⟩, ⟨#[115, 114]⟩, ⟨#[102, 105, 108]⟩, ⟨#[120, 120]⟩, ⟨#[99, 109, 110]⟩, ⟨#[101, 110]⟩]
set_option maxRecDepth 100000 in
theorem toLangs_y (w : World) :
    Calls Try.prog 43 #[] w fun e w' => ∃ u, e = .returned u ∧ RowP w' u toLangsY ∧ Below w.heap.size w w' := by
  go_enter Try.func43, Try.ntmps43
  go_wp2
  go_ret
  exact ⟨_, rfl, RowP.of_block toLangsY _ _ rfl (World.alloc_heap_new w _), (Below.refl _ w).alloc (Nat.le_refl _) _⟩

def langsY : List ByteArray := [⟨#[105, 119]⟩, ⟨#[109, 111]⟩, ⟨#[110, 111]⟩, ⟨#[115, 104]⟩, ⟨#[116, 108]⟩, ⟨#[115, 103, 110]⟩, ⟨#[122, 104]⟩, ⟨#[104, 97, 110, 116]⟩]
set_option maxRecDepth 100000 in
theorem langs_y (w : World) :
    Calls Try.prog 44 #[] w fun e w' => ∃ u, e = .returned u ∧ RowP w' u langsY ∧ Below w.heap.size w w' := by
  go_enter Try.func44, Try.ntmps44
  go_wp2
  go_ret
  exact ⟨_, rfl, RowP.of_block langsY _ _ rfl (World.alloc_heap_new w _), (Below.refl _ w).alloc (Nat.le_refl _) _⟩

def scriptsY : List ByteArray := [⟨#[113, 97, 97, 105]⟩, ⟨#[104, 97, 110, 115]⟩, ⟨#[97, 114, 97, 110]⟩]
set_option maxRecDepth 100000 in
theorem scripts_y (w : World) :
    Calls Try.prog 45 #[] w fun e w' => ∃ u, e = .returned u ∧ RowP w' u scriptsY ∧ Below w.heap.size w w' := by
  go_enter Try.func45, Try.ntmps45
  go_wp2
  go_ret
  exact ⟨_, rfl, RowP.of_block scriptsY _ _ rfl (World.alloc_heap_new w _), (Below.refl _ w).alloc (Nat.le_refl _) _⟩

def toScriptsY : List ByteArray := [⟨#[122, 105, 110, 104]⟩, ⟨#[108, 97, 116, 110]⟩, ⟨#[97, 114, 97, 98]⟩]
set_option maxRecDepth 100000 in
theorem toScripts_y (w : World) :
    Calls Try.prog 46 #[] w fun e w' => ∃ u, e = .returned u ∧ RowP w' u toScriptsY ∧ Below w.heap.size w w' := by
  go_enter Try.func46, Try.ntmps46
  go_wp2
  go_ret
  exact ⟨_, rfl, RowP.of_block toScriptsY _ _ rfl (World.alloc_heap_new w _), (Below.refl _ w).alloc (Nat.le_refl _) _⟩

def regionsY : List ByteArray := [⟨#[100, 100]⟩, ⟨#[115, 117]⟩, ⟨#[98, 117]⟩, ⟨#[56, 52, 48]⟩]
set_option maxRecDepth 100000 in
theorem regions_y (w : World) :
    Calls Try.prog 47 #[] w fun e w' => ∃ u, e = .returned u ∧ RowP w' u regionsY ∧ Below w.heap.size w w' := by
  go_enter Try.func47, Try.ntmps47
  go_wp2
  go_ret
  exact ⟨_, rfl, RowP.of_block regionsY _ _ rfl (World.alloc_heap_new w _), (Below.refl _ w).alloc (Nat.le_refl _) _⟩

def toRegionsY : List ByteArray := [⟨#[100, 101]⟩, ⟨#[114, 117]⟩, ⟨#[109, 109]⟩, ⟨#[117, 115]⟩]
set_option maxRecDepth 100000 in
theorem toRegions_y (w : World) :
    Calls Try.prog 48 #[] w fun e w' => ∃ u, e = .returned u ∧ RowP w' u toRegionsY ∧ Below w.heap.size w w' := by
  go_enter Try.func48, Try.ntmps48
  go_wp2
  go_ret
  exact ⟨_, rfl, RowP.of_block toRegionsY _ _ rfl (World.alloc_heap_new w _), (Below.refl _ w).alloc (Nat.le_refl _) _⟩
end Go.Proofs.Ythjfcfhibdpbnaa

/-! Aliases by numbers: what is spoilt of one. (Printed by wip/gen_yspoilt.py.) -/
namespace Go.Proofs.Ythjfcfhibdpbnaa
open Go Go.RowKit

def spoiltA (x : Al) : Nat → Al
  | 1 => ⟨x.k, titleS x.a, x.b, x.l, x.s, x.r⟩
  | 2 => ⟨x.k, x.a, x.b ++ ⟨#[120]⟩, x.l, x.s, x.r⟩
  | 3 => ⟨x.k, x.a, x.b, ⟨#[]⟩, ⟨#[]⟩, ⟨#[]⟩⟩
  | 4 => ⟨8, x.a, x.b, x.l, x.s, x.r⟩
  | 5 => ⟨x.k, x.a, x.b, ⟨#[97, 98, 99, 100, 101, 102, 103, 104, 105]⟩, x.s, x.r⟩
  | 6 => ⟨x.k, x.a, x.b, pickS langsY (x.a.size : Int), x.s, x.r⟩
  | _ => x
theorem heap_setCellY {W : World} {g k : Nat} {v : Value} {j : Nat} (h : j ≠ g) : (W.setCell ⟨g, k, none⟩ v).heap[j]? = W.heap[j]? := Below.heap_setCell W ⟨g, k, none⟩ v j h

set_option maxRecDepth 100000 in
set_option maxHeartbeats 4000000 in
theorem spoilt_0 (x : Al) (w : World) (_za : x.a.size ≤ 1000) (_zb : x.b.size ≤ 1000) :
    Calls Try.prog 49 #[.agg #[.int .i64 x.k, .string x.a, .string x.b, .string x.l, .string x.s, .string x.r], .int .i64 0] w fun e w' => e = .returned (.agg #[.int .i64 (spoiltA x 0).k, .string (spoiltA x 0).a, .string (spoiltA x 0).b, .string (spoiltA x 0).l, .string (spoiltA x 0).s, .string (spoiltA x 0).r]) ∧ Below w.heap.size w w' := by
  obtain ⟨W1, hW1⟩ : ∃ W1, (w.alloc (.cells #[.int .i64 x.k, .string x.a, .string x.b, .string x.l, .string x.s, .string x.r] 54)).alloc (.cells #[.int .i64 0, .string ⟨#[]⟩, .string ⟨#[]⟩, .string ⟨#[]⟩, .string ⟨#[]⟩, .string ⟨#[]⟩] 54) = W1 := ⟨_, rfl⟩
  have hb1 : Below w.heap.size w W1 := by rw [← hW1]; exact ((Below.refl _ w).alloc (Nat.le_refl _) _).alloc (by simp) _
  have hA : W1.heap[w.heap.size]? = some (.cells #[.int .i64 x.k, .string x.a, .string x.b, .string x.l, .string x.s, .string x.r] 54 (0, 0)) := by rw [← hW1]; exact (Below.heap_alloc _ _ _ (by simp)).trans (World.alloc_heap_new w _)
  have hR : W1.heap[w.heap.size + 1]? = some (.cells #[.int .i64 0, .string ⟨#[]⟩, .string ⟨#[]⟩, .string ⟨#[]⟩, .string ⟨#[]⟩, .string ⟨#[]⟩] 54 (0, 0)) := by rw [← hW1]; exact heap_alloc2_new w _ _
  have hlR := lt_of_block hR
  have HB1 := Lib.hid hb1
  have HA := Lib.hid hA
  have HR := Lib.hid hR
  clear hA hR hb1
  obtain ⟨⟨a0, a1, a2, a3, a4, a5⟩, fa0, fa1, fa2, fa3, fa4, fa5⟩ := al_cells HA.out
  obtain ⟨⟨c0, c1, c2, c3, c4, c5⟩, f0, f1, f2, f3, f4, f5⟩ := al_cells HR.out
  go_enter Try.func49, Try.ntmps49
  go_upto_region 1 with fail
  clear hW1
  go_wp2
  have HS := al_store HR.out (.int .i64 x.k) (.string x.a) (.string x.b) (.string x.l) (.string x.s) (.string x.r)
  refine bodyPost_ret (results_cell_row rfl _ _ (w.heap.size + 1) 54 _ (0, 0) _ rfl HS.1 Try.underlying54 rfl sizeAl) rfl ?_
  exact ⟨rfl, HB1.out.trans (HS.2 _ (by omega))⟩
set_option maxRecDepth 100000 in
set_option maxHeartbeats 4000000 in
theorem spoilt_1 (x : Al) (w : World) (za : x.a.size ≤ 1000) (_zb : x.b.size ≤ 1000) :
    Calls Try.prog 49 #[.agg #[.int .i64 x.k, .string x.a, .string x.b, .string x.l, .string x.s, .string x.r], .int .i64 1] w fun e w' => e = .returned (.agg #[.int .i64 (spoiltA x 1).k, .string (spoiltA x 1).a, .string (spoiltA x 1).b, .string (spoiltA x 1).l, .string (spoiltA x 1).s, .string (spoiltA x 1).r]) ∧ Below w.heap.size w w' := by
  obtain ⟨W1, hW1⟩ : ∃ W1, (w.alloc (.cells #[.int .i64 x.k, .string x.a, .string x.b, .string x.l, .string x.s, .string x.r] 54)).alloc (.cells #[.int .i64 0, .string ⟨#[]⟩, .string ⟨#[]⟩, .string ⟨#[]⟩, .string ⟨#[]⟩, .string ⟨#[]⟩] 54) = W1 := ⟨_, rfl⟩
  have hb1 : Below w.heap.size w W1 := by rw [← hW1]; exact ((Below.refl _ w).alloc (Nat.le_refl _) _).alloc (by simp) _
  have hA : W1.heap[w.heap.size]? = some (.cells #[.int .i64 x.k, .string x.a, .string x.b, .string x.l, .string x.s, .string x.r] 54 (0, 0)) := by rw [← hW1]; exact (Below.heap_alloc _ _ _ (by simp)).trans (World.alloc_heap_new w _)
  have hR : W1.heap[w.heap.size + 1]? = some (.cells #[.int .i64 0, .string ⟨#[]⟩, .string ⟨#[]⟩, .string ⟨#[]⟩, .string ⟨#[]⟩, .string ⟨#[]⟩] 54 (0, 0)) := by rw [← hW1]; exact heap_alloc2_new w _ _
  have hlR := lt_of_block hR
  have HB1 := Lib.hid hb1
  have HA := Lib.hid hA
  have HR := Lib.hid hR
  clear hA hR hb1
  obtain ⟨⟨a0, a1, a2, a3, a4, a5⟩, fa0, fa1, fa2, fa3, fa4, fa5⟩ := al_cells HA.out
  obtain ⟨⟨c0, c1, c2, c3, c4, c5⟩, f0, f1, f2, f3, f4, f5⟩ := al_cells HR.out
  have HT := Lib.hid (fun w' => title_ref x.a w' (by omega))
  go_enter Try.func49, Try.ntmps49
  go_upto_region 1 with fail
  clear hW1
  go_wp2_with (go_at_call 51; (with_reducible refine (HT.out _).mono ?_); rintro e w5 ⟨rfl, hb5⟩; have hA5 := (hb5.block _ (by omega)).trans HA.out; have hR5 := (hb5.block _ hlR).trans HR.out; clear a0 a1 a2 a3 a4 a5 fa0 fa1 fa2 fa3 fa4 fa5 c0 c1 c2 c3 c4 c5 f0 f1 f2 f3 f4 f5; obtain ⟨⟨a0, a1, a2, a3, a4, a5⟩, fa0, fa1, fa2, fa3, fa4, fa5⟩ := al_cells hA5; obtain ⟨⟨c0, c1, c2, c3, c4, c5⟩, f0, f1, f2, f3, f4, f5⟩ := al_cells hR5)
  have HS := al_store ((heap_setCellY (g := w.heap.size) (k := 1) (v := .string (titleS x.a)) (by omega)).trans hR5) (.int .i64 x.k) (.string (titleS x.a)) (.string x.b) (.string x.l) (.string x.s) (.string x.r)
  refine bodyPost_ret (results_cell_row rfl _ _ (w.heap.size + 1) 54 _ (0, 0) _ rfl HS.1 Try.underlying54 rfl sizeAl) rfl ?_
  exact ⟨rfl, ((HB1.out.trans (hb5.mono (by have := HB1.out.size; omega))).setCell (p := ⟨w.heap.size, 1, none⟩) (Nat.le_refl _) (.string (titleS x.a))).trans (HS.2 _ (by omega))⟩
set_option maxRecDepth 100000 in
set_option maxHeartbeats 4000000 in
theorem spoilt_2 (x : Al) (w : World) (_za : x.a.size ≤ 1000) (zb : x.b.size ≤ 1000) :
    Calls Try.prog 49 #[.agg #[.int .i64 x.k, .string x.a, .string x.b, .string x.l, .string x.s, .string x.r], .int .i64 2] w fun e w' => e = .returned (.agg #[.int .i64 (spoiltA x 2).k, .string (spoiltA x 2).a, .string (spoiltA x 2).b, .string (spoiltA x 2).l, .string (spoiltA x 2).s, .string (spoiltA x 2).r]) ∧ Below w.heap.size w w' := by
  obtain ⟨W1, hW1⟩ : ∃ W1, (w.alloc (.cells #[.int .i64 x.k, .string x.a, .string x.b, .string x.l, .string x.s, .string x.r] 54)).alloc (.cells #[.int .i64 0, .string ⟨#[]⟩, .string ⟨#[]⟩, .string ⟨#[]⟩, .string ⟨#[]⟩, .string ⟨#[]⟩] 54) = W1 := ⟨_, rfl⟩
  have hb1 : Below w.heap.size w W1 := by rw [← hW1]; exact ((Below.refl _ w).alloc (Nat.le_refl _) _).alloc (by simp) _
  have hA : W1.heap[w.heap.size]? = some (.cells #[.int .i64 x.k, .string x.a, .string x.b, .string x.l, .string x.s, .string x.r] 54 (0, 0)) := by rw [← hW1]; exact (Below.heap_alloc _ _ _ (by simp)).trans (World.alloc_heap_new w _)
  have hR : W1.heap[w.heap.size + 1]? = some (.cells #[.int .i64 0, .string ⟨#[]⟩, .string ⟨#[]⟩, .string ⟨#[]⟩, .string ⟨#[]⟩, .string ⟨#[]⟩] 54 (0, 0)) := by rw [← hW1]; exact heap_alloc2_new w _ _
  have hlR := lt_of_block hR
  have HB1 := Lib.hid hb1
  have HA := Lib.hid hA
  have HR := Lib.hid hR
  clear hA hR hb1
  obtain ⟨⟨a0, a1, a2, a3, a4, a5⟩, fa0, fa1, fa2, fa3, fa4, fa5⟩ := al_cells HA.out
  obtain ⟨⟨c0, c1, c2, c3, c4, c5⟩, f0, f1, f2, f3, f4, f5⟩ := al_cells HR.out
  have hnf : ¬ (9223372036854775807 < x.b.size + (⟨#[120]⟩ : ByteArray).size) := by have : (⟨#[120]⟩ : ByteArray).size = 1 := rfl; omega
  go_enter Try.func49, Try.ntmps49
  go_upto_region 1 with fail
  clear hW1
  go_wp2
  have HS := al_store ((heap_setCellY (g := w.heap.size) (k := 2) (v := .string (x.b ++ ⟨#[120]⟩)) (by omega)).trans HR.out) (.int .i64 x.k) (.string x.a) (.string (x.b ++ ⟨#[120]⟩)) (.string x.l) (.string x.s) (.string x.r)
  refine bodyPost_ret (results_cell_row rfl _ _ (w.heap.size + 1) 54 _ (0, 0) _ rfl HS.1 Try.underlying54 rfl sizeAl) rfl ?_
  exact ⟨rfl, (HB1.out.setCell (p := ⟨w.heap.size, 2, none⟩) (Nat.le_refl _) (.string (x.b ++ ⟨#[120]⟩))).trans (HS.2 _ (by omega))⟩
set_option maxRecDepth 100000 in
set_option maxHeartbeats 4000000 in
theorem spoilt_3 (x : Al) (w : World) (_za : x.a.size ≤ 1000) (_zb : x.b.size ≤ 1000) :
    Calls Try.prog 49 #[.agg #[.int .i64 x.k, .string x.a, .string x.b, .string x.l, .string x.s, .string x.r], .int .i64 3] w fun e w' => e = .returned (.agg #[.int .i64 (spoiltA x 3).k, .string (spoiltA x 3).a, .string (spoiltA x 3).b, .string (spoiltA x 3).l, .string (spoiltA x 3).s, .string (spoiltA x 3).r]) ∧ Below w.heap.size w w' := by
  obtain ⟨W1, hW1⟩ : ∃ W1, (w.alloc (.cells #[.int .i64 x.k, .string x.a, .string x.b, .string x.l, .string x.s, .string x.r] 54)).alloc (.cells #[.int .i64 0, .string ⟨#[]⟩, .string ⟨#[]⟩, .string ⟨#[]⟩, .string ⟨#[]⟩, .string ⟨#[]⟩] 54) = W1 := ⟨_, rfl⟩
  have hb1 : Below w.heap.size w W1 := by rw [← hW1]; exact ((Below.refl _ w).alloc (Nat.le_refl _) _).alloc (by simp) _
  have hA : W1.heap[w.heap.size]? = some (.cells #[.int .i64 x.k, .string x.a, .string x.b, .string x.l, .string x.s, .string x.r] 54 (0, 0)) := by rw [← hW1]; exact (Below.heap_alloc _ _ _ (by simp)).trans (World.alloc_heap_new w _)
  have hR : W1.heap[w.heap.size + 1]? = some (.cells #[.int .i64 0, .string ⟨#[]⟩, .string ⟨#[]⟩, .string ⟨#[]⟩, .string ⟨#[]⟩, .string ⟨#[]⟩] 54 (0, 0)) := by rw [← hW1]; exact heap_alloc2_new w _ _
  have hlR := lt_of_block hR
  have HB1 := Lib.hid hb1
  have HA := Lib.hid hA
  have HR := Lib.hid hR
  clear hA hR hb1
  obtain ⟨⟨a0, a1, a2, a3, a4, a5⟩, fa0, fa1, fa2, fa3, fa4, fa5⟩ := al_cells HA.out
  obtain ⟨⟨c0, c1, c2, c3, c4, c5⟩, f0, f1, f2, f3, f4, f5⟩ := al_cells HR.out
  go_enter Try.func49, Try.ntmps49
  go_upto_region 1 with fail
  clear hW1
  go_wp2
  have HS := al_store ((heap_setCellY (g := w.heap.size) (k := 5) (v := .string ⟨#[]⟩) (by omega)).trans ((heap_setCellY (g := w.heap.size) (k := 4) (v := .string ⟨#[]⟩) (by omega)).trans ((heap_setCellY (g := w.heap.size) (k := 3) (v := .string ⟨#[]⟩) (by omega)).trans HR.out))) (.int .i64 x.k) (.string x.a) (.string x.b) (.string ⟨#[]⟩) (.string ⟨#[]⟩) (.string ⟨#[]⟩)
  refine bodyPost_ret (results_cell_row rfl _ _ (w.heap.size + 1) 54 _ (0, 0) _ rfl HS.1 Try.underlying54 rfl sizeAl) rfl ?_
  exact ⟨rfl, (((HB1.out.setCell (p := ⟨w.heap.size, 3, none⟩) (Nat.le_refl _) (.string ⟨#[]⟩)).setCell (p := ⟨w.heap.size, 4, none⟩) (Nat.le_refl _) (.string ⟨#[]⟩)).setCell (p := ⟨w.heap.size, 5, none⟩) (Nat.le_refl _) (.string ⟨#[]⟩)).trans (HS.2 _ (by omega))⟩
set_option maxRecDepth 100000 in
set_option maxHeartbeats 4000000 in
theorem spoilt_4 (x : Al) (w : World) (_za : x.a.size ≤ 1000) (_zb : x.b.size ≤ 1000) :
    Calls Try.prog 49 #[.agg #[.int .i64 x.k, .string x.a, .string x.b, .string x.l, .string x.s, .string x.r], .int .i64 4] w fun e w' => e = .returned (.agg #[.int .i64 (spoiltA x 4).k, .string (spoiltA x 4).a, .string (spoiltA x 4).b, .string (spoiltA x 4).l, .string (spoiltA x 4).s, .string (spoiltA x 4).r]) ∧ Below w.heap.size w w' := by
  obtain ⟨W1, hW1⟩ : ∃ W1, (w.alloc (.cells #[.int .i64 x.k, .string x.a, .string x.b, .string x.l, .string x.s, .string x.r] 54)).alloc (.cells #[.int .i64 0, .string ⟨#[]⟩, .string ⟨#[]⟩, .string ⟨#[]⟩, .string ⟨#[]⟩, .string ⟨#[]⟩] 54) = W1 := ⟨_, rfl⟩
  have hb1 : Below w.heap.size w W1 := by rw [← hW1]; exact ((Below.refl _ w).alloc (Nat.le_refl _) _).alloc (by simp) _
  have hA : W1.heap[w.heap.size]? = some (.cells #[.int .i64 x.k, .string x.a, .string x.b, .string x.l, .string x.s, .string x.r] 54 (0, 0)) := by rw [← hW1]; exact (Below.heap_alloc _ _ _ (by simp)).trans (World.alloc_heap_new w _)
  have hR : W1.heap[w.heap.size + 1]? = some (.cells #[.int .i64 0, .string ⟨#[]⟩, .string ⟨#[]⟩, .string ⟨#[]⟩, .string ⟨#[]⟩, .string ⟨#[]⟩] 54 (0, 0)) := by rw [← hW1]; exact heap_alloc2_new w _ _
  have hlR := lt_of_block hR
  have HB1 := Lib.hid hb1
  have HA := Lib.hid hA
  have HR := Lib.hid hR
  clear hA hR hb1
  obtain ⟨⟨a0, a1, a2, a3, a4, a5⟩, fa0, fa1, fa2, fa3, fa4, fa5⟩ := al_cells HA.out
  obtain ⟨⟨c0, c1, c2, c3, c4, c5⟩, f0, f1, f2, f3, f4, f5⟩ := al_cells HR.out
  go_enter Try.func49, Try.ntmps49
  go_upto_region 1 with fail
  clear hW1
  go_wp2
  have HS := al_store ((heap_setCellY (g := w.heap.size) (k := 0) (v := .int .i64 8) (by omega)).trans HR.out) (.int .i64 8) (.string x.a) (.string x.b) (.string x.l) (.string x.s) (.string x.r)
  refine bodyPost_ret (results_cell_row rfl _ _ (w.heap.size + 1) 54 _ (0, 0) _ rfl HS.1 Try.underlying54 rfl sizeAl) rfl ?_
  exact ⟨rfl, (HB1.out.setCell (p := ⟨w.heap.size, 0, none⟩) (Nat.le_refl _) (.int .i64 8)).trans (HS.2 _ (by omega))⟩
set_option maxRecDepth 100000 in
set_option maxHeartbeats 4000000 in
theorem spoilt_5 (x : Al) (w : World) (_za : x.a.size ≤ 1000) (_zb : x.b.size ≤ 1000) :
    Calls Try.prog 49 #[.agg #[.int .i64 x.k, .string x.a, .string x.b, .string x.l, .string x.s, .string x.r], .int .i64 5] w fun e w' => e = .returned (.agg #[.int .i64 (spoiltA x 5).k, .string (spoiltA x 5).a, .string (spoiltA x 5).b, .string (spoiltA x 5).l, .string (spoiltA x 5).s, .string (spoiltA x 5).r]) ∧ Below w.heap.size w w' := by
  obtain ⟨W1, hW1⟩ : ∃ W1, (w.alloc (.cells #[.int .i64 x.k, .string x.a, .string x.b, .string x.l, .string x.s, .string x.r] 54)).alloc (.cells #[.int .i64 0, .string ⟨#[]⟩, .string ⟨#[]⟩, .string ⟨#[]⟩, .string ⟨#[]⟩, .string ⟨#[]⟩] 54) = W1 := ⟨_, rfl⟩
  have hb1 : Below w.heap.size w W1 := by rw [← hW1]; exact ((Below.refl _ w).alloc (Nat.le_refl _) _).alloc (by simp) _
  have hA : W1.heap[w.heap.size]? = some (.cells #[.int .i64 x.k, .string x.a, .string x.b, .string x.l, .string x.s, .string x.r] 54 (0, 0)) := by rw [← hW1]; exact (Below.heap_alloc _ _ _ (by simp)).trans (World.alloc_heap_new w _)
  have hR : W1.heap[w.heap.size + 1]? = some (.cells #[.int .i64 0, .string ⟨#[]⟩, .string ⟨#[]⟩, .string ⟨#[]⟩, .string ⟨#[]⟩, .string ⟨#[]⟩] 54 (0, 0)) := by rw [← hW1]; exact heap_alloc2_new w _ _
  have hlR := lt_of_block hR
  have HB1 := Lib.hid hb1
  have HA := Lib.hid hA
  have HR := Lib.hid hR
  clear hA hR hb1
  obtain ⟨⟨a0, a1, a2, a3, a4, a5⟩, fa0, fa1, fa2, fa3, fa4, fa5⟩ := al_cells HA.out
  obtain ⟨⟨c0, c1, c2, c3, c4, c5⟩, f0, f1, f2, f3, f4, f5⟩ := al_cells HR.out
  go_enter Try.func49, Try.ntmps49
  go_upto_region 1 with fail
  clear hW1
  go_wp2
  have HS := al_store ((heap_setCellY (g := w.heap.size) (k := 3) (v := .string ⟨#[97, 98, 99, 100, 101, 102, 103, 104, 105]⟩) (by omega)).trans HR.out) (.int .i64 x.k) (.string x.a) (.string x.b) (.string ⟨#[97, 98, 99, 100, 101, 102, 103, 104, 105]⟩) (.string x.s) (.string x.r)
  refine bodyPost_ret (results_cell_row rfl _ _ (w.heap.size + 1) 54 _ (0, 0) _ rfl HS.1 Try.underlying54 rfl sizeAl) rfl ?_
  exact ⟨rfl, (HB1.out.setCell (p := ⟨w.heap.size, 3, none⟩) (Nat.le_refl _) (.string ⟨#[97, 98, 99, 100, 101, 102, 103, 104, 105]⟩)).trans (HS.2 _ (by omega))⟩
set_option maxRecDepth 100000 in
set_option maxHeartbeats 4000000 in
theorem spoilt_6 (x : Al) (w : World) (_za : x.a.size ≤ 1000) (_zb : x.b.size ≤ 1000) :
    Calls Try.prog 49 #[.agg #[.int .i64 x.k, .string x.a, .string x.b, .string x.l, .string x.s, .string x.r], .int .i64 6] w fun e w' => e = .returned (.agg #[.int .i64 (spoiltA x 6).k, .string (spoiltA x 6).a, .string (spoiltA x 6).b, .string (spoiltA x 6).l, .string (spoiltA x 6).s, .string (spoiltA x 6).r]) ∧ Below w.heap.size w w' := by
  obtain ⟨W1, hW1⟩ : ∃ W1, (w.alloc (.cells #[.int .i64 x.k, .string x.a, .string x.b, .string x.l, .string x.s, .string x.r] 54)).alloc (.cells #[.int .i64 0, .string ⟨#[]⟩, .string ⟨#[]⟩, .string ⟨#[]⟩, .string ⟨#[]⟩, .string ⟨#[]⟩] 54) = W1 := ⟨_, rfl⟩
  have hb1 : Below w.heap.size w W1 := by rw [← hW1]; exact ((Below.refl _ w).alloc (Nat.le_refl _) _).alloc (by simp) _
  have hA : W1.heap[w.heap.size]? = some (.cells #[.int .i64 x.k, .string x.a, .string x.b, .string x.l, .string x.s, .string x.r] 54 (0, 0)) := by rw [← hW1]; exact (Below.heap_alloc _ _ _ (by simp)).trans (World.alloc_heap_new w _)
  have hR : W1.heap[w.heap.size + 1]? = some (.cells #[.int .i64 0, .string ⟨#[]⟩, .string ⟨#[]⟩, .string ⟨#[]⟩, .string ⟨#[]⟩, .string ⟨#[]⟩] 54 (0, 0)) := by rw [← hW1]; exact heap_alloc2_new w _ _
  have hlR := lt_of_block hR
  have HB1 := Lib.hid hb1
  have HA := Lib.hid hA
  have HR := Lib.hid hR
  clear hA hR hb1
  have HL := Lib.hid (fun w' => langs_y w')
  have HP := Lib.hid (fun v n w' (hv : RowP w' v langsY) => pickY_ref v langsY n w' hv (by decide) (by decide))
  have HSt := Lib.hid (fun w' (hb : Below W1.heap.size W1 w') => And.intro ((hb.block _ (by omega)).trans HA.out) ((hb.block _ hlR).trans HR.out))
  obtain ⟨⟨a0, a1, a2, a3, a4, a5⟩, fa0, fa1, fa2, fa3, fa4, fa5⟩ := al_cells HA.out
  go_enter Try.func49, Try.ntmps49
  go_upto_region 1 with fail
  clear hW1
  go_upto_region 15 with fail
  have hd1 : W1.drew.cell? ⟨w.heap.size, 1, none⟩ = some (.string x.a) := a1
  have hbd : Below W1.heap.size W1 W1.drew := Below.drew (Below.refl _ _)
  go_region_held3 (fun w' => w'.cell? ⟨w.heap.size, 1, none⟩ = some (.string x.a)) (first | assumption | exact (World.cell?_setCell_other _ _ _ _ (by simp)).trans (by assumption))
    (first
    | (go_at_call 44; (with_reducible refine (HL.out _).mono ?_); rintro e w5 ⟨u, rfl, hrow, hb5⟩; have hbb := hbd.trans (hb5.mono hbd.size); have hA5 := (HSt.out _ hbb).1; have hR5 := (HSt.out _ hbb).2; clear a0 a1 a2 a3 a4 a5 fa0 fa1 fa2 fa3 fa4 fa5; obtain ⟨⟨a0, a1, a2, a3, a4, a5⟩, fa0, fa1, fa2, fa3, fa4, fa5⟩ := al_cells hA5; obtain ⟨⟨c0, c1, c2, c3, c4, c5⟩, f0, f1, f2, f3, f4, f5⟩ := al_cells hR5)
    | (go_at_call 20; (with_reducible refine (HP.out _ _ _ hrow).mono ?_); rintro e w6 ⟨rfl, rfl⟩))
  go_wp2
  have HS := al_store ((heap_setCellY (g := w.heap.size) (k := 3) (v := .string (pickS langsY (x.a.size : Int))) (by omega)).trans hR5) (.int .i64 x.k) (.string x.a) (.string x.b) (.string (pickS langsY (x.a.size : Int))) (.string x.s) (.string x.r)
  refine bodyPost_ret (results_cell_row rfl _ _ (w.heap.size + 1) 54 _ (0, 0) _ rfl HS.1 Try.underlying54 rfl sizeAl) rfl ?_
  exact ⟨rfl, ((HB1.out.trans (hbb.mono (by have := HB1.out.size; omega))).setCell (p := ⟨w.heap.size, 3, none⟩) (Nat.le_refl _) (.string (pickS langsY (x.a.size : Int)))).trans (HS.2 _ (by omega))⟩
set_option maxRecDepth 100000 in
set_option maxHeartbeats 4000000 in
theorem spoilt_7 (x : Al) (w : World) (_za : x.a.size ≤ 1000) (_zb : x.b.size ≤ 1000) :
    Calls Try.prog 49 #[.agg #[.int .i64 x.k, .string x.a, .string x.b, .string x.l, .string x.s, .string x.r], .int .i64 7] w fun e w' => e = .returned (.agg #[.int .i64 (spoiltA x 7).k, .string (spoiltA x 7).a, .string (spoiltA x 7).b, .string (spoiltA x 7).l, .string (spoiltA x 7).s, .string (spoiltA x 7).r]) ∧ Below w.heap.size w w' := by
  obtain ⟨W1, hW1⟩ : ∃ W1, (w.alloc (.cells #[.int .i64 x.k, .string x.a, .string x.b, .string x.l, .string x.s, .string x.r] 54)).alloc (.cells #[.int .i64 0, .string ⟨#[]⟩, .string ⟨#[]⟩, .string ⟨#[]⟩, .string ⟨#[]⟩, .string ⟨#[]⟩] 54) = W1 := ⟨_, rfl⟩
  have hb1 : Below w.heap.size w W1 := by rw [← hW1]; exact ((Below.refl _ w).alloc (Nat.le_refl _) _).alloc (by simp) _
  have hA : W1.heap[w.heap.size]? = some (.cells #[.int .i64 x.k, .string x.a, .string x.b, .string x.l, .string x.s, .string x.r] 54 (0, 0)) := by rw [← hW1]; exact (Below.heap_alloc _ _ _ (by simp)).trans (World.alloc_heap_new w _)
  have hR : W1.heap[w.heap.size + 1]? = some (.cells #[.int .i64 0, .string ⟨#[]⟩, .string ⟨#[]⟩, .string ⟨#[]⟩, .string ⟨#[]⟩, .string ⟨#[]⟩] 54 (0, 0)) := by rw [← hW1]; exact heap_alloc2_new w _ _
  have hlR := lt_of_block hR
  have HB1 := Lib.hid hb1
  have HA := Lib.hid hA
  have HR := Lib.hid hR
  clear hA hR hb1
  obtain ⟨⟨a0, a1, a2, a3, a4, a5⟩, fa0, fa1, fa2, fa3, fa4, fa5⟩ := al_cells HA.out
  obtain ⟨⟨c0, c1, c2, c3, c4, c5⟩, f0, f1, f2, f3, f4, f5⟩ := al_cells HR.out
  go_enter Try.func49, Try.ntmps49
  go_upto_region 1 with fail
  clear hW1
  go_wp2
  have HS := al_store HR.out (.int .i64 x.k) (.string x.a) (.string x.b) (.string x.l) (.string x.s) (.string x.r)
  refine bodyPost_ret (results_cell_row rfl _ _ (w.heap.size + 1) 54 _ (0, 0) _ rfl HS.1 Try.underlying54 rfl sizeAl) rfl ?_
  exact ⟨rfl, HB1.out.trans (HS.2 _ (by omega))⟩
set_option maxRecDepth 100000 in
set_option maxHeartbeats 4000000 in
theorem spoilt_8 (x : Al) (w : World) (_za : x.a.size ≤ 1000) (_zb : x.b.size ≤ 1000) :
    Calls Try.prog 49 #[.agg #[.int .i64 x.k, .string x.a, .string x.b, .string x.l, .string x.s, .string x.r], .int .i64 8] w fun e w' => e = .returned (.agg #[.int .i64 (spoiltA x 8).k, .string (spoiltA x 8).a, .string (spoiltA x 8).b, .string (spoiltA x 8).l, .string (spoiltA x 8).s, .string (spoiltA x 8).r]) ∧ Below w.heap.size w w' := by
  obtain ⟨W1, hW1⟩ : ∃ W1, (w.alloc (.cells #[.int .i64 x.k, .string x.a, .string x.b, .string x.l, .string x.s, .string x.r] 54)).alloc (.cells #[.int .i64 0, .string ⟨#[]⟩, .string ⟨#[]⟩, .string ⟨#[]⟩, .string ⟨#[]⟩, .string ⟨#[]⟩] 54) = W1 := ⟨_, rfl⟩
  have hb1 : Below w.heap.size w W1 := by rw [← hW1]; exact ((Below.refl _ w).alloc (Nat.le_refl _) _).alloc (by simp) _
  have hA : W1.heap[w.heap.size]? = some (.cells #[.int .i64 x.k, .string x.a, .string x.b, .string x.l, .string x.s, .string x.r] 54 (0, 0)) := by rw [← hW1]; exact (Below.heap_alloc _ _ _ (by simp)).trans (World.alloc_heap_new w _)
  have hR : W1.heap[w.heap.size + 1]? = some (.cells #[.int .i64 0, .string ⟨#[]⟩, .string ⟨#[]⟩, .string ⟨#[]⟩, .string ⟨#[]⟩, .string ⟨#[]⟩] 54 (0, 0)) := by rw [← hW1]; exact heap_alloc2_new w _ _
  have hlR := lt_of_block hR
  have HB1 := Lib.hid hb1
  have HA := Lib.hid hA
  have HR := Lib.hid hR
  clear hA hR hb1
  obtain ⟨⟨a0, a1, a2, a3, a4, a5⟩, fa0, fa1, fa2, fa3, fa4, fa5⟩ := al_cells HA.out
  obtain ⟨⟨c0, c1, c2, c3, c4, c5⟩, f0, f1, f2, f3, f4, f5⟩ := al_cells HR.out
  go_enter Try.func49, Try.ntmps49
  go_upto_region 1 with fail
  clear hW1
  go_wp2
  have HS := al_store HR.out (.int .i64 x.k) (.string x.a) (.string x.b) (.string x.l) (.string x.s) (.string x.r)
  refine bodyPost_ret (results_cell_row rfl _ _ (w.heap.size + 1) 54 _ (0, 0) _ rfl HS.1 Try.underlying54 rfl sizeAl) rfl ?_
  exact ⟨rfl, HB1.out.trans (HS.2 _ (by omega))⟩
theorem spoilt_any (x : Al) (n : Nat) (hn : n < 9) (w : World) (za : x.a.size ≤ 1000) (zb : x.b.size ≤ 1000) :
    Calls Try.prog 49 #[.agg #[.int .i64 x.k, .string x.a, .string x.b, .string x.l, .string x.s, .string x.r], .int .i64 (n : Int)] w fun e w' => e = .returned (.agg #[.int .i64 (spoiltA x n).k, .string (spoiltA x n).a, .string (spoiltA x n).b, .string (spoiltA x n).l, .string (spoiltA x n).s, .string (spoiltA x n).r]) ∧ Below w.heap.size w w' := by
  have h9 : n = 0 ∨ n = 1 ∨ n = 2 ∨ n = 3 ∨ n = 4 ∨ n = 5 ∨ n = 6 ∨ n = 7 ∨ n = 8 := by omega
  rcases h9 with rfl | rfl | rfl | rfl | rfl | rfl | rfl | rfl | rfl
  · exact spoilt_0 x w za zb
  · exact spoilt_1 x w za zb
  · exact spoilt_2 x w za zb
  · exact spoilt_3 x w za zb
  · exact spoilt_4 x w za zb
  · exact spoilt_5 x w za zb
  · exact spoilt_6 x w za zb
  · exact spoilt_7 x w za zb
  · exact spoilt_8 x w za zb
end Go.Proofs.Ythjfcfhibdpbnaa

/-! Aliases by numbers: Made. (Printed by wip/gen_ymade.py.) -/
namespace Go.Proofs.Ythjfcfhibdpbnaa
open Go Go.RowKit

def numT (m : Nat) : ByteArray := ofL [UInt8.ofNat (48 + m / 10), UInt8.ofNat (48 + m % 10)]
structure Sd where
  kind : Int
  a : Int
  b : Int
  l : Int
  s : Int
  r : Int
  odd : Int
/-- The three blocks of Made: the seed, what comes back, the alias that is made. -/
structure MdI (w : World) (S : Sd) (x : Al) (W : World) : Prop where
  s : W.heap[w.heap.size]? = some (.cells #[.int .i64 S.kind, .int .i64 S.a, .int .i64 S.b, .int .i64 S.l, .int .i64 S.s, .int .i64 S.r, .int .i64 S.odd] 57 (0, 0))
  r : W.heap[w.heap.size + 1]? = some (.cells #[.int .i64 0, .string ⟨#[]⟩, .string ⟨#[]⟩, .string ⟨#[]⟩, .string ⟨#[]⟩, .string ⟨#[]⟩] 54 (0, 0))
  a : W.heap[w.heap.size + 1 + 1]? = some (.cells #[.int .i64 x.k, .string x.a, .string x.b, .string x.l, .string x.s, .string x.r] 54 (0, 0))
  bel : Below w.heap.size w W
theorem conv_num (m : Nat) (hm : m < 26) (W : World) : (convert 94 9 (.slice (some ⟨W.heap.size, 0, none⟩) 2 2)).run Try.prog (W.alloc (.cells #[.int .u8 (48 + (m : Int) / 10), .int .u8 (48 + (m : Int) % 10)] 5)) = .ok (.string (numT m)) (W.alloc (.cells #[.int .u8 (48 + (m : Int) / 10), .int .u8 (48 + (m : Int) % 10)] 5)) := by
  have e0 : 48 + (m : Int) / 10 = (((UInt8.ofNat (48 + m / 10)).toNat : Nat) : Int) := by
    rw [UInt8.toNat_ofNat']; omega
  have e1 : 48 + (m : Int) % 10 = (((UInt8.ofNat (48 + m % 10)).toNat : Nat) : Int) := by
    rw [UInt8.toNat_ofNat']; omega
  rw [e0, e1]
  exact run_convert_bytes_back (P := Try.prog) _ 94 9 5 ⟨W.heap.size, 0, none⟩ 2 [UInt8.ofNat (48 + m / 10), UInt8.ofNat (48 + m % 10)] Try.underlying94 Try.underlying5 Try.underlying9 (fun j hj => by
    have h2 : j = 0 ∨ j = 1 := by simp at hj; omega
    rcases h2 with rfl | rfl <;> simp [Addr.add])
theorem pickS_size {l : List ByteArray} {n : Int} {m : Nat} (h0 : 0 < l.length) (h : (l.all fun x => decide (x.size ≤ m)) = true) : (pickS l n).size ≤ m := of_decide_eq_true (List.all_eq_true.1 h _ (pickS_mem l n h0))
theorem MdI.lt {w W : World} {S : Sd} {x : Al} (h : MdI w S x W) : w.heap.size + 1 + 1 < W.heap.size := lt_of_block h.a
theorem MdI.below {w W W' : World} {S : Sd} {x : Al} (h : MdI w S x W) (hb : Below W.heap.size W W') : MdI w S x W' := by
  have hl := h.lt
  exact ⟨(hb.block _ (by omega)).trans h.s, (hb.block _ (by omega)).trans h.r, (hb.block _ hl).trans h.a, h.bel.trans (hb.mono h.bel.size)⟩
theorem MdI.alloc {w W : World} {S : Sd} {x : Al} (h : MdI w S x W) (o : Obj) : MdI w S x (W.alloc o) := h.below ((Below.refl _ _).alloc (Nat.le_refl _) _)
theorem MdI.drew {w W : World} {S : Sd} {x : Al} (h : MdI w S x W) : MdI w S x W.drew := h.below (Below.drew (Below.refl _ _))
theorem cells7 {W : World} {B : Nat} {a b c d e f g : Value} {t : TypeId} (h : W.heap[B]? = some (.cells #[a, b, c, d, e, f, g] t (0, 0))) :
    W.cell? ⟨B, 0, none⟩ = some a ∧ W.cell? ⟨B, 1, none⟩ = some b ∧ W.cell? ⟨B, 2, none⟩ = some c ∧ W.cell? ⟨B, 3, none⟩ = some d ∧ W.cell? ⟨B, 4, none⟩ = some e ∧ W.cell? ⟨B, 5, none⟩ = some f ∧ W.cell? ⟨B, 6, none⟩ = some g := by
  simp [World.cell?, h]
theorem MdI.set {w W : World} {S : Sd} {x y : Al} (h : MdI w S x W) (k : Nat) (v : Value) (hy : (#[.int .i64 x.k, .string x.a, .string x.b, .string x.l, .string x.s, .string x.r] : Array Value).setIfInBounds k v = #[.int .i64 y.k, .string y.a, .string y.b, .string y.l, .string y.s, .string y.r]) : MdI w S y (W.setCell ⟨w.heap.size + 1 + 1, k, none⟩ v) :=
  ⟨(heap_setCellY (by omega)).trans h.s, (heap_setCellY (by omega)).trans h.r, (setY h.a v).trans (by rw [hy]), h.bel.setCell (p := ⟨w.heap.size + 1 + 1, k, none⟩) (by show w.heap.size ≤ w.heap.size + 1 + 1; omega) v⟩
theorem seed_cell {w W : World} {S : Sd} {x : Al} (h : MdI w S x W) : W.cell? ⟨w.heap.size, 0, none⟩ = some (.int .i64 S.kind) ∧ W.cell? ⟨w.heap.size, 1, none⟩ = some (.int .i64 S.a) ∧ W.cell? ⟨w.heap.size, 2, none⟩ = some (.int .i64 S.b) ∧ W.cell? ⟨w.heap.size, 3, none⟩ = some (.int .i64 S.l) ∧ W.cell? ⟨w.heap.size, 4, none⟩ = some (.int .i64 S.s) ∧ W.cell? ⟨w.heap.size, 5, none⟩ = some (.int .i64 S.r) ∧ W.cell? ⟨w.heap.size, 6, none⟩ = some (.int .i64 S.odd) := cells7 h.s

def lat3Y : List ByteArray := [⟨#[]⟩, ⟨#[]⟩, ⟨#[108, 97, 116, 110]⟩]
def us3Y : List ByteArray := [⟨#[]⟩, ⟨#[]⟩, ⟨#[117, 115]⟩]
def lat2Y : List ByteArray := [⟨#[]⟩, ⟨#[108, 97, 116, 110]⟩]
def pairY : List ByteArray := [⟨#[98, 114]⟩, ⟨#[99, 110]⟩, ⟨#[117, 115]⟩, ⟨#[100, 100]⟩]
def varY : List ByteArray := [⟨#[104, 101, 112, 108, 111, 99]⟩, ⟨#[97, 114, 101, 118, 101, 108, 97]⟩, ⟨#[49, 97, 50, 98]⟩]
def toVarY : List ByteArray := [⟨#[]⟩, ⟨#[97, 108, 97, 108, 99, 57, 55]⟩, ⟨#[49, 57, 57, 52]⟩]
def keysY : List ByteArray := [⟨#[99, 97]⟩, ⟨#[99, 111]⟩]
def typesY : List ByteArray := [⟨#[105, 115, 108, 97, 109, 105, 99, 99]⟩, ⟨#[97, 98, 49]⟩, ⟨#[112, 104, 111, 110, 101, 98, 107]⟩]
def toTypesY : List ByteArray := [⟨#[99, 105, 118, 105, 108]⟩, ⟨#[116, 114, 117, 101]⟩, ⟨#[115, 116, 97, 110, 100, 97, 114, 100]⟩]
def baseA (S : Sd) : Nat → Al
  | 0 => ⟨1, numT (pickY 26 S.a), ⟨#[]⟩, pickS toLangsY S.l, pickS lat3Y S.s, pickS us3Y S.r⟩
  | 1 => ⟨2, pickS langsY S.a, pickS pairY S.b, pickS toLangsY S.l, ⟨#[]⟩, ⟨#[]⟩⟩
  | 2 => ⟨3, pickS langsY S.a, ⟨#[]⟩, pickS toLangsY S.l, pickS lat2Y S.s, pickS us3Y S.r⟩
  | 3 => ⟨4, pickS scriptsY S.a, ⟨#[]⟩, ⟨#[]⟩, pickS toScriptsY S.s, ⟨#[]⟩⟩
  | 4 => ⟨5, pickS regionsY S.a, ⟨#[]⟩, ⟨#[]⟩, ⟨#[]⟩, pickS toRegionsY S.r⟩
  | 5 => ⟨6, pickS varY S.a, ⟨#[]⟩, pickS toVarY S.l, ⟨#[]⟩, ⟨#[]⟩⟩
  | _ => ⟨7, pickS keysY S.a, pickS typesY S.b, pickS toTypesY S.l, ⟨#[]⟩, ⟨#[]⟩⟩
def madeA (S : Sd) : Al := spoiltA (baseA S (pickY 7 S.kind)) (pickY 9 S.odd)

set_option maxRecDepth 100000 in
set_option maxHeartbeats 8000000 in
theorem made_0 (S : Sd) (w : World) (hk : pickY 7 S.kind = 0) :
    Calls Try.prog 16 #[.agg #[.int .i64 S.kind, .int .i64 S.a, .int .i64 S.b, .int .i64 S.l, .int .i64 S.s, .int .i64 S.r, .int .i64 S.odd]] w fun e w' => e = .returned (.agg #[.int .i64 (spoiltA (baseA S 0) (pickY 9 S.odd)).k, .string (spoiltA (baseA S 0) (pickY 9 S.odd)).a, .string (spoiltA (baseA S 0) (pickY 9 S.odd)).b, .string (spoiltA (baseA S 0) (pickY 9 S.odd)).l, .string (spoiltA (baseA S 0) (pickY 9 S.odd)).s, .string (spoiltA (baseA S 0) (pickY 9 S.odd)).r]) ∧ Below w.heap.size w w' := by
  obtain ⟨b1, b2, b3, -⟩ : -(7 : Int) < Int.tmod S.kind 7 ∧ Int.tmod S.kind 7 < 7 ∧ Int.tmod (Int.tmod S.kind 7 + 7) 7 = ((pickY 7 S.kind : Nat) : Int) ∧ pickY 7 S.kind < 7 := pickY_facts 7 S.kind (by decide)
  rw [hk] at b3
  obtain ⟨o1, o2, o3, o4⟩ : -(9 : Int) < Int.tmod S.odd 9 ∧ Int.tmod S.odd 9 < 9 ∧ Int.tmod (Int.tmod S.odd 9 + 9) 9 = ((pickY 9 S.odd : Nat) : Int) ∧ pickY 9 S.odd < 9 := pickY_facts 9 S.odd (by decide)
  have HSP := Lib.hid (fun (x : Al) w' (za : x.a.size ≤ 1000) (zb : x.b.size ≤ 1000) => spoilt_any x (pickY 9 S.odd) o4 w' za zb)
  generalize pickY 9 S.odd = od at *
  generalize hr7 : Int.tmod S.kind 7 = r7 at *
  generalize hr9 : Int.tmod S.odd 9 = r9 at *
  obtain ⟨W1, hW1⟩ : ∃ W1, ((w.alloc (.cells #[.int .i64 S.kind, .int .i64 S.a, .int .i64 S.b, .int .i64 S.l, .int .i64 S.s, .int .i64 S.r, .int .i64 S.odd] 57)).alloc (.cells #[.int .i64 0, .string ⟨#[]⟩, .string ⟨#[]⟩, .string ⟨#[]⟩, .string ⟨#[]⟩, .string ⟨#[]⟩] 54)).alloc (.cells #[.int .i64 1, .string ⟨#[]⟩, .string ⟨#[]⟩, .string ⟨#[]⟩, .string ⟨#[]⟩, .string ⟨#[]⟩] 54) = W1 := ⟨_, rfl⟩
  have hI : MdI w S ⟨1, ⟨#[]⟩, ⟨#[]⟩, ⟨#[]⟩, ⟨#[]⟩, ⟨#[]⟩⟩ W1 := by
    rw [← hW1]
    refine ⟨?_, ?_, ?_, (((Below.refl _ w).alloc (Nat.le_refl _) _).alloc (by simp) _).alloc (by simp; omega) _⟩
    · exact (Below.heap_alloc _ _ _ (by simp; omega)).trans ((Below.heap_alloc _ _ _ (by simp)).trans (World.alloc_heap_new w _))
    · exact (Below.heap_alloc _ _ _ (by simp)).trans (heap_alloc2_new w _ _)
    · have := World.alloc_heap_new ((w.alloc (.cells #[.int .i64 S.kind, .int .i64 S.a, .int .i64 S.b, .int .i64 S.l, .int .i64 S.s, .int .i64 S.r, .int .i64 S.odd] 57)).alloc (.cells #[.int .i64 0, .string ⟨#[]⟩, .string ⟨#[]⟩, .string ⟨#[]⟩, .string ⟨#[]⟩, .string ⟨#[]⟩] 54)) (.cells #[.int .i64 1, .string ⟨#[]⟩, .string ⟨#[]⟩, .string ⟨#[]⟩, .string ⟨#[]⟩, .string ⟨#[]⟩] 54)
      simpa using this
  have HW1 := Lib.hid hW1
  clear hW1
  go_enter Try.func16, Try.ntmps16
  go_upto_region 7 with fail
  rw [HW1.out]
  clear HW1 b1 b2 b3 hr7
  obtain ⟨m1, m2, m3, m4⟩ : -(26 : Int) < Int.tmod S.a 26 ∧ Int.tmod S.a 26 < 26 ∧ Int.tmod (Int.tmod S.a 26 + 26) 26 = ((pickY 26 S.a : Nat) : Int) ∧ pickY 26 S.a < 26 := pickY_facts 26 S.a (by decide)
  obtain ⟨m, hm⟩ : ∃ m, pickY 26 S.a = m := ⟨_, rfl⟩
  rw [hm] at m3 m4
  have HM := Lib.hid hm
  clear hm
  generalize hra : Int.tmod S.a 26 = ra at *
  have hcv := conv_num m m4 W1
  have hs := hI.alloc (.cells #[.int .u8 (48 + (m : Int) / 10), .int .u8 (48 + (m : Int) % 10)] 5)
  obtain ⟨t0, t1, -⟩ := seed_cell hI
  obtain ⟨⟨ca0, ca1, ca2, ca3, ca4, ca5⟩, fa0, fa1, fa2, fa3, fa4, fa5⟩ := al_cells hs.a
  go_upto_region 9 with fail
  have hI2 : MdI w S ⟨1, numT m, ⟨#[]⟩, ⟨#[]⟩, ⟨#[]⟩, ⟨#[]⟩⟩ _ := hs.set 1 (.string (numT m)) rfl
  generalize hWW : (W1.alloc (.cells #[.int .u8 (48 + (m : Int) / 10), .int .u8 (48 + (m : Int) % 10)] 5)).setCell ⟨w.heap.size + 1 + 1, 1, none⟩ (.string (numT m)) = W2 at *
  clear hWW hs hcv hra m1 m2 m3 t0 t1 ca0 ca1 ca2 ca3 ca4 ca5 fa0 fa1 fa2 fa3 fa4 fa5 hI
  have hd := hI2.drew
  have hsc : W2.drew.cell? ⟨w.heap.size, 3, none⟩ = some (.int .i64 S.l) := (seed_cell hd).2.2.2.1
  have HL := Lib.hid (fun w' (h : MdI w S ⟨1, numT m, ⟨#[]⟩, ⟨#[]⟩, ⟨#[]⟩, ⟨#[]⟩⟩ w') => (toLangs_y w').mono (R' := fun e w'' => ∃ u, e = .returned u ∧ RowP w'' u toLangsY ∧ (MdI w S ⟨1, numT m, ⟨#[]⟩, ⟨#[]⟩, ⟨#[]⟩, ⟨#[]⟩⟩ w'' ∧ w''.cell? ⟨w.heap.size, 3, none⟩ = some (.int .i64 S.l) ∧ w''.cell? ⟨w.heap.size + 1 + 1, 3, none⟩ = some (.string ⟨#[]⟩) ∧ w''.frozen? ⟨w.heap.size + 1 + 1, 3, none⟩ = false)) fun e w'' ⟨u, p, q, r⟩ => by
    have h2 := h.below r
    obtain ⟨ca, fa⟩ := al_cells h2.a
    exact ⟨u, p, q, h2, (seed_cell h2).2.2.2.1, ca.2.2.2.1, fa.2.2.2.1⟩)
  go_region_held3 (fun w' => w'.cell? ⟨w.heap.size, 3, none⟩ = some (.int .i64 S.l)) (first | assumption | exact (World.cell?_setCell_other _ _ _ _ (by simp)).trans (by assumption))
    (first
    | (go_at_call 43; (with_reducible refine (HL.out _ hd).mono ?_); rintro e w5 ⟨u, rfl, hrow, hI5, c5, a5, f5⟩)
    | (go_at_call 20; (with_reducible refine (pickY_ref _ toLangsY _ _ hrow (by decide) (by decide)).mono ?_); rintro e w6 ⟨rfl, rfl⟩))
  have hI3 : MdI w S ⟨1, numT m, ⟨#[]⟩, pickS toLangsY S.l, ⟨#[]⟩, ⟨#[]⟩⟩ _ := hI5.set 3 (.string (pickS toLangsY S.l)) rfl
  generalize hWW : w5.setCell ⟨w.heap.size + 1 + 1, 3, none⟩ (.string (pickS toLangsY S.l)) = W3 at *
  clear hWW hd hsc HL hrow hI5 c5 a5 f5 hI2
  go_upto_region 10 with fail
  have hs := hI3.alloc (.cells #[.string ⟨#[]⟩, .string ⟨#[]⟩, .string ⟨#[108, 97, 116, 110]⟩] 9)
  have hrow : RowP (W3.alloc (.cells #[.string ⟨#[]⟩, .string ⟨#[]⟩, .string ⟨#[108, 97, 116, 110]⟩] 9)) (.slice (some ⟨W3.heap.size, 0, none⟩) 3 3) lat3Y := RowP.of_block lat3Y _ _ rfl (World.alloc_heap_new W3 _)
  obtain ⟨s0, s1, s2, s3, s4, s5, s6⟩ := seed_cell hs
  obtain ⟨⟨ca0, ca1, ca2, ca3, ca4, ca5⟩, fa0, fa1, fa2, fa3, fa4, fa5⟩ := al_cells hs.a
  go_upto_region 11 with (go_at_call 20; (with_reducible refine (pickY_ref _ lat3Y _ _ hrow (by decide) (by decide)).mono ?_); rintro e w6 ⟨rfl, rfl⟩)
  have hI4 : MdI w S ⟨1, numT m, ⟨#[]⟩, pickS toLangsY S.l, pickS lat3Y S.s, ⟨#[]⟩⟩ _ := hs.set 4 (.string (pickS lat3Y S.s)) rfl
  generalize hWW : (W3.alloc (.cells #[.string ⟨#[]⟩, .string ⟨#[]⟩, .string ⟨#[108, 97, 116, 110]⟩] 9)).setCell ⟨w.heap.size + 1 + 1, 4, none⟩ (.string (pickS lat3Y S.s)) = W4 at *
  clear hWW hs hrow s0 s1 s2 s3 s4 s5 s6 ca0 ca1 ca2 ca3 ca4 ca5 fa0 fa1 fa2 fa3 fa4 fa5 hI3
  have hs := hI4.alloc (.cells #[.string ⟨#[]⟩, .string ⟨#[]⟩, .string ⟨#[117, 115]⟩] 9)
  have hrow : RowP (W4.alloc (.cells #[.string ⟨#[]⟩, .string ⟨#[]⟩, .string ⟨#[117, 115]⟩] 9)) (.slice (some ⟨W4.heap.size, 0, none⟩) 3 3) us3Y := RowP.of_block us3Y _ _ rfl (World.alloc_heap_new W4 _)
  obtain ⟨s0, s1, s2, s3, s4, s5, s6⟩ := seed_cell hs
  obtain ⟨⟨ca0, ca1, ca2, ca3, ca4, ca5⟩, fa0, fa1, fa2, fa3, fa4, fa5⟩ := al_cells hs.a
  go_upto_region 30 with (go_at_call 20; (with_reducible refine (pickY_ref _ us3Y _ _ hrow (by decide) (by decide)).mono ?_); rintro e w6 ⟨rfl, rfl⟩)
  have hI5 : MdI w S ⟨1, numT m, ⟨#[]⟩, pickS toLangsY S.l, pickS lat3Y S.s, pickS us3Y S.r⟩ _ := hs.set 5 (.string (pickS us3Y S.r)) rfl
  generalize hWW : (W4.alloc (.cells #[.string ⟨#[]⟩, .string ⟨#[]⟩, .string ⟨#[117, 115]⟩] 9)).setCell ⟨w.heap.size + 1 + 1, 5, none⟩ (.string (pickS us3Y S.r)) = W5 at *
  clear hWW hs hrow s0 s1 s2 s3 s4 s5 s6 ca0 ca1 ca2 ca3 ca4 ca5 fa0 fa1 fa2 fa3 fa4 fa5 hI4
  obtain ⟨s0, s1, s2, s3, s4, s5, s6⟩ := seed_cell hI5
  obtain ⟨⟨ca0, ca1, ca2, ca3, ca4, ca5⟩, -⟩ := al_cells hI5.a
  have hR := hI5.r
  have hlt := hI5.lt
  have HBel := Lib.hid hI5.bel
  have HB := Lib.hid (show baseA S 0 = ⟨1, numT m, ⟨#[]⟩, pickS toLangsY S.l, pickS lat3Y S.s, pickS us3Y S.r⟩ by show (⟨1, numT (pickY 26 S.a), _, _, _, _⟩ : Al) = _; rw [HM.out])
  have HSx := Lib.hid (HSP.out ⟨1, numT m, ⟨#[]⟩, pickS toLangsY S.l, pickS lat3Y S.s, pickS us3Y S.r⟩ W5 (show (2 : Nat) ≤ 1000 by decide) (show (0 : Nat) ≤ 1000 by decide))
  obtain ⟨z, hz⟩ : ∃ z, spoiltA ⟨1, numT m, ⟨#[]⟩, pickS toLangsY S.l, pickS lat3Y S.s, pickS us3Y S.r⟩ od = z := ⟨_, rfl⟩
  rw [hz] at HSx
  have HZ := Lib.hid (show spoiltA (baseA S 0) od = z by rw [HB.out, hz])
  clear hz HB
  have hRR := Lib.hid (fun w' (hb : Below W5.heap.size W5 w') => (hb.block _ (by omega)).trans hR)
  clear HSP hI5 hR hk
  go_wp2_with (go_at_call 49; (with_reducible refine HSx.out.mono ?_); rintro e w6 ⟨rfl, hb6⟩; have hR6 := hRR.out _ hb6; obtain ⟨⟨c0, c1, c2, c3, c4, c5⟩, f0, f1, f2, f3, f4, f5⟩ := al_cells hR6)
  have HS := al_store hR6 (.int .i64 z.k) (.string z.a) (.string z.b) (.string z.l) (.string z.s) (.string z.r)
  refine bodyPost_ret (results_cell_row rfl _ _ (w.heap.size + 1) 54 _ (0, 0) _ rfl HS.1 Try.underlying54 rfl sizeAl) rfl ?_
  exact ⟨by rw [HZ.out], (HBel.out.trans (hb6.mono HBel.out.size)).trans (HS.2 _ (by omega))⟩

set_option maxRecDepth 100000 in
set_option maxHeartbeats 8000000 in
theorem made_1 (S : Sd) (w : World) (hk : pickY 7 S.kind = 1) :
    Calls Try.prog 16 #[.agg #[.int .i64 S.kind, .int .i64 S.a, .int .i64 S.b, .int .i64 S.l, .int .i64 S.s, .int .i64 S.r, .int .i64 S.odd]] w fun e w' => e = .returned (.agg #[.int .i64 (spoiltA (baseA S 1) (pickY 9 S.odd)).k, .string (spoiltA (baseA S 1) (pickY 9 S.odd)).a, .string (spoiltA (baseA S 1) (pickY 9 S.odd)).b, .string (spoiltA (baseA S 1) (pickY 9 S.odd)).l, .string (spoiltA (baseA S 1) (pickY 9 S.odd)).s, .string (spoiltA (baseA S 1) (pickY 9 S.odd)).r]) ∧ Below w.heap.size w w' := by
  obtain ⟨b1, b2, b3, -⟩ : -(7 : Int) < Int.tmod S.kind 7 ∧ Int.tmod S.kind 7 < 7 ∧ Int.tmod (Int.tmod S.kind 7 + 7) 7 = ((pickY 7 S.kind : Nat) : Int) ∧ pickY 7 S.kind < 7 := pickY_facts 7 S.kind (by decide)
  rw [hk] at b3
  obtain ⟨o1, o2, o3, o4⟩ : -(9 : Int) < Int.tmod S.odd 9 ∧ Int.tmod S.odd 9 < 9 ∧ Int.tmod (Int.tmod S.odd 9 + 9) 9 = ((pickY 9 S.odd : Nat) : Int) ∧ pickY 9 S.odd < 9 := pickY_facts 9 S.odd (by decide)
  have HSP := Lib.hid (fun (x : Al) w' (za : x.a.size ≤ 1000) (zb : x.b.size ≤ 1000) => spoilt_any x (pickY 9 S.odd) o4 w' za zb)
  generalize pickY 9 S.odd = od at *
  generalize hr7 : Int.tmod S.kind 7 = r7 at *
  generalize hr9 : Int.tmod S.odd 9 = r9 at *
  obtain ⟨W1, hW1⟩ : ∃ W1, ((w.alloc (.cells #[.int .i64 S.kind, .int .i64 S.a, .int .i64 S.b, .int .i64 S.l, .int .i64 S.s, .int .i64 S.r, .int .i64 S.odd] 57)).alloc (.cells #[.int .i64 0, .string ⟨#[]⟩, .string ⟨#[]⟩, .string ⟨#[]⟩, .string ⟨#[]⟩, .string ⟨#[]⟩] 54)).alloc (.cells #[.int .i64 2, .string ⟨#[]⟩, .string ⟨#[]⟩, .string ⟨#[]⟩, .string ⟨#[]⟩, .string ⟨#[]⟩] 54) = W1 := ⟨_, rfl⟩
  have hI : MdI w S ⟨2, ⟨#[]⟩, ⟨#[]⟩, ⟨#[]⟩, ⟨#[]⟩, ⟨#[]⟩⟩ W1 := by
    rw [← hW1]
    refine ⟨?_, ?_, ?_, (((Below.refl _ w).alloc (Nat.le_refl _) _).alloc (by simp) _).alloc (by simp; omega) _⟩
    · exact (Below.heap_alloc _ _ _ (by simp; omega)).trans ((Below.heap_alloc _ _ _ (by simp)).trans (World.alloc_heap_new w _))
    · exact (Below.heap_alloc _ _ _ (by simp)).trans (heap_alloc2_new w _ _)
    · have := World.alloc_heap_new ((w.alloc (.cells #[.int .i64 S.kind, .int .i64 S.a, .int .i64 S.b, .int .i64 S.l, .int .i64 S.s, .int .i64 S.r, .int .i64 S.odd] 57)).alloc (.cells #[.int .i64 0, .string ⟨#[]⟩, .string ⟨#[]⟩, .string ⟨#[]⟩, .string ⟨#[]⟩, .string ⟨#[]⟩] 54)) (.cells #[.int .i64 2, .string ⟨#[]⟩, .string ⟨#[]⟩, .string ⟨#[]⟩, .string ⟨#[]⟩, .string ⟨#[]⟩] 54)
      simpa using this
  have HW1 := Lib.hid hW1
  clear hW1
  go_enter Try.func16, Try.ntmps16
  go_upto_region 13 with fail
  rw [HW1.out]
  clear HW1 b1 b2 b3 hr7
  have hd := hI.drew
  have hsc : W1.drew.cell? ⟨w.heap.size, 1, none⟩ = some (.int .i64 S.a) := (seed_cell hd).2.1
  have HL := Lib.hid (fun w' (h : MdI w S ⟨2, ⟨#[]⟩, ⟨#[]⟩, ⟨#[]⟩, ⟨#[]⟩, ⟨#[]⟩⟩ w') => (langs_y w').mono (R' := fun e w'' => ∃ u, e = .returned u ∧ RowP w'' u langsY ∧ (MdI w S ⟨2, ⟨#[]⟩, ⟨#[]⟩, ⟨#[]⟩, ⟨#[]⟩, ⟨#[]⟩⟩ w'' ∧ w''.cell? ⟨w.heap.size, 1, none⟩ = some (.int .i64 S.a) ∧ w''.cell? ⟨w.heap.size + 1 + 1, 1, none⟩ = some (.string ⟨#[]⟩) ∧ w''.frozen? ⟨w.heap.size + 1 + 1, 1, none⟩ = false)) fun e w'' ⟨u, p, q, r⟩ => by
    have h2 := h.below r
    obtain ⟨ca, fa⟩ := al_cells h2.a
    exact ⟨u, p, q, h2, (seed_cell h2).2.1, ca.2.1, fa.2.1⟩)
  go_region_held3 (fun w' => w'.cell? ⟨w.heap.size, 1, none⟩ = some (.int .i64 S.a)) (first | assumption | exact (World.cell?_setCell_other _ _ _ _ (by simp)).trans (by assumption))
    (first
    | (go_at_call 44; (with_reducible refine (HL.out _ hd).mono ?_); rintro e w5 ⟨u, rfl, hrow, hI5, c5, a5, f5⟩)
    | (go_at_call 20; (with_reducible refine (pickY_ref _ langsY _ _ hrow (by decide) (by decide)).mono ?_); rintro e w6 ⟨rfl, rfl⟩))
  have hI2 : MdI w S ⟨2, pickS langsY S.a, ⟨#[]⟩, ⟨#[]⟩, ⟨#[]⟩, ⟨#[]⟩⟩ _ := hI5.set 1 (.string (pickS langsY S.a)) rfl
  generalize hWW : w5.setCell ⟨w.heap.size + 1 + 1, 1, none⟩ (.string (pickS langsY S.a)) = W2 at *
  clear hWW hd hsc HL hrow hI5 c5 a5 f5 hI
  go_upto_region 14 with fail
  have hs := hI2.alloc (.cells #[.string ⟨#[98, 114]⟩, .string ⟨#[99, 110]⟩, .string ⟨#[117, 115]⟩, .string ⟨#[100, 100]⟩] 9)
  have hrow : RowP (W2.alloc (.cells #[.string ⟨#[98, 114]⟩, .string ⟨#[99, 110]⟩, .string ⟨#[117, 115]⟩, .string ⟨#[100, 100]⟩] 9)) (.slice (some ⟨W2.heap.size, 0, none⟩) 4 4) pairY := RowP.of_block pairY _ _ rfl (World.alloc_heap_new W2 _)
  obtain ⟨s0, s1, s2, s3, s4, s5, s6⟩ := seed_cell hs
  obtain ⟨⟨ca0, ca1, ca2, ca3, ca4, ca5⟩, fa0, fa1, fa2, fa3, fa4, fa5⟩ := al_cells hs.a
  go_upto_region 15 with (go_at_call 20; (with_reducible refine (pickY_ref _ pairY _ _ hrow (by decide) (by decide)).mono ?_); rintro e w6 ⟨rfl, rfl⟩)
  have hI3 : MdI w S ⟨2, pickS langsY S.a, pickS pairY S.b, ⟨#[]⟩, ⟨#[]⟩, ⟨#[]⟩⟩ _ := hs.set 2 (.string (pickS pairY S.b)) rfl
  generalize hWW : (W2.alloc (.cells #[.string ⟨#[98, 114]⟩, .string ⟨#[99, 110]⟩, .string ⟨#[117, 115]⟩, .string ⟨#[100, 100]⟩] 9)).setCell ⟨w.heap.size + 1 + 1, 2, none⟩ (.string (pickS pairY S.b)) = W3 at *
  clear hWW hs hrow s0 s1 s2 s3 s4 s5 s6 ca0 ca1 ca2 ca3 ca4 ca5 fa0 fa1 fa2 fa3 fa4 fa5 hI2
  have hd := hI3.drew
  have hsc : W3.drew.cell? ⟨w.heap.size, 3, none⟩ = some (.int .i64 S.l) := (seed_cell hd).2.2.2.1
  have HL := Lib.hid (fun w' (h : MdI w S ⟨2, pickS langsY S.a, pickS pairY S.b, ⟨#[]⟩, ⟨#[]⟩, ⟨#[]⟩⟩ w') => (toLangs_y w').mono (R' := fun e w'' => ∃ u, e = .returned u ∧ RowP w'' u toLangsY ∧ (MdI w S ⟨2, pickS langsY S.a, pickS pairY S.b, ⟨#[]⟩, ⟨#[]⟩, ⟨#[]⟩⟩ w'' ∧ w''.cell? ⟨w.heap.size, 3, none⟩ = some (.int .i64 S.l) ∧ w''.cell? ⟨w.heap.size + 1 + 1, 3, none⟩ = some (.string ⟨#[]⟩) ∧ w''.frozen? ⟨w.heap.size + 1 + 1, 3, none⟩ = false)) fun e w'' ⟨u, p, q, r⟩ => by
    have h2 := h.below r
    obtain ⟨ca, fa⟩ := al_cells h2.a
    exact ⟨u, p, q, h2, (seed_cell h2).2.2.2.1, ca.2.2.2.1, fa.2.2.2.1⟩)
  go_region_held3 (fun w' => w'.cell? ⟨w.heap.size, 3, none⟩ = some (.int .i64 S.l)) (first | assumption | exact (World.cell?_setCell_other _ _ _ _ (by simp)).trans (by assumption))
    (first
    | (go_at_call 43; (with_reducible refine (HL.out _ hd).mono ?_); rintro e w5 ⟨u, rfl, hrow, hI5, c5, a5, f5⟩)
    | (go_at_call 20; (with_reducible refine (pickY_ref _ toLangsY _ _ hrow (by decide) (by decide)).mono ?_); rintro e w6 ⟨rfl, rfl⟩))
  have hI4 : MdI w S ⟨2, pickS langsY S.a, pickS pairY S.b, pickS toLangsY S.l, ⟨#[]⟩, ⟨#[]⟩⟩ _ := hI5.set 3 (.string (pickS toLangsY S.l)) rfl
  generalize hWW : w5.setCell ⟨w.heap.size + 1 + 1, 3, none⟩ (.string (pickS toLangsY S.l)) = W4 at *
  clear hWW hd hsc HL hrow hI5 c5 a5 f5 hI3
  go_upto_region 30 with fail
  obtain ⟨s0, s1, s2, s3, s4, s5, s6⟩ := seed_cell hI4
  obtain ⟨⟨ca0, ca1, ca2, ca3, ca4, ca5⟩, -⟩ := al_cells hI4.a
  have hR := hI4.r
  have hlt := hI4.lt
  have HBel := Lib.hid hI4.bel
  have HB := Lib.hid (show baseA S 1 = ⟨2, pickS langsY S.a, pickS pairY S.b, pickS toLangsY S.l, ⟨#[]⟩, ⟨#[]⟩⟩ from rfl)
  have HSx := Lib.hid (HSP.out ⟨2, pickS langsY S.a, pickS pairY S.b, pickS toLangsY S.l, ⟨#[]⟩, ⟨#[]⟩⟩ W4 (pickS_size (by decide) (by decide)) (pickS_size (by decide) (by decide)))
  obtain ⟨z, hz⟩ : ∃ z, spoiltA ⟨2, pickS langsY S.a, pickS pairY S.b, pickS toLangsY S.l, ⟨#[]⟩, ⟨#[]⟩⟩ od = z := ⟨_, rfl⟩
  rw [hz] at HSx
  have HZ := Lib.hid (show spoiltA (baseA S 1) od = z by rw [HB.out, hz])
  clear hz HB
  have hRR := Lib.hid (fun w' (hb : Below W4.heap.size W4 w') => (hb.block _ (by omega)).trans hR)
  clear HSP hI4 hR hk
  go_wp2_with (go_at_call 49; (with_reducible refine HSx.out.mono ?_); rintro e w6 ⟨rfl, hb6⟩; have hR6 := hRR.out _ hb6; obtain ⟨⟨c0, c1, c2, c3, c4, c5⟩, f0, f1, f2, f3, f4, f5⟩ := al_cells hR6)
  have HS := al_store hR6 (.int .i64 z.k) (.string z.a) (.string z.b) (.string z.l) (.string z.s) (.string z.r)
  refine bodyPost_ret (results_cell_row rfl _ _ (w.heap.size + 1) 54 _ (0, 0) _ rfl HS.1 Try.underlying54 rfl sizeAl) rfl ?_
  exact ⟨by rw [HZ.out], (HBel.out.trans (hb6.mono HBel.out.size)).trans (HS.2 _ (by omega))⟩

set_option maxRecDepth 100000 in
set_option maxHeartbeats 8000000 in
theorem made_2 (S : Sd) (w : World) (hk : pickY 7 S.kind = 2) :
    Calls Try.prog 16 #[.agg #[.int .i64 S.kind, .int .i64 S.a, .int .i64 S.b, .int .i64 S.l, .int .i64 S.s, .int .i64 S.r, .int .i64 S.odd]] w fun e w' => e = .returned (.agg #[.int .i64 (spoiltA (baseA S 2) (pickY 9 S.odd)).k, .string (spoiltA (baseA S 2) (pickY 9 S.odd)).a, .string (spoiltA (baseA S 2) (pickY 9 S.odd)).b, .string (spoiltA (baseA S 2) (pickY 9 S.odd)).l, .string (spoiltA (baseA S 2) (pickY 9 S.odd)).s, .string (spoiltA (baseA S 2) (pickY 9 S.odd)).r]) ∧ Below w.heap.size w w' := by
  obtain ⟨b1, b2, b3, -⟩ : -(7 : Int) < Int.tmod S.kind 7 ∧ Int.tmod S.kind 7 < 7 ∧ Int.tmod (Int.tmod S.kind 7 + 7) 7 = ((pickY 7 S.kind : Nat) : Int) ∧ pickY 7 S.kind < 7 := pickY_facts 7 S.kind (by decide)
  rw [hk] at b3
  obtain ⟨o1, o2, o3, o4⟩ : -(9 : Int) < Int.tmod S.odd 9 ∧ Int.tmod S.odd 9 < 9 ∧ Int.tmod (Int.tmod S.odd 9 + 9) 9 = ((pickY 9 S.odd : Nat) : Int) ∧ pickY 9 S.odd < 9 := pickY_facts 9 S.odd (by decide)
  have HSP := Lib.hid (fun (x : Al) w' (za : x.a.size ≤ 1000) (zb : x.b.size ≤ 1000) => spoilt_any x (pickY 9 S.odd) o4 w' za zb)
  generalize pickY 9 S.odd = od at *
  generalize hr7 : Int.tmod S.kind 7 = r7 at *
  generalize hr9 : Int.tmod S.odd 9 = r9 at *
  obtain ⟨W1, hW1⟩ : ∃ W1, ((w.alloc (.cells #[.int .i64 S.kind, .int .i64 S.a, .int .i64 S.b, .int .i64 S.l, .int .i64 S.s, .int .i64 S.r, .int .i64 S.odd] 57)).alloc (.cells #[.int .i64 0, .string ⟨#[]⟩, .string ⟨#[]⟩, .string ⟨#[]⟩, .string ⟨#[]⟩, .string ⟨#[]⟩] 54)).alloc (.cells #[.int .i64 3, .string ⟨#[]⟩, .string ⟨#[]⟩, .string ⟨#[]⟩, .string ⟨#[]⟩, .string ⟨#[]⟩] 54) = W1 := ⟨_, rfl⟩
  have hI : MdI w S ⟨3, ⟨#[]⟩, ⟨#[]⟩, ⟨#[]⟩, ⟨#[]⟩, ⟨#[]⟩⟩ W1 := by
    rw [← hW1]
    refine ⟨?_, ?_, ?_, (((Below.refl _ w).alloc (Nat.le_refl _) _).alloc (by simp) _).alloc (by simp; omega) _⟩
    · exact (Below.heap_alloc _ _ _ (by simp; omega)).trans ((Below.heap_alloc _ _ _ (by simp)).trans (World.alloc_heap_new w _))
    · exact (Below.heap_alloc _ _ _ (by simp)).trans (heap_alloc2_new w _ _)
    · have := World.alloc_heap_new ((w.alloc (.cells #[.int .i64 S.kind, .int .i64 S.a, .int .i64 S.b, .int .i64 S.l, .int .i64 S.s, .int .i64 S.r, .int .i64 S.odd] 57)).alloc (.cells #[.int .i64 0, .string ⟨#[]⟩, .string ⟨#[]⟩, .string ⟨#[]⟩, .string ⟨#[]⟩, .string ⟨#[]⟩] 54)) (.cells #[.int .i64 3, .string ⟨#[]⟩, .string ⟨#[]⟩, .string ⟨#[]⟩, .string ⟨#[]⟩, .string ⟨#[]⟩] 54)
      simpa using this
  have HW1 := Lib.hid hW1
  clear hW1
  go_enter Try.func16, Try.ntmps16
  go_upto_region 17 with fail
  rw [HW1.out]
  clear HW1 b1 b2 b3 hr7
  have hd := hI.drew
  have hsc : W1.drew.cell? ⟨w.heap.size, 1, none⟩ = some (.int .i64 S.a) := (seed_cell hd).2.1
  have HL := Lib.hid (fun w' (h : MdI w S ⟨3, ⟨#[]⟩, ⟨#[]⟩, ⟨#[]⟩, ⟨#[]⟩, ⟨#[]⟩⟩ w') => (langs_y w').mono (R' := fun e w'' => ∃ u, e = .returned u ∧ RowP w'' u langsY ∧ (MdI w S ⟨3, ⟨#[]⟩, ⟨#[]⟩, ⟨#[]⟩, ⟨#[]⟩, ⟨#[]⟩⟩ w'' ∧ w''.cell? ⟨w.heap.size, 1, none⟩ = some (.int .i64 S.a) ∧ w''.cell? ⟨w.heap.size + 1 + 1, 1, none⟩ = some (.string ⟨#[]⟩) ∧ w''.frozen? ⟨w.heap.size + 1 + 1, 1, none⟩ = false)) fun e w'' ⟨u, p, q, r⟩ => by
    have h2 := h.below r
    obtain ⟨ca, fa⟩ := al_cells h2.a
    exact ⟨u, p, q, h2, (seed_cell h2).2.1, ca.2.1, fa.2.1⟩)
  go_region_held3 (fun w' => w'.cell? ⟨w.heap.size, 1, none⟩ = some (.int .i64 S.a)) (first | assumption | exact (World.cell?_setCell_other _ _ _ _ (by simp)).trans (by assumption))
    (first
    | (go_at_call 44; (with_reducible refine (HL.out _ hd).mono ?_); rintro e w5 ⟨u, rfl, hrow, hI5, c5, a5, f5⟩)
    | (go_at_call 20; (with_reducible refine (pickY_ref _ langsY _ _ hrow (by decide) (by decide)).mono ?_); rintro e w6 ⟨rfl, rfl⟩))
  have hI2 : MdI w S ⟨3, pickS langsY S.a, ⟨#[]⟩, ⟨#[]⟩, ⟨#[]⟩, ⟨#[]⟩⟩ _ := hI5.set 1 (.string (pickS langsY S.a)) rfl
  generalize hWW : w5.setCell ⟨w.heap.size + 1 + 1, 1, none⟩ (.string (pickS langsY S.a)) = W2 at *
  clear hWW hd hsc HL hrow hI5 c5 a5 f5 hI
  go_upto_region 18 with fail
  have hd := hI2.drew
  have hsc : W2.drew.cell? ⟨w.heap.size, 3, none⟩ = some (.int .i64 S.l) := (seed_cell hd).2.2.2.1
  have HL := Lib.hid (fun w' (h : MdI w S ⟨3, pickS langsY S.a, ⟨#[]⟩, ⟨#[]⟩, ⟨#[]⟩, ⟨#[]⟩⟩ w') => (toLangs_y w').mono (R' := fun e w'' => ∃ u, e = .returned u ∧ RowP w'' u toLangsY ∧ (MdI w S ⟨3, pickS langsY S.a, ⟨#[]⟩, ⟨#[]⟩, ⟨#[]⟩, ⟨#[]⟩⟩ w'' ∧ w''.cell? ⟨w.heap.size, 3, none⟩ = some (.int .i64 S.l) ∧ w''.cell? ⟨w.heap.size + 1 + 1, 3, none⟩ = some (.string ⟨#[]⟩) ∧ w''.frozen? ⟨w.heap.size + 1 + 1, 3, none⟩ = false)) fun e w'' ⟨u, p, q, r⟩ => by
    have h2 := h.below r
    obtain ⟨ca, fa⟩ := al_cells h2.a
    exact ⟨u, p, q, h2, (seed_cell h2).2.2.2.1, ca.2.2.2.1, fa.2.2.2.1⟩)
  go_region_held3 (fun w' => w'.cell? ⟨w.heap.size, 3, none⟩ = some (.int .i64 S.l)) (first | assumption | exact (World.cell?_setCell_other _ _ _ _ (by simp)).trans (by assumption))
    (first
    | (go_at_call 43; (with_reducible refine (HL.out _ hd).mono ?_); rintro e w5 ⟨u, rfl, hrow, hI5, c5, a5, f5⟩)
    | (go_at_call 20; (with_reducible refine (pickY_ref _ toLangsY _ _ hrow (by decide) (by decide)).mono ?_); rintro e w6 ⟨rfl, rfl⟩))
  have hI3 : MdI w S ⟨3, pickS langsY S.a, ⟨#[]⟩, pickS toLangsY S.l, ⟨#[]⟩, ⟨#[]⟩⟩ _ := hI5.set 3 (.string (pickS toLangsY S.l)) rfl
  generalize hWW : w5.setCell ⟨w.heap.size + 1 + 1, 3, none⟩ (.string (pickS toLangsY S.l)) = W3 at *
  clear hWW hd hsc HL hrow hI5 c5 a5 f5 hI2
  go_upto_region 19 with fail
  have hs := hI3.alloc (.cells #[.string ⟨#[]⟩, .string ⟨#[108, 97, 116, 110]⟩] 9)
  have hrow : RowP (W3.alloc (.cells #[.string ⟨#[]⟩, .string ⟨#[108, 97, 116, 110]⟩] 9)) (.slice (some ⟨W3.heap.size, 0, none⟩) 2 2) lat2Y := RowP.of_block lat2Y _ _ rfl (World.alloc_heap_new W3 _)
  obtain ⟨s0, s1, s2, s3, s4, s5, s6⟩ := seed_cell hs
  obtain ⟨⟨ca0, ca1, ca2, ca3, ca4, ca5⟩, fa0, fa1, fa2, fa3, fa4, fa5⟩ := al_cells hs.a
  go_upto_region 20 with (go_at_call 20; (with_reducible refine (pickY_ref _ lat2Y _ _ hrow (by decide) (by decide)).mono ?_); rintro e w6 ⟨rfl, rfl⟩)
  have hI4 : MdI w S ⟨3, pickS langsY S.a, ⟨#[]⟩, pickS toLangsY S.l, pickS lat2Y S.s, ⟨#[]⟩⟩ _ := hs.set 4 (.string (pickS lat2Y S.s)) rfl
  generalize hWW : (W3.alloc (.cells #[.string ⟨#[]⟩, .string ⟨#[108, 97, 116, 110]⟩] 9)).setCell ⟨w.heap.size + 1 + 1, 4, none⟩ (.string (pickS lat2Y S.s)) = W4 at *
  clear hWW hs hrow s0 s1 s2 s3 s4 s5 s6 ca0 ca1 ca2 ca3 ca4 ca5 fa0 fa1 fa2 fa3 fa4 fa5 hI3
  have hs := hI4.alloc (.cells #[.string ⟨#[]⟩, .string ⟨#[]⟩, .string ⟨#[117, 115]⟩] 9)
  have hrow : RowP (W4.alloc (.cells #[.string ⟨#[]⟩, .string ⟨#[]⟩, .string ⟨#[117, 115]⟩] 9)) (.slice (some ⟨W4.heap.size, 0, none⟩) 3 3) us3Y := RowP.of_block us3Y _ _ rfl (World.alloc_heap_new W4 _)
  obtain ⟨s0, s1, s2, s3, s4, s5, s6⟩ := seed_cell hs
  obtain ⟨⟨ca0, ca1, ca2, ca3, ca4, ca5⟩, fa0, fa1, fa2, fa3, fa4, fa5⟩ := al_cells hs.a
  go_upto_region 30 with (go_at_call 20; (with_reducible refine (pickY_ref _ us3Y _ _ hrow (by decide) (by decide)).mono ?_); rintro e w6 ⟨rfl, rfl⟩)
  have hI5 : MdI w S ⟨3, pickS langsY S.a, ⟨#[]⟩, pickS toLangsY S.l, pickS lat2Y S.s, pickS us3Y S.r⟩ _ := hs.set 5 (.string (pickS us3Y S.r)) rfl
  generalize hWW : (W4.alloc (.cells #[.string ⟨#[]⟩, .string ⟨#[]⟩, .string ⟨#[117, 115]⟩] 9)).setCell ⟨w.heap.size + 1 + 1, 5, none⟩ (.string (pickS us3Y S.r)) = W5 at *
  clear hWW hs hrow s0 s1 s2 s3 s4 s5 s6 ca0 ca1 ca2 ca3 ca4 ca5 fa0 fa1 fa2 fa3 fa4 fa5 hI4
  obtain ⟨s0, s1, s2, s3, s4, s5, s6⟩ := seed_cell hI5
  obtain ⟨⟨ca0, ca1, ca2, ca3, ca4, ca5⟩, -⟩ := al_cells hI5.a
  have hR := hI5.r
  have hlt := hI5.lt
  have HBel := Lib.hid hI5.bel
  have HB := Lib.hid (show baseA S 2 = ⟨3, pickS langsY S.a, ⟨#[]⟩, pickS toLangsY S.l, pickS lat2Y S.s, pickS us3Y S.r⟩ from rfl)
  have HSx := Lib.hid (HSP.out ⟨3, pickS langsY S.a, ⟨#[]⟩, pickS toLangsY S.l, pickS lat2Y S.s, pickS us3Y S.r⟩ W5 (pickS_size (by decide) (by decide)) (show (0 : Nat) ≤ 1000 by decide))
  obtain ⟨z, hz⟩ : ∃ z, spoiltA ⟨3, pickS langsY S.a, ⟨#[]⟩, pickS toLangsY S.l, pickS lat2Y S.s, pickS us3Y S.r⟩ od = z := ⟨_, rfl⟩
  rw [hz] at HSx
  have HZ := Lib.hid (show spoiltA (baseA S 2) od = z by rw [HB.out, hz])
  clear hz HB
  have hRR := Lib.hid (fun w' (hb : Below W5.heap.size W5 w') => (hb.block _ (by omega)).trans hR)
  clear HSP hI5 hR hk
  go_wp2_with (go_at_call 49; (with_reducible refine HSx.out.mono ?_); rintro e w6 ⟨rfl, hb6⟩; have hR6 := hRR.out _ hb6; obtain ⟨⟨c0, c1, c2, c3, c4, c5⟩, f0, f1, f2, f3, f4, f5⟩ := al_cells hR6)
  have HS := al_store hR6 (.int .i64 z.k) (.string z.a) (.string z.b) (.string z.l) (.string z.s) (.string z.r)
  refine bodyPost_ret (results_cell_row rfl _ _ (w.heap.size + 1) 54 _ (0, 0) _ rfl HS.1 Try.underlying54 rfl sizeAl) rfl ?_
  exact ⟨by rw [HZ.out], (HBel.out.trans (hb6.mono HBel.out.size)).trans (HS.2 _ (by omega))⟩

set_option maxRecDepth 100000 in
set_option maxHeartbeats 8000000 in
theorem made_3 (S : Sd) (w : World) (hk : pickY 7 S.kind = 3) :
    Calls Try.prog 16 #[.agg #[.int .i64 S.kind, .int .i64 S.a, .int .i64 S.b, .int .i64 S.l, .int .i64 S.s, .int .i64 S.r, .int .i64 S.odd]] w fun e w' => e = .returned (.agg #[.int .i64 (spoiltA (baseA S 3) (pickY 9 S.odd)).k, .string (spoiltA (baseA S 3) (pickY 9 S.odd)).a, .string (spoiltA (baseA S 3) (pickY 9 S.odd)).b, .string (spoiltA (baseA S 3) (pickY 9 S.odd)).l, .string (spoiltA (baseA S 3) (pickY 9 S.odd)).s, .string (spoiltA (baseA S 3) (pickY 9 S.odd)).r]) ∧ Below w.heap.size w w' := by
  obtain ⟨b1, b2, b3, -⟩ : -(7 : Int) < Int.tmod S.kind 7 ∧ Int.tmod S.kind 7 < 7 ∧ Int.tmod (Int.tmod S.kind 7 + 7) 7 = ((pickY 7 S.kind : Nat) : Int) ∧ pickY 7 S.kind < 7 := pickY_facts 7 S.kind (by decide)
  rw [hk] at b3
  obtain ⟨o1, o2, o3, o4⟩ : -(9 : Int) < Int.tmod S.odd 9 ∧ Int.tmod S.odd 9 < 9 ∧ Int.tmod (Int.tmod S.odd 9 + 9) 9 = ((pickY 9 S.odd : Nat) : Int) ∧ pickY 9 S.odd < 9 := pickY_facts 9 S.odd (by decide)
  have HSP := Lib.hid (fun (x : Al) w' (za : x.a.size ≤ 1000) (zb : x.b.size ≤ 1000) => spoilt_any x (pickY 9 S.odd) o4 w' za zb)
  generalize pickY 9 S.odd = od at *
  generalize hr7 : Int.tmod S.kind 7 = r7 at *
  generalize hr9 : Int.tmod S.odd 9 = r9 at *
  obtain ⟨W1, hW1⟩ : ∃ W1, ((w.alloc (.cells #[.int .i64 S.kind, .int .i64 S.a, .int .i64 S.b, .int .i64 S.l, .int .i64 S.s, .int .i64 S.r, .int .i64 S.odd] 57)).alloc (.cells #[.int .i64 0, .string ⟨#[]⟩, .string ⟨#[]⟩, .string ⟨#[]⟩, .string ⟨#[]⟩, .string ⟨#[]⟩] 54)).alloc (.cells #[.int .i64 4, .string ⟨#[]⟩, .string ⟨#[]⟩, .string ⟨#[]⟩, .string ⟨#[]⟩, .string ⟨#[]⟩] 54) = W1 := ⟨_, rfl⟩
  have hI : MdI w S ⟨4, ⟨#[]⟩, ⟨#[]⟩, ⟨#[]⟩, ⟨#[]⟩, ⟨#[]⟩⟩ W1 := by
    rw [← hW1]
    refine ⟨?_, ?_, ?_, (((Below.refl _ w).alloc (Nat.le_refl _) _).alloc (by simp) _).alloc (by simp; omega) _⟩
    · exact (Below.heap_alloc _ _ _ (by simp; omega)).trans ((Below.heap_alloc _ _ _ (by simp)).trans (World.alloc_heap_new w _))
    · exact (Below.heap_alloc _ _ _ (by simp)).trans (heap_alloc2_new w _ _)
    · have := World.alloc_heap_new ((w.alloc (.cells #[.int .i64 S.kind, .int .i64 S.a, .int .i64 S.b, .int .i64 S.l, .int .i64 S.s, .int .i64 S.r, .int .i64 S.odd] 57)).alloc (.cells #[.int .i64 0, .string ⟨#[]⟩, .string ⟨#[]⟩, .string ⟨#[]⟩, .string ⟨#[]⟩, .string ⟨#[]⟩] 54)) (.cells #[.int .i64 4, .string ⟨#[]⟩, .string ⟨#[]⟩, .string ⟨#[]⟩, .string ⟨#[]⟩, .string ⟨#[]⟩] 54)
      simpa using this
  have HW1 := Lib.hid hW1
  clear hW1
  go_enter Try.func16, Try.ntmps16
  go_upto_region 22 with fail
  rw [HW1.out]
  clear HW1 b1 b2 b3 hr7
  have hd := hI.drew
  have hsc : W1.drew.cell? ⟨w.heap.size, 1, none⟩ = some (.int .i64 S.a) := (seed_cell hd).2.1
  have HL := Lib.hid (fun w' (h : MdI w S ⟨4, ⟨#[]⟩, ⟨#[]⟩, ⟨#[]⟩, ⟨#[]⟩, ⟨#[]⟩⟩ w') => (scripts_y w').mono (R' := fun e w'' => ∃ u, e = .returned u ∧ RowP w'' u scriptsY ∧ (MdI w S ⟨4, ⟨#[]⟩, ⟨#[]⟩, ⟨#[]⟩, ⟨#[]⟩, ⟨#[]⟩⟩ w'' ∧ w''.cell? ⟨w.heap.size, 1, none⟩ = some (.int .i64 S.a) ∧ w''.cell? ⟨w.heap.size + 1 + 1, 1, none⟩ = some (.string ⟨#[]⟩) ∧ w''.frozen? ⟨w.heap.size + 1 + 1, 1, none⟩ = false)) fun e w'' ⟨u, p, q, r⟩ => by
    have h2 := h.below r
    obtain ⟨ca, fa⟩ := al_cells h2.a
    exact ⟨u, p, q, h2, (seed_cell h2).2.1, ca.2.1, fa.2.1⟩)
  go_region_held3 (fun w' => w'.cell? ⟨w.heap.size, 1, none⟩ = some (.int .i64 S.a)) (first | assumption | exact (World.cell?_setCell_other _ _ _ _ (by simp)).trans (by assumption))
    (first
    | (go_at_call 45; (with_reducible refine (HL.out _ hd).mono ?_); rintro e w5 ⟨u, rfl, hrow, hI5, c5, a5, f5⟩)
    | (go_at_call 20; (with_reducible refine (pickY_ref _ scriptsY _ _ hrow (by decide) (by decide)).mono ?_); rintro e w6 ⟨rfl, rfl⟩))
  have hI2 : MdI w S ⟨4, pickS scriptsY S.a, ⟨#[]⟩, ⟨#[]⟩, ⟨#[]⟩, ⟨#[]⟩⟩ _ := hI5.set 1 (.string (pickS scriptsY S.a)) rfl
  generalize hWW : w5.setCell ⟨w.heap.size + 1 + 1, 1, none⟩ (.string (pickS scriptsY S.a)) = W2 at *
  clear hWW hd hsc HL hrow hI5 c5 a5 f5 hI
  go_upto_region 23 with fail
  have hd := hI2.drew
  have hsc : W2.drew.cell? ⟨w.heap.size, 4, none⟩ = some (.int .i64 S.s) := (seed_cell hd).2.2.2.2.1
  have HL := Lib.hid (fun w' (h : MdI w S ⟨4, pickS scriptsY S.a, ⟨#[]⟩, ⟨#[]⟩, ⟨#[]⟩, ⟨#[]⟩⟩ w') => (toScripts_y w').mono (R' := fun e w'' => ∃ u, e = .returned u ∧ RowP w'' u toScriptsY ∧ (MdI w S ⟨4, pickS scriptsY S.a, ⟨#[]⟩, ⟨#[]⟩, ⟨#[]⟩, ⟨#[]⟩⟩ w'' ∧ w''.cell? ⟨w.heap.size, 4, none⟩ = some (.int .i64 S.s) ∧ w''.cell? ⟨w.heap.size + 1 + 1, 4, none⟩ = some (.string ⟨#[]⟩) ∧ w''.frozen? ⟨w.heap.size + 1 + 1, 4, none⟩ = false)) fun e w'' ⟨u, p, q, r⟩ => by
    have h2 := h.below r
    obtain ⟨ca, fa⟩ := al_cells h2.a
    exact ⟨u, p, q, h2, (seed_cell h2).2.2.2.2.1, ca.2.2.2.2.1, fa.2.2.2.2.1⟩)
  go_region_held3 (fun w' => w'.cell? ⟨w.heap.size, 4, none⟩ = some (.int .i64 S.s)) (first | assumption | exact (World.cell?_setCell_other _ _ _ _ (by simp)).trans (by assumption))
    (first
    | (go_at_call 46; (with_reducible refine (HL.out _ hd).mono ?_); rintro e w5 ⟨u, rfl, hrow, hI5, c5, a5, f5⟩)
    | (go_at_call 20; (with_reducible refine (pickY_ref _ toScriptsY _ _ hrow (by decide) (by decide)).mono ?_); rintro e w6 ⟨rfl, rfl⟩))
  have hI3 : MdI w S ⟨4, pickS scriptsY S.a, ⟨#[]⟩, ⟨#[]⟩, pickS toScriptsY S.s, ⟨#[]⟩⟩ _ := hI5.set 4 (.string (pickS toScriptsY S.s)) rfl
  generalize hWW : w5.setCell ⟨w.heap.size + 1 + 1, 4, none⟩ (.string (pickS toScriptsY S.s)) = W3 at *
  clear hWW hd hsc HL hrow hI5 c5 a5 f5 hI2
  go_upto_region 30 with fail
  obtain ⟨s0, s1, s2, s3, s4, s5, s6⟩ := seed_cell hI3
  obtain ⟨⟨ca0, ca1, ca2, ca3, ca4, ca5⟩, -⟩ := al_cells hI3.a
  have hR := hI3.r
  have hlt := hI3.lt
  have HBel := Lib.hid hI3.bel
  have HB := Lib.hid (show baseA S 3 = ⟨4, pickS scriptsY S.a, ⟨#[]⟩, ⟨#[]⟩, pickS toScriptsY S.s, ⟨#[]⟩⟩ from rfl)
  have HSx := Lib.hid (HSP.out ⟨4, pickS scriptsY S.a, ⟨#[]⟩, ⟨#[]⟩, pickS toScriptsY S.s, ⟨#[]⟩⟩ W3 (pickS_size (by decide) (by decide)) (show (0 : Nat) ≤ 1000 by decide))
  obtain ⟨z, hz⟩ : ∃ z, spoiltA ⟨4, pickS scriptsY S.a, ⟨#[]⟩, ⟨#[]⟩, pickS toScriptsY S.s, ⟨#[]⟩⟩ od = z := ⟨_, rfl⟩
  rw [hz] at HSx
  have HZ := Lib.hid (show spoiltA (baseA S 3) od = z by rw [HB.out, hz])
  clear hz HB
  have hRR := Lib.hid (fun w' (hb : Below W3.heap.size W3 w') => (hb.block _ (by omega)).trans hR)
  clear HSP hI3 hR hk
  go_wp2_with (go_at_call 49; (with_reducible refine HSx.out.mono ?_); rintro e w6 ⟨rfl, hb6⟩; have hR6 := hRR.out _ hb6; obtain ⟨⟨c0, c1, c2, c3, c4, c5⟩, f0, f1, f2, f3, f4, f5⟩ := al_cells hR6)
  have HS := al_store hR6 (.int .i64 z.k) (.string z.a) (.string z.b) (.string z.l) (.string z.s) (.string z.r)
  refine bodyPost_ret (results_cell_row rfl _ _ (w.heap.size + 1) 54 _ (0, 0) _ rfl HS.1 Try.underlying54 rfl sizeAl) rfl ?_
  exact ⟨by rw [HZ.out], (HBel.out.trans (hb6.mono HBel.out.size)).trans (HS.2 _ (by omega))⟩

set_option maxRecDepth 100000 in
set_option maxHeartbeats 8000000 in
theorem made_4 (S : Sd) (w : World) (hk : pickY 7 S.kind = 4) :
    Calls Try.prog 16 #[.agg #[.int .i64 S.kind, .int .i64 S.a, .int .i64 S.b, .int .i64 S.l, .int .i64 S.s, .int .i64 S.r, .int .i64 S.odd]] w fun e w' => e = .returned (.agg #[.int .i64 (spoiltA (baseA S 4) (pickY 9 S.odd)).k, .string (spoiltA (baseA S 4) (pickY 9 S.odd)).a, .string (spoiltA (baseA S 4) (pickY 9 S.odd)).b, .string (spoiltA (baseA S 4) (pickY 9 S.odd)).l, .string (spoiltA (baseA S 4) (pickY 9 S.odd)).s, .string (spoiltA (baseA S 4) (pickY 9 S.odd)).r]) ∧ Below w.heap.size w w' := by
  obtain ⟨b1, b2, b3, -⟩ : -(7 : Int) < Int.tmod S.kind 7 ∧ Int.tmod S.kind 7 < 7 ∧ Int.tmod (Int.tmod S.kind 7 + 7) 7 = ((pickY 7 S.kind : Nat) : Int) ∧ pickY 7 S.kind < 7 := pickY_facts 7 S.kind (by decide)
  rw [hk] at b3
  obtain ⟨o1, o2, o3, o4⟩ : -(9 : Int) < Int.tmod S.odd 9 ∧ Int.tmod S.odd 9 < 9 ∧ Int.tmod (Int.tmod S.odd 9 + 9) 9 = ((pickY 9 S.odd : Nat) : Int) ∧ pickY 9 S.odd < 9 := pickY_facts 9 S.odd (by decide)
  have HSP := Lib.hid (fun (x : Al) w' (za : x.a.size ≤ 1000) (zb : x.b.size ≤ 1000) => spoilt_any x (pickY 9 S.odd) o4 w' za zb)
  generalize pickY 9 S.odd = od at *
  generalize hr7 : Int.tmod S.kind 7 = r7 at *
  generalize hr9 : Int.tmod S.odd 9 = r9 at *
  obtain ⟨W1, hW1⟩ : ∃ W1, ((w.alloc (.cells #[.int .i64 S.kind, .int .i64 S.a, .int .i64 S.b, .int .i64 S.l, .int .i64 S.s, .int .i64 S.r, .int .i64 S.odd] 57)).alloc (.cells #[.int .i64 0, .string ⟨#[]⟩, .string ⟨#[]⟩, .string ⟨#[]⟩, .string ⟨#[]⟩, .string ⟨#[]⟩] 54)).alloc (.cells #[.int .i64 5, .string ⟨#[]⟩, .string ⟨#[]⟩, .string ⟨#[]⟩, .string ⟨#[]⟩, .string ⟨#[]⟩] 54) = W1 := ⟨_, rfl⟩
  have hI : MdI w S ⟨5, ⟨#[]⟩, ⟨#[]⟩, ⟨#[]⟩, ⟨#[]⟩, ⟨#[]⟩⟩ W1 := by
    rw [← hW1]
    refine ⟨?_, ?_, ?_, (((Below.refl _ w).alloc (Nat.le_refl _) _).alloc (by simp) _).alloc (by simp; omega) _⟩
    · exact (Below.heap_alloc _ _ _ (by simp; omega)).trans ((Below.heap_alloc _ _ _ (by simp)).trans (World.alloc_heap_new w _))
    · exact (Below.heap_alloc _ _ _ (by simp)).trans (heap_alloc2_new w _ _)
    · have := World.alloc_heap_new ((w.alloc (.cells #[.int .i64 S.kind, .int .i64 S.a, .int .i64 S.b, .int .i64 S.l, .int .i64 S.s, .int .i64 S.r, .int .i64 S.odd] 57)).alloc (.cells #[.int .i64 0, .string ⟨#[]⟩, .string ⟨#[]⟩, .string ⟨#[]⟩, .string ⟨#[]⟩, .string ⟨#[]⟩] 54)) (.cells #[.int .i64 5, .string ⟨#[]⟩, .string ⟨#[]⟩, .string ⟨#[]⟩, .string ⟨#[]⟩, .string ⟨#[]⟩] 54)
      simpa using this
  have HW1 := Lib.hid hW1
  clear hW1
  go_enter Try.func16, Try.ntmps16
  go_upto_region 25 with fail
  rw [HW1.out]
  clear HW1 b1 b2 b3 hr7
  have hd := hI.drew
  have hsc : W1.drew.cell? ⟨w.heap.size, 1, none⟩ = some (.int .i64 S.a) := (seed_cell hd).2.1
  have HL := Lib.hid (fun w' (h : MdI w S ⟨5, ⟨#[]⟩, ⟨#[]⟩, ⟨#[]⟩, ⟨#[]⟩, ⟨#[]⟩⟩ w') => (regions_y w').mono (R' := fun e w'' => ∃ u, e = .returned u ∧ RowP w'' u regionsY ∧ (MdI w S ⟨5, ⟨#[]⟩, ⟨#[]⟩, ⟨#[]⟩, ⟨#[]⟩, ⟨#[]⟩⟩ w'' ∧ w''.cell? ⟨w.heap.size, 1, none⟩ = some (.int .i64 S.a) ∧ w''.cell? ⟨w.heap.size + 1 + 1, 1, none⟩ = some (.string ⟨#[]⟩) ∧ w''.frozen? ⟨w.heap.size + 1 + 1, 1, none⟩ = false)) fun e w'' ⟨u, p, q, r⟩ => by
    have h2 := h.below r
    obtain ⟨ca, fa⟩ := al_cells h2.a
    exact ⟨u, p, q, h2, (seed_cell h2).2.1, ca.2.1, fa.2.1⟩)
  go_region_held3 (fun w' => w'.cell? ⟨w.heap.size, 1, none⟩ = some (.int .i64 S.a)) (first | assumption | exact (World.cell?_setCell_other _ _ _ _ (by simp)).trans (by assumption))
    (first
    | (go_at_call 47; (with_reducible refine (HL.out _ hd).mono ?_); rintro e w5 ⟨u, rfl, hrow, hI5, c5, a5, f5⟩)
    | (go_at_call 20; (with_reducible refine (pickY_ref _ regionsY _ _ hrow (by decide) (by decide)).mono ?_); rintro e w6 ⟨rfl, rfl⟩))
  have hI2 : MdI w S ⟨5, pickS regionsY S.a, ⟨#[]⟩, ⟨#[]⟩, ⟨#[]⟩, ⟨#[]⟩⟩ _ := hI5.set 1 (.string (pickS regionsY S.a)) rfl
  generalize hWW : w5.setCell ⟨w.heap.size + 1 + 1, 1, none⟩ (.string (pickS regionsY S.a)) = W2 at *
  clear hWW hd hsc HL hrow hI5 c5 a5 f5 hI
  go_upto_region 26 with fail
  have hd := hI2.drew
  have hsc : W2.drew.cell? ⟨w.heap.size, 5, none⟩ = some (.int .i64 S.r) := (seed_cell hd).2.2.2.2.2.1
  have HL := Lib.hid (fun w' (h : MdI w S ⟨5, pickS regionsY S.a, ⟨#[]⟩, ⟨#[]⟩, ⟨#[]⟩, ⟨#[]⟩⟩ w') => (toRegions_y w').mono (R' := fun e w'' => ∃ u, e = .returned u ∧ RowP w'' u toRegionsY ∧ (MdI w S ⟨5, pickS regionsY S.a, ⟨#[]⟩, ⟨#[]⟩, ⟨#[]⟩, ⟨#[]⟩⟩ w'' ∧ w''.cell? ⟨w.heap.size, 5, none⟩ = some (.int .i64 S.r) ∧ w''.cell? ⟨w.heap.size + 1 + 1, 5, none⟩ = some (.string ⟨#[]⟩) ∧ w''.frozen? ⟨w.heap.size + 1 + 1, 5, none⟩ = false)) fun e w'' ⟨u, p, q, r⟩ => by
    have h2 := h.below r
    obtain ⟨ca, fa⟩ := al_cells h2.a
    exact ⟨u, p, q, h2, (seed_cell h2).2.2.2.2.2.1, ca.2.2.2.2.2, fa.2.2.2.2.2⟩)
  go_region_held3 (fun w' => w'.cell? ⟨w.heap.size, 5, none⟩ = some (.int .i64 S.r)) (first | assumption | exact (World.cell?_setCell_other _ _ _ _ (by simp)).trans (by assumption))
    (first
    | (go_at_call 48; (with_reducible refine (HL.out _ hd).mono ?_); rintro e w5 ⟨u, rfl, hrow, hI5, c5, a5, f5⟩)
    | (go_at_call 20; (with_reducible refine (pickY_ref _ toRegionsY _ _ hrow (by decide) (by decide)).mono ?_); rintro e w6 ⟨rfl, rfl⟩))
  have hI3 : MdI w S ⟨5, pickS regionsY S.a, ⟨#[]⟩, ⟨#[]⟩, ⟨#[]⟩, pickS toRegionsY S.r⟩ _ := hI5.set 5 (.string (pickS toRegionsY S.r)) rfl
  generalize hWW : w5.setCell ⟨w.heap.size + 1 + 1, 5, none⟩ (.string (pickS toRegionsY S.r)) = W3 at *
  clear hWW hd hsc HL hrow hI5 c5 a5 f5 hI2
  go_upto_region 30 with fail
  obtain ⟨s0, s1, s2, s3, s4, s5, s6⟩ := seed_cell hI3
  obtain ⟨⟨ca0, ca1, ca2, ca3, ca4, ca5⟩, -⟩ := al_cells hI3.a
  have hR := hI3.r
  have hlt := hI3.lt
  have HBel := Lib.hid hI3.bel
  have HB := Lib.hid (show baseA S 4 = ⟨5, pickS regionsY S.a, ⟨#[]⟩, ⟨#[]⟩, ⟨#[]⟩, pickS toRegionsY S.r⟩ from rfl)
  have HSx := Lib.hid (HSP.out ⟨5, pickS regionsY S.a, ⟨#[]⟩, ⟨#[]⟩, ⟨#[]⟩, pickS toRegionsY S.r⟩ W3 (pickS_size (by decide) (by decide)) (show (0 : Nat) ≤ 1000 by decide))
  obtain ⟨z, hz⟩ : ∃ z, spoiltA ⟨5, pickS regionsY S.a, ⟨#[]⟩, ⟨#[]⟩, ⟨#[]⟩, pickS toRegionsY S.r⟩ od = z := ⟨_, rfl⟩
  rw [hz] at HSx
  have HZ := Lib.hid (show spoiltA (baseA S 4) od = z by rw [HB.out, hz])
  clear hz HB
  have hRR := Lib.hid (fun w' (hb : Below W3.heap.size W3 w') => (hb.block _ (by omega)).trans hR)
  clear HSP hI3 hR hk
  go_wp2_with (go_at_call 49; (with_reducible refine HSx.out.mono ?_); rintro e w6 ⟨rfl, hb6⟩; have hR6 := hRR.out _ hb6; obtain ⟨⟨c0, c1, c2, c3, c4, c5⟩, f0, f1, f2, f3, f4, f5⟩ := al_cells hR6)
  have HS := al_store hR6 (.int .i64 z.k) (.string z.a) (.string z.b) (.string z.l) (.string z.s) (.string z.r)
  refine bodyPost_ret (results_cell_row rfl _ _ (w.heap.size + 1) 54 _ (0, 0) _ rfl HS.1 Try.underlying54 rfl sizeAl) rfl ?_
  exact ⟨by rw [HZ.out], (HBel.out.trans (hb6.mono HBel.out.size)).trans (HS.2 _ (by omega))⟩

set_option maxRecDepth 100000 in
set_option maxHeartbeats 8000000 in
theorem made_5 (S : Sd) (w : World) (hk : pickY 7 S.kind = 5) :
    Calls Try.prog 16 #[.agg #[.int .i64 S.kind, .int .i64 S.a, .int .i64 S.b, .int .i64 S.l, .int .i64 S.s, .int .i64 S.r, .int .i64 S.odd]] w fun e w' => e = .returned (.agg #[.int .i64 (spoiltA (baseA S 5) (pickY 9 S.odd)).k, .string (spoiltA (baseA S 5) (pickY 9 S.odd)).a, .string (spoiltA (baseA S 5) (pickY 9 S.odd)).b, .string (spoiltA (baseA S 5) (pickY 9 S.odd)).l, .string (spoiltA (baseA S 5) (pickY 9 S.odd)).s, .string (spoiltA (baseA S 5) (pickY 9 S.odd)).r]) ∧ Below w.heap.size w w' := by
  obtain ⟨b1, b2, b3, -⟩ : -(7 : Int) < Int.tmod S.kind 7 ∧ Int.tmod S.kind 7 < 7 ∧ Int.tmod (Int.tmod S.kind 7 + 7) 7 = ((pickY 7 S.kind : Nat) : Int) ∧ pickY 7 S.kind < 7 := pickY_facts 7 S.kind (by decide)
  rw [hk] at b3
  obtain ⟨o1, o2, o3, o4⟩ : -(9 : Int) < Int.tmod S.odd 9 ∧ Int.tmod S.odd 9 < 9 ∧ Int.tmod (Int.tmod S.odd 9 + 9) 9 = ((pickY 9 S.odd : Nat) : Int) ∧ pickY 9 S.odd < 9 := pickY_facts 9 S.odd (by decide)
  have HSP := Lib.hid (fun (x : Al) w' (za : x.a.size ≤ 1000) (zb : x.b.size ≤ 1000) => spoilt_any x (pickY 9 S.odd) o4 w' za zb)
  generalize pickY 9 S.odd = od at *
  generalize hr7 : Int.tmod S.kind 7 = r7 at *
  generalize hr9 : Int.tmod S.odd 9 = r9 at *
  obtain ⟨W1, hW1⟩ : ∃ W1, ((w.alloc (.cells #[.int .i64 S.kind, .int .i64 S.a, .int .i64 S.b, .int .i64 S.l, .int .i64 S.s, .int .i64 S.r, .int .i64 S.odd] 57)).alloc (.cells #[.int .i64 0, .string ⟨#[]⟩, .string ⟨#[]⟩, .string ⟨#[]⟩, .string ⟨#[]⟩, .string ⟨#[]⟩] 54)).alloc (.cells #[.int .i64 6, .string ⟨#[]⟩, .string ⟨#[]⟩, .string ⟨#[]⟩, .string ⟨#[]⟩, .string ⟨#[]⟩] 54) = W1 := ⟨_, rfl⟩
  have hI : MdI w S ⟨6, ⟨#[]⟩, ⟨#[]⟩, ⟨#[]⟩, ⟨#[]⟩, ⟨#[]⟩⟩ W1 := by
    rw [← hW1]
    refine ⟨?_, ?_, ?_, (((Below.refl _ w).alloc (Nat.le_refl _) _).alloc (by simp) _).alloc (by simp; omega) _⟩
    · exact (Below.heap_alloc _ _ _ (by simp; omega)).trans ((Below.heap_alloc _ _ _ (by simp)).trans (World.alloc_heap_new w _))
    · exact (Below.heap_alloc _ _ _ (by simp)).trans (heap_alloc2_new w _ _)
    · have := World.alloc_heap_new ((w.alloc (.cells #[.int .i64 S.kind, .int .i64 S.a, .int .i64 S.b, .int .i64 S.l, .int .i64 S.s, .int .i64 S.r, .int .i64 S.odd] 57)).alloc (.cells #[.int .i64 0, .string ⟨#[]⟩, .string ⟨#[]⟩, .string ⟨#[]⟩, .string ⟨#[]⟩, .string ⟨#[]⟩] 54)) (.cells #[.int .i64 6, .string ⟨#[]⟩, .string ⟨#[]⟩, .string ⟨#[]⟩, .string ⟨#[]⟩, .string ⟨#[]⟩] 54)
      simpa using this
  have HW1 := Lib.hid hW1
  clear hW1
  go_enter Try.func16, Try.ntmps16
  go_upto_region 28 with fail
  rw [HW1.out]
  clear HW1 b1 b2 b3 hr7
  have hs := hI.alloc (.cells #[.string ⟨#[104, 101, 112, 108, 111, 99]⟩, .string ⟨#[97, 114, 101, 118, 101, 108, 97]⟩, .string ⟨#[49, 97, 50, 98]⟩] 9)
  have hrow : RowP (W1.alloc (.cells #[.string ⟨#[104, 101, 112, 108, 111, 99]⟩, .string ⟨#[97, 114, 101, 118, 101, 108, 97]⟩, .string ⟨#[49, 97, 50, 98]⟩] 9)) (.slice (some ⟨W1.heap.size, 0, none⟩) 3 3) varY := RowP.of_block varY _ _ rfl (World.alloc_heap_new W1 _)
  obtain ⟨s0, s1, s2, s3, s4, s5, s6⟩ := seed_cell hs
  obtain ⟨⟨ca0, ca1, ca2, ca3, ca4, ca5⟩, fa0, fa1, fa2, fa3, fa4, fa5⟩ := al_cells hs.a
  go_upto_region 29 with (go_at_call 20; (with_reducible refine (pickY_ref _ varY _ _ hrow (by decide) (by decide)).mono ?_); rintro e w6 ⟨rfl, rfl⟩)
  have hI2 : MdI w S ⟨6, pickS varY S.a, ⟨#[]⟩, ⟨#[]⟩, ⟨#[]⟩, ⟨#[]⟩⟩ _ := hs.set 1 (.string (pickS varY S.a)) rfl
  generalize hWW : (W1.alloc (.cells #[.string ⟨#[104, 101, 112, 108, 111, 99]⟩, .string ⟨#[97, 114, 101, 118, 101, 108, 97]⟩, .string ⟨#[49, 97, 50, 98]⟩] 9)).setCell ⟨w.heap.size + 1 + 1, 1, none⟩ (.string (pickS varY S.a)) = W2 at *
  clear hWW hs hrow s0 s1 s2 s3 s4 s5 s6 ca0 ca1 ca2 ca3 ca4 ca5 fa0 fa1 fa2 fa3 fa4 fa5 hI
  have hs := hI2.alloc (.cells #[.string ⟨#[]⟩, .string ⟨#[97, 108, 97, 108, 99, 57, 55]⟩, .string ⟨#[49, 57, 57, 52]⟩] 9)
  have hrow : RowP (W2.alloc (.cells #[.string ⟨#[]⟩, .string ⟨#[97, 108, 97, 108, 99, 57, 55]⟩, .string ⟨#[49, 57, 57, 52]⟩] 9)) (.slice (some ⟨W2.heap.size, 0, none⟩) 3 3) toVarY := RowP.of_block toVarY _ _ rfl (World.alloc_heap_new W2 _)
  obtain ⟨s0, s1, s2, s3, s4, s5, s6⟩ := seed_cell hs
  obtain ⟨⟨ca0, ca1, ca2, ca3, ca4, ca5⟩, fa0, fa1, fa2, fa3, fa4, fa5⟩ := al_cells hs.a
  go_upto_region 30 with (go_at_call 20; (with_reducible refine (pickY_ref _ toVarY _ _ hrow (by decide) (by decide)).mono ?_); rintro e w6 ⟨rfl, rfl⟩)
  have hI3 : MdI w S ⟨6, pickS varY S.a, ⟨#[]⟩, pickS toVarY S.l, ⟨#[]⟩, ⟨#[]⟩⟩ _ := hs.set 3 (.string (pickS toVarY S.l)) rfl
  generalize hWW : (W2.alloc (.cells #[.string ⟨#[]⟩, .string ⟨#[97, 108, 97, 108, 99, 57, 55]⟩, .string ⟨#[49, 57, 57, 52]⟩] 9)).setCell ⟨w.heap.size + 1 + 1, 3, none⟩ (.string (pickS toVarY S.l)) = W3 at *
  clear hWW hs hrow s0 s1 s2 s3 s4 s5 s6 ca0 ca1 ca2 ca3 ca4 ca5 fa0 fa1 fa2 fa3 fa4 fa5 hI2
  obtain ⟨s0, s1, s2, s3, s4, s5, s6⟩ := seed_cell hI3
  obtain ⟨⟨ca0, ca1, ca2, ca3, ca4, ca5⟩, -⟩ := al_cells hI3.a
  have hR := hI3.r
  have hlt := hI3.lt
  have HBel := Lib.hid hI3.bel
  have HB := Lib.hid (show baseA S 5 = ⟨6, pickS varY S.a, ⟨#[]⟩, pickS toVarY S.l, ⟨#[]⟩, ⟨#[]⟩⟩ from rfl)
  have HSx := Lib.hid (HSP.out ⟨6, pickS varY S.a, ⟨#[]⟩, pickS toVarY S.l, ⟨#[]⟩, ⟨#[]⟩⟩ W3 (pickS_size (by decide) (by decide)) (show (0 : Nat) ≤ 1000 by decide))
  obtain ⟨z, hz⟩ : ∃ z, spoiltA ⟨6, pickS varY S.a, ⟨#[]⟩, pickS toVarY S.l, ⟨#[]⟩, ⟨#[]⟩⟩ od = z := ⟨_, rfl⟩
  rw [hz] at HSx
  have HZ := Lib.hid (show spoiltA (baseA S 5) od = z by rw [HB.out, hz])
  clear hz HB
  have hRR := Lib.hid (fun w' (hb : Below W3.heap.size W3 w') => (hb.block _ (by omega)).trans hR)
  clear HSP hI3 hR hk
  go_wp2_with (go_at_call 49; (with_reducible refine HSx.out.mono ?_); rintro e w6 ⟨rfl, hb6⟩; have hR6 := hRR.out _ hb6; obtain ⟨⟨c0, c1, c2, c3, c4, c5⟩, f0, f1, f2, f3, f4, f5⟩ := al_cells hR6)
  have HS := al_store hR6 (.int .i64 z.k) (.string z.a) (.string z.b) (.string z.l) (.string z.s) (.string z.r)
  refine bodyPost_ret (results_cell_row rfl _ _ (w.heap.size + 1) 54 _ (0, 0) _ rfl HS.1 Try.underlying54 rfl sizeAl) rfl ?_
  exact ⟨by rw [HZ.out], (HBel.out.trans (hb6.mono HBel.out.size)).trans (HS.2 _ (by omega))⟩

set_option maxRecDepth 100000 in
set_option maxHeartbeats 8000000 in
theorem made_6 (S : Sd) (w : World) (hk : pickY 7 S.kind = 6) :
    Calls Try.prog 16 #[.agg #[.int .i64 S.kind, .int .i64 S.a, .int .i64 S.b, .int .i64 S.l, .int .i64 S.s, .int .i64 S.r, .int .i64 S.odd]] w fun e w' => e = .returned (.agg #[.int .i64 (spoiltA (baseA S 6) (pickY 9 S.odd)).k, .string (spoiltA (baseA S 6) (pickY 9 S.odd)).a, .string (spoiltA (baseA S 6) (pickY 9 S.odd)).b, .string (spoiltA (baseA S 6) (pickY 9 S.odd)).l, .string (spoiltA (baseA S 6) (pickY 9 S.odd)).s, .string (spoiltA (baseA S 6) (pickY 9 S.odd)).r]) ∧ Below w.heap.size w w' := by
  obtain ⟨b1, b2, b3, -⟩ : -(7 : Int) < Int.tmod S.kind 7 ∧ Int.tmod S.kind 7 < 7 ∧ Int.tmod (Int.tmod S.kind 7 + 7) 7 = ((pickY 7 S.kind : Nat) : Int) ∧ pickY 7 S.kind < 7 := pickY_facts 7 S.kind (by decide)
  rw [hk] at b3
  obtain ⟨o1, o2, o3, o4⟩ : -(9 : Int) < Int.tmod S.odd 9 ∧ Int.tmod S.odd 9 < 9 ∧ Int.tmod (Int.tmod S.odd 9 + 9) 9 = ((pickY 9 S.odd : Nat) : Int) ∧ pickY 9 S.odd < 9 := pickY_facts 9 S.odd (by decide)
  have HSP := Lib.hid (fun (x : Al) w' (za : x.a.size ≤ 1000) (zb : x.b.size ≤ 1000) => spoilt_any x (pickY 9 S.odd) o4 w' za zb)
  generalize pickY 9 S.odd = od at *
  generalize hr7 : Int.tmod S.kind 7 = r7 at *
  generalize hr9 : Int.tmod S.odd 9 = r9 at *
  obtain ⟨W1, hW1⟩ : ∃ W1, ((w.alloc (.cells #[.int .i64 S.kind, .int .i64 S.a, .int .i64 S.b, .int .i64 S.l, .int .i64 S.s, .int .i64 S.r, .int .i64 S.odd] 57)).alloc (.cells #[.int .i64 0, .string ⟨#[]⟩, .string ⟨#[]⟩, .string ⟨#[]⟩, .string ⟨#[]⟩, .string ⟨#[]⟩] 54)).alloc (.cells #[.int .i64 7, .string ⟨#[]⟩, .string ⟨#[]⟩, .string ⟨#[]⟩, .string ⟨#[]⟩, .string ⟨#[]⟩] 54) = W1 := ⟨_, rfl⟩
  have hI : MdI w S ⟨7, ⟨#[]⟩, ⟨#[]⟩, ⟨#[]⟩, ⟨#[]⟩, ⟨#[]⟩⟩ W1 := by
    rw [← hW1]
    refine ⟨?_, ?_, ?_, (((Below.refl _ w).alloc (Nat.le_refl _) _).alloc (by simp) _).alloc (by simp; omega) _⟩
    · exact (Below.heap_alloc _ _ _ (by simp; omega)).trans ((Below.heap_alloc _ _ _ (by simp)).trans (World.alloc_heap_new w _))
    · exact (Below.heap_alloc _ _ _ (by simp)).trans (heap_alloc2_new w _ _)
    · have := World.alloc_heap_new ((w.alloc (.cells #[.int .i64 S.kind, .int .i64 S.a, .int .i64 S.b, .int .i64 S.l, .int .i64 S.s, .int .i64 S.r, .int .i64 S.odd] 57)).alloc (.cells #[.int .i64 0, .string ⟨#[]⟩, .string ⟨#[]⟩, .string ⟨#[]⟩, .string ⟨#[]⟩, .string ⟨#[]⟩] 54)) (.cells #[.int .i64 7, .string ⟨#[]⟩, .string ⟨#[]⟩, .string ⟨#[]⟩, .string ⟨#[]⟩, .string ⟨#[]⟩] 54)
      simpa using this
  have HW1 := Lib.hid hW1
  clear hW1
  go_enter Try.func16, Try.ntmps16
  go_upto_region 3 with fail
  rw [HW1.out]
  clear HW1 b1 b2 b3 hr7
  have hs := hI.alloc (.cells #[.string ⟨#[99, 97]⟩, .string ⟨#[99, 111]⟩] 9)
  have hrow : RowP (W1.alloc (.cells #[.string ⟨#[99, 97]⟩, .string ⟨#[99, 111]⟩] 9)) (.slice (some ⟨W1.heap.size, 0, none⟩) 2 2) keysY := RowP.of_block keysY _ _ rfl (World.alloc_heap_new W1 _)
  obtain ⟨s0, s1, s2, s3, s4, s5, s6⟩ := seed_cell hs
  obtain ⟨⟨ca0, ca1, ca2, ca3, ca4, ca5⟩, fa0, fa1, fa2, fa3, fa4, fa5⟩ := al_cells hs.a
  go_upto_region 4 with (go_at_call 20; (with_reducible refine (pickY_ref _ keysY _ _ hrow (by decide) (by decide)).mono ?_); rintro e w6 ⟨rfl, rfl⟩)
  have hI2 : MdI w S ⟨7, pickS keysY S.a, ⟨#[]⟩, ⟨#[]⟩, ⟨#[]⟩, ⟨#[]⟩⟩ _ := hs.set 1 (.string (pickS keysY S.a)) rfl
  generalize hWW : (W1.alloc (.cells #[.string ⟨#[99, 97]⟩, .string ⟨#[99, 111]⟩] 9)).setCell ⟨w.heap.size + 1 + 1, 1, none⟩ (.string (pickS keysY S.a)) = W2 at *
  clear hWW hs hrow s0 s1 s2 s3 s4 s5 s6 ca0 ca1 ca2 ca3 ca4 ca5 fa0 fa1 fa2 fa3 fa4 fa5 hI
  have hs := hI2.alloc (.cells #[.string ⟨#[105, 115, 108, 97, 109, 105, 99, 99]⟩, .string ⟨#[97, 98, 49]⟩, .string ⟨#[112, 104, 111, 110, 101, 98, 107]⟩] 9)
  have hrow : RowP (W2.alloc (.cells #[.string ⟨#[105, 115, 108, 97, 109, 105, 99, 99]⟩, .string ⟨#[97, 98, 49]⟩, .string ⟨#[112, 104, 111, 110, 101, 98, 107]⟩] 9)) (.slice (some ⟨W2.heap.size, 0, none⟩) 3 3) typesY := RowP.of_block typesY _ _ rfl (World.alloc_heap_new W2 _)
  obtain ⟨s0, s1, s2, s3, s4, s5, s6⟩ := seed_cell hs
  obtain ⟨⟨ca0, ca1, ca2, ca3, ca4, ca5⟩, fa0, fa1, fa2, fa3, fa4, fa5⟩ := al_cells hs.a
  go_upto_region 5 with (go_at_call 20; (with_reducible refine (pickY_ref _ typesY _ _ hrow (by decide) (by decide)).mono ?_); rintro e w6 ⟨rfl, rfl⟩)
  have hI3 : MdI w S ⟨7, pickS keysY S.a, pickS typesY S.b, ⟨#[]⟩, ⟨#[]⟩, ⟨#[]⟩⟩ _ := hs.set 2 (.string (pickS typesY S.b)) rfl
  generalize hWW : (W2.alloc (.cells #[.string ⟨#[105, 115, 108, 97, 109, 105, 99, 99]⟩, .string ⟨#[97, 98, 49]⟩, .string ⟨#[112, 104, 111, 110, 101, 98, 107]⟩] 9)).setCell ⟨w.heap.size + 1 + 1, 2, none⟩ (.string (pickS typesY S.b)) = W3 at *
  clear hWW hs hrow s0 s1 s2 s3 s4 s5 s6 ca0 ca1 ca2 ca3 ca4 ca5 fa0 fa1 fa2 fa3 fa4 fa5 hI2
  have hs := hI3.alloc (.cells #[.string ⟨#[99, 105, 118, 105, 108]⟩, .string ⟨#[116, 114, 117, 101]⟩, .string ⟨#[115, 116, 97, 110, 100, 97, 114, 100]⟩] 9)
  have hrow : RowP (W3.alloc (.cells #[.string ⟨#[99, 105, 118, 105, 108]⟩, .string ⟨#[116, 114, 117, 101]⟩, .string ⟨#[115, 116, 97, 110, 100, 97, 114, 100]⟩] 9)) (.slice (some ⟨W3.heap.size, 0, none⟩) 3 3) toTypesY := RowP.of_block toTypesY _ _ rfl (World.alloc_heap_new W3 _)
  obtain ⟨s0, s1, s2, s3, s4, s5, s6⟩ := seed_cell hs
  obtain ⟨⟨ca0, ca1, ca2, ca3, ca4, ca5⟩, fa0, fa1, fa2, fa3, fa4, fa5⟩ := al_cells hs.a
  go_upto_region 30 with (go_at_call 20; (with_reducible refine (pickY_ref _ toTypesY _ _ hrow (by decide) (by decide)).mono ?_); rintro e w6 ⟨rfl, rfl⟩)
  have hI4 : MdI w S ⟨7, pickS keysY S.a, pickS typesY S.b, pickS toTypesY S.l, ⟨#[]⟩, ⟨#[]⟩⟩ _ := hs.set 3 (.string (pickS toTypesY S.l)) rfl
  generalize hWW : (W3.alloc (.cells #[.string ⟨#[99, 105, 118, 105, 108]⟩, .string ⟨#[116, 114, 117, 101]⟩, .string ⟨#[115, 116, 97, 110, 100, 97, 114, 100]⟩] 9)).setCell ⟨w.heap.size + 1 + 1, 3, none⟩ (.string (pickS toTypesY S.l)) = W4 at *
  clear hWW hs hrow s0 s1 s2 s3 s4 s5 s6 ca0 ca1 ca2 ca3 ca4 ca5 fa0 fa1 fa2 fa3 fa4 fa5 hI3
  obtain ⟨s0, s1, s2, s3, s4, s5, s6⟩ := seed_cell hI4
  obtain ⟨⟨ca0, ca1, ca2, ca3, ca4, ca5⟩, -⟩ := al_cells hI4.a
  have hR := hI4.r
  have hlt := hI4.lt
  have HBel := Lib.hid hI4.bel
  have HB := Lib.hid (show baseA S 6 = ⟨7, pickS keysY S.a, pickS typesY S.b, pickS toTypesY S.l, ⟨#[]⟩, ⟨#[]⟩⟩ from rfl)
  have HSx := Lib.hid (HSP.out ⟨7, pickS keysY S.a, pickS typesY S.b, pickS toTypesY S.l, ⟨#[]⟩, ⟨#[]⟩⟩ W4 (pickS_size (by decide) (by decide)) (pickS_size (by decide) (by decide)))
  obtain ⟨z, hz⟩ : ∃ z, spoiltA ⟨7, pickS keysY S.a, pickS typesY S.b, pickS toTypesY S.l, ⟨#[]⟩, ⟨#[]⟩⟩ od = z := ⟨_, rfl⟩
  rw [hz] at HSx
  have HZ := Lib.hid (show spoiltA (baseA S 6) od = z by rw [HB.out, hz])
  clear hz HB
  have hRR := Lib.hid (fun w' (hb : Below W4.heap.size W4 w') => (hb.block _ (by omega)).trans hR)
  clear HSP hI4 hR hk
  go_wp2_with (go_at_call 49; (with_reducible refine HSx.out.mono ?_); rintro e w6 ⟨rfl, hb6⟩; have hR6 := hRR.out _ hb6; obtain ⟨⟨c0, c1, c2, c3, c4, c5⟩, f0, f1, f2, f3, f4, f5⟩ := al_cells hR6)
  have HS := al_store hR6 (.int .i64 z.k) (.string z.a) (.string z.b) (.string z.l) (.string z.s) (.string z.r)
  refine bodyPost_ret (results_cell_row rfl _ _ (w.heap.size + 1) 54 _ (0, 0) _ rfl HS.1 Try.underlying54 rfl sizeAl) rfl ?_
  exact ⟨by rw [HZ.out], (HBel.out.trans (hb6.mono HBel.out.size)).trans (HS.2 _ (by omega))⟩
theorem made_any (S : Sd) (w : World) :
    Calls Try.prog 16 #[.agg #[.int .i64 S.kind, .int .i64 S.a, .int .i64 S.b, .int .i64 S.l, .int .i64 S.s, .int .i64 S.r, .int .i64 S.odd]] w fun e w' => e = .returned (.agg #[.int .i64 (madeA S).k, .string (madeA S).a, .string (madeA S).b, .string (madeA S).l, .string (madeA S).s, .string (madeA S).r]) ∧ Below w.heap.size w w' := by
  have h := (pickY_facts 7 S.kind (by decide)).2.2.2
  have h7 : pickY 7 S.kind = 0 ∨ pickY 7 S.kind = 1 ∨ pickY 7 S.kind = 2 ∨ pickY 7 S.kind = 3 ∨ pickY 7 S.kind = 4 ∨ pickY 7 S.kind = 5 ∨ pickY 7 S.kind = 6 := by omega
  rcases h7 with e | e | e | e | e | e | e
  · have := made_0 S w e; unfold madeA; rw [e]; exact this
  · have := made_1 S w e; unfold madeA; rw [e]; exact this
  · have := made_2 S w e; unfold madeA; rw [e]; exact this
  · have := made_3 S w e; unfold madeA; rw [e]; exact this
  · have := made_4 S w e; unfold madeA; rw [e]; exact this
  · have := made_5 S w e; unfold madeA; rw [e]; exact this
  · have := made_6 S w e; unfold madeA; rw [e]; exact this
end Go.Proofs.Ythjfcfhibdpbnaa

/-! How aliases stand: cmp.Compare of texts, cmp.Or, alias.Compare, the document's order and Compare. -/
namespace Go.Proofs.Ythjfcfhibdpbnaa
open Go Go.RowKit

theorem same_boolY (s t : ByteArray) : (s.toList == t.toList) = decide (s = t) := by
  by_cases h : s = t
  · subst h; rw [decide_eq_true rfl]; exact beq_self_eq_true _
  · rw [decide_eq_false h]; exact texts_ne h
theorem less_cmp (a b : ByteArray) : Op.bytesLess a.toList b.toList = decide (cmpL (bs a) (bs b) < 0) := by
  rw [ByteArray.toList_eq, ByteArray.toList_eq]
  show Op.bytesLess (bs a) (bs b) = _
  generalize bs a = l
  generalize bs b = r
  induction l generalizing r with
  | nil =>
    cases r with
    | nil => rfl
    | cons y r => rfl
  | cons x l ih =>
    cases r with
    | nil => rfl
    | cons y r =>
      unfold cmpL
      by_cases h1 : x.toNat < y.toNat
      · rw [if_pos h1]
        have : x < y := h1
        simp [Op.bytesLess, this]
      · rw [if_neg h1]
        have n1 : ¬ x < y := h1
        by_cases h2 : y.toNat < x.toNat
        · rw [if_pos h2]
          have : ¬ x = y := fun e => by subst e; omega
          simp [Op.bytesLess, n1, this]
        · rw [if_neg h2]
          have : x = y := UInt8.toNat_inj.1 (by omega)
          subst this
          have := ih r
          simp [Op.bytesLess, n1, this]
theorem gtr_str (a b : ByteArray) (w : World) : (binOp .gtr 9 (.string a) (.string b)).run Try.prog w = .ok (.bool (!(Op.bytesLess a.toList b.toList || (a.toList == b.toList)))) w := by kernel_rfl
theorem gtr_val (a b : ByteArray) : (!(Op.bytesLess a.toList b.toList || (a.toList == b.toList))) = decide (0 < cmpL (bs a) (bs b)) := by
  rw [less_cmp, same_boolY]
  rcases cmpL_range (bs a) (bs b) with h | h | h
  · rw [h]; rfl
  · have e := ofL_ext (cmpL_zero h)
    rw [h, decide_eq_true e]; rfl
  · have hne : ¬ a = b := fun e => by subst e; rw [cmpL_self] at h; cases h
    rw [h, decide_eq_false hne]; rfl
set_option maxRecDepth 100000 in
set_option maxHeartbeats 1000000 in
theorem order_ref (a b : ByteArray) (w : World) :
    Calls Try.prog 50 #[.string a, .string b] w fun e w' => e = .returned (.int .i64 (cmpL (bs a) (bs b))) ∧ w = w' := by
  have hgt := gtr_str a b w
  have h1 := less_cmp a b
  have h2 := gtr_val a b
  have hcs : ∃ c : Int, cmpL (bs a) (bs b) = c ∧ ((c = -1 ∧ Op.bytesLess a.toList b.toList = true ∧ (binOp .gtr 9 (.string a) (.string b)).run Try.prog w = .ok (.bool false) w) ∨ (c = 0 ∧ Op.bytesLess a.toList b.toList = false ∧ (binOp .gtr 9 (.string a) (.string b)).run Try.prog w = .ok (.bool false) w) ∨ (c = 1 ∧ Op.bytesLess a.toList b.toList = false ∧ (binOp .gtr 9 (.string a) (.string b)).run Try.prog w = .ok (.bool true) w)) := by
    rcases cmpL_range (bs a) (bs b) with h | h | h
    · exact ⟨-1, h, .inl ⟨rfl, by rw [h1, h]; rfl, by rw [hgt, h2, h]; rfl⟩⟩
    · exact ⟨0, h, .inr (.inl ⟨rfl, by rw [h1, h]; rfl, by rw [hgt, h2, h]; rfl⟩)⟩
    · exact ⟨1, h, .inr (.inr ⟨rfl, by rw [h1, h]; rfl, by rw [hgt, h2, h]; rfl⟩)⟩
  clear h1 h2 hgt
  obtain ⟨c, hc, hcs⟩ := hcs
  have HE := Lib.hid hc
  clear hc
  rcases hcs with ⟨rfl, h1, h2⟩ | ⟨rfl, h1, h2⟩ | ⟨rfl, h1, h2⟩
  all_goals
    go_enter Try.func50, Try.ntmps50
    go_wp2
    go_ret
    exact ⟨ret_int HE.out.symm, rfl⟩
def orV (x y z : Int) : Int := if x ≠ 0 then x else if y ≠ 0 then y else z
theorem cells6' {W : World} {B : Nat} {a b c d e f : Value} {t : TypeId} (h : W.heap[B]? = some (.cells #[a, b, c, d, e, f] t (0, 0))) :
    W.cell? ⟨B, 0, none⟩ = some a ∧ W.cell? ⟨B, 1, none⟩ = some b ∧ W.cell? ⟨B, 2, none⟩ = some c := by
  simp [World.cell?, h]
set_option maxRecDepth 100000 in
set_option maxHeartbeats 4000000 in
theorem compare_al_ref (x y : Al) (w : World) :
    Calls Try.prog 17 #[.agg #[.int .i64 x.k, .string x.a, .string x.b, .string x.l, .string x.s, .string x.r], .agg #[.int .i64 y.k, .string y.a, .string y.b, .string y.l, .string y.s, .string y.r]] w fun e w' => e = .returned (.int .i64 (cmpA x y)) ∧ Below w.heap.size w w' := by
  obtain ⟨W1, hW1⟩ : ∃ W1, (w.alloc (.cells #[.int .i64 x.k, .string x.a, .string x.b, .string x.l, .string x.s, .string x.r] 54)).alloc (.cells #[.int .i64 y.k, .string y.a, .string y.b, .string y.l, .string y.s, .string y.r] 54) = W1 := ⟨_, rfl⟩
  have hb1 : Below w.heap.size w W1 := by rw [← hW1]; exact ((Below.refl _ w).alloc (Nat.le_refl _) _).alloc (by simp) _
  have hA : W1.heap[w.heap.size]? = some (.cells #[.int .i64 x.k, .string x.a, .string x.b, .string x.l, .string x.s, .string x.r] 54 (0, 0)) := by rw [← hW1]; exact (Below.heap_alloc _ _ _ (by simp)).trans (World.alloc_heap_new w _)
  have hB : W1.heap[w.heap.size + 1]? = some (.cells #[.int .i64 y.k, .string y.a, .string y.b, .string y.l, .string y.s, .string y.r] 54 (0, 0)) := by rw [← hW1]; exact heap_alloc2_new w _ _
  obtain ⟨a0, a1, a2⟩ := cells6' hA
  obtain ⟨b0, b1, b2⟩ := cells6' hB
  have HT := Lib.hid (fun p q w' => order_ref p q w')
  have HE := Lib.hid (show cmpA x y = if sgnI x.k y.k ≠ 0 then sgnI x.k y.k else if cmpL (bs x.a) (bs y.a) ≠ 0 then cmpL (bs x.a) (bs y.a) else cmpL (bs x.b) (bs y.b) from rfl)
  have HB1 := Lib.hid hb1
  clear hA hB hb1
  have h3 : x.k < y.k ∨ y.k < x.k ∨ x.k = y.k := by omega
  rcases h3 with h | h | h
  · have hs : sgnI x.k y.k = -1 := by unfold sgnI; rw [if_pos h]
    rw [hs, if_pos (by decide)] at HE
    clear hs
    go_enter Try.func17, Try.ntmps17
    go_upto_region 1 with fail
    clear hW1
    go_wp2
    go_ret
    exact ⟨ret_int HE.out.symm, HB1.out⟩
  · have hs : sgnI x.k y.k = 1 := by unfold sgnI; rw [if_neg (by omega), if_pos h]
    have hn : ¬ x.k < y.k := by omega
    rw [hs, if_pos (by decide)] at HE
    clear hs
    go_enter Try.func17, Try.ntmps17
    go_upto_region 1 with fail
    clear hW1
    go_wp2
    go_ret
    exact ⟨ret_int HE.out.symm, HB1.out⟩
  · have hs : sgnI x.k y.k = 0 := by unfold sgnI; rw [if_neg (by omega), if_neg (by omega)]
    have hn : ¬ x.k < y.k := by omega
    have hn2 : ¬ y.k < x.k := by omega
    rw [hs, if_neg (by decide)] at HE
    clear hs h
    by_cases hz : cmpL (bs x.a) (bs y.a) = 0
    · rw [if_neg (by simp [hz])] at HE
      have HTa := Lib.hid (fun w' => (order_ref x.a y.a w').mono (R' := fun e w'' => e = .returned (.int .i64 0) ∧ w' = w'') fun e w'' ⟨p, q⟩ => ⟨by rw [p, hz], q⟩)
      clear hz
      go_enter Try.func17, Try.ntmps17
      go_upto_region 1 with fail
      clear hW1
      go_wp2_with (first
        | (go_at_call 50; (with_reducible refine (HTa.out _).mono ?_); rintro e w5 ⟨rfl, rfl⟩)
        | (go_at_call 50; (with_reducible refine (HT.out _ _ _).mono ?_); rintro e w5 ⟨rfl, rfl⟩))
      go_ret
      exact ⟨ret_int HE.out.symm, HB1.out⟩
    · have hz' : (cmpL (bs x.a) (bs y.a) != 0) = true := by simp [hz]
      rw [if_pos hz] at HE
      clear hz
      go_enter Try.func17, Try.ntmps17
      go_upto_region 1 with fail
      clear hW1
      go_wp2_with (go_at_call 50; (with_reducible refine (HT.out _ _ _).mono ?_); rintro e w5 ⟨rfl, rfl⟩)
      go_ret
      exact ⟨ret_int HE.out.symm, HB1.out⟩
end Go.Proofs.Ythjfcfhibdpbnaa

/-! Layer 12's statements: the chapter's example, rest, short, few; what is made by numbers. -/
namespace Go.Proofs.Ythjfcfhibdpbnaa
open Go Go.RowKit

/-! The chapter's example. -/
/-! few. -/
/-! What is made by numbers. -/
def sml (n : Nat) (x : Al) : Prop := x.a.size ≤ n ∧ x.b.size ≤ n ∧ x.l.size ≤ n ∧ x.s.size ≤ n ∧ x.r.size ≤ n
theorem base_sml (S : Sd) (k : Nat) (hk : k < 7) : sml 20 (baseA S k) ∧ (baseA S k).k = k + 1 := by
  have e0 : (0 : Nat) ≤ 20 := by decide
  have e2 : (numT (pickY 26 S.a)).size ≤ 20 := (show (2 : Nat) ≤ 20 by decide)
  have h7 : k = 0 ∨ k = 1 ∨ k = 2 ∨ k = 3 ∨ k = 4 ∨ k = 5 ∨ k = 6 := by omega
  rcases h7 with rfl | rfl | rfl | rfl | rfl | rfl | rfl
  · exact ⟨⟨e2, e0, pickS_size (by decide) (by decide), pickS_size (by decide) (by decide), pickS_size (by decide) (by decide)⟩, rfl⟩
  · exact ⟨⟨pickS_size (by decide) (by decide), pickS_size (by decide) (by decide), pickS_size (by decide) (by decide), e0, e0⟩, rfl⟩
  · exact ⟨⟨pickS_size (by decide) (by decide), e0, pickS_size (by decide) (by decide), pickS_size (by decide) (by decide), pickS_size (by decide) (by decide)⟩, rfl⟩
  · exact ⟨⟨pickS_size (by decide) (by decide), e0, e0, pickS_size (by decide) (by decide), e0⟩, rfl⟩
  · exact ⟨⟨pickS_size (by decide) (by decide), e0, e0, e0, pickS_size (by decide) (by decide)⟩, rfl⟩
  · exact ⟨⟨pickS_size (by decide) (by decide), e0, pickS_size (by decide) (by decide), e0, e0⟩, rfl⟩
  · exact ⟨⟨pickS_size (by decide) (by decide), pickS_size (by decide) (by decide), pickS_size (by decide) (by decide), e0, e0⟩, rfl⟩
theorem spoilt_sml {x : Al} (h : sml 20 x) (n : Nat) : sml 21 (spoiltA x n) ∧ ((spoiltA x n).k = x.k ∨ (spoiltA x n).k = 8) := by
  obtain ⟨h1, h2, h3, h4, h5⟩ := h
  have e0 : (0 : Nat) ≤ 21 := by decide
  have e9 : (9 : Nat) ≤ 21 := by decide
  unfold spoiltA
  split
  · exact ⟨⟨by show (titleS x.a).size ≤ 21; rw [size_titleS]; omega, by show x.b.size ≤ 21; omega, by show x.l.size ≤ 21; omega, by show x.s.size ≤ 21; omega, by show x.r.size ≤ 21; omega⟩, .inl rfl⟩
  · exact ⟨⟨by show x.a.size ≤ 21; omega, by show (x.b ++ (⟨#[120]⟩ : ByteArray)).size ≤ 21; rw [ByteArray.size_append]; have : (⟨#[120]⟩ : ByteArray).size = 1 := rfl; omega, by show x.l.size ≤ 21; omega, by show x.s.size ≤ 21; omega, by show x.r.size ≤ 21; omega⟩, .inl rfl⟩
  · exact ⟨⟨by show x.a.size ≤ 21; omega, by show x.b.size ≤ 21; omega, e0, e0, e0⟩, .inl rfl⟩
  · exact ⟨⟨by show x.a.size ≤ 21; omega, by show x.b.size ≤ 21; omega, by show x.l.size ≤ 21; omega, by show x.s.size ≤ 21; omega, by show x.r.size ≤ 21; omega⟩, .inr rfl⟩
  · exact ⟨⟨by show x.a.size ≤ 21; omega, by show x.b.size ≤ 21; omega, e9, by show x.s.size ≤ 21; omega, by show x.r.size ≤ 21; omega⟩, .inl rfl⟩
  · exact ⟨⟨by show x.a.size ≤ 21; omega, by show x.b.size ≤ 21; omega, pickS_size (by decide) (by decide), by show x.s.size ≤ 21; omega, by show x.r.size ≤ 21; omega⟩, .inl rfl⟩
  · exact ⟨⟨by omega, by omega, by omega, by omega, by omega⟩, .inl rfl⟩
theorem made_sml (S : Sd) : sml 21 (madeA S) ∧ 1 ≤ (madeA S).k ∧ (madeA S).k ≤ 8 := by
  have hk := (pickY_facts 7 S.kind (by decide)).2.2.2
  obtain ⟨h1, h2⟩ := base_sml S _ hk
  obtain ⟨h3, h4⟩ := spoilt_sml h1 (pickY 9 S.odd)
  refine ⟨h3, ?_⟩
  unfold madeA
  omega
theorem wf_few {k : Int} (h : 0 ≤ k ∧ k ≤ 1000) : (Lit.int .i64 k).wf = true := by
  unfold Lit.wf
  rw [Bool.and_eq_true, decide_eq_true_iff, decide_eq_true_iff]
  have h1 : IntKind.min .i64 = -9223372036854775808 := by decide
  have h2 : IntKind.max .i64 = 9223372036854775807 := by decide
  omega
theorem made_small (S : Sd) : AlS (madeA S) := by
  obtain ⟨⟨h1, h2, h3, h4, h5⟩, h6, h7⟩ := made_sml S
  exact ⟨wf_few ⟨by omega, by omega⟩, by omega, by omega, by omega, by omega, by omega⟩

end Go.Proofs.Ythjfcfhibdpbnaa
