/-
  How aliases stand: cmp.Compare of texts, cmp.Or, alias.Compare, the document's order and Compare.
-/
import Derived.Test.YtmoblofkcfondaaDoorYMath
import Derived.Deep.RegionHeld3
import Derived.Deep.CutRange
namespace Go.Proofs.YtmoblofkcfondaaDoor
open Go Go.RowKit

theorem same_boolY (s t : ByteArray) : (s.toList == t.toList) = decide (s = t) := by
  by_cases h : s = t
  · subst h; rw [decide_eq_true rfl]; exact beq_self_eq_true _
  · rw [decide_eq_false h]; exact texts_ne h
theorem less_cmp (a b : ByteArray) : Op.bytesLess a.toList b.toList = decide (cmpL (bs a) (bs b) < 0) := by
  rw [ByteArray.toList_eq, ByteArray.toList_eq]
  show Op.bytesLess (bs a) (bs b) = _
  generalize bs a = l
  generalize bs b = r
  induction l generalizing r with
  | nil =>
    cases r with
    | nil => rfl
    | cons y r => rfl
  | cons x l ih =>
    cases r with
    | nil => rfl
    | cons y r =>
      unfold cmpL
      by_cases h1 : x.toNat < y.toNat
      · rw [if_pos h1]
        have : x < y := h1
        simp [Op.bytesLess, this]
      · rw [if_neg h1]
        have n1 : ¬ x < y := h1
        by_cases h2 : y.toNat < x.toNat
        · rw [if_pos h2]
          have : ¬ x = y := fun e => by subst e; omega
          simp [Op.bytesLess, n1, this]
        · rw [if_neg h2]
          have : x = y := UInt8.toNat_inj.1 (by omega)
          subst this
          have := ih r
          simp [Op.bytesLess, n1, this]
theorem gtr_str (a b : ByteArray) (w : World) : (binOp .gtr 9 (.string a) (.string b)).run Tryd.prog w = .ok (.bool (!(Op.bytesLess a.toList b.toList || (a.toList == b.toList)))) w := by kernel_rfl
theorem gtr_val (a b : ByteArray) : (!(Op.bytesLess a.toList b.toList || (a.toList == b.toList))) = decide (0 < cmpL (bs a) (bs b)) := by
  rw [less_cmp, same_boolY]
  rcases cmpL_range (bs a) (bs b) with h | h | h
  · rw [h]; rfl
  · have e := ofL_ext (cmpL_zero h)
    rw [h, decide_eq_true e]; rfl
  · have hne : ¬ a = b := fun e => by subst e; rw [cmpL_self] at h; cases h
    rw [h, decide_eq_false hne]; rfl
theorem cellsY_at {W : World} {g : Nat} {cs : Array Value} {t : TypeId} (h : W.heap[g]? = some (.cells cs t (0, 0))) (k : Nat) : W.cell? ⟨g, k, none⟩ = cs[k]? := by
  simp [World.cell?, h]
theorem cells3Y (W : World) (t : TypeId) (p q r : Value) : (W.alloc (.cells #[p, q, r] t)).drew.cell? ⟨W.heap.size, 0, none⟩ = some p ∧ (W.alloc (.cells #[p, q, r] t)).drew.cell? ⟨W.heap.size, 1, none⟩ = some q ∧ (W.alloc (.cells #[p, q, r] t)).drew.cell? ⟨W.heap.size, 2, none⟩ = some r := by
  have h : (W.alloc (.cells #[p, q, r] t)).drew.heap[W.heap.size]? = some (.cells #[p, q, r] t (0, 0)) := World.alloc_heap_new W _
  exact ⟨cellsY_at h 0, cellsY_at h 1, cellsY_at h 2⟩
theorem nan_str (s : ByteArray) (w : World) :
    Calls Tryd.prog 74 #[.string s] w fun e w' => e = .returned (.bool false) ∧ w = w' := by
  have he : (s.toList == s.toList) = true := beq_self_eq_true _
  go_enter Tryd.func74, Tryd.ntmps74
  go_wp2
  go_ret
  exact ⟨rfl, rfl⟩
set_option maxRecDepth 100000 in
set_option maxHeartbeats 1000000 in
theorem cmpStr_any (a b : ByteArray) (w : World) :
    Calls Tryd.prog 43 #[.string a, .string b] w fun e w' => e = .returned (.int .i64 (cmpL (bs a) (bs b))) ∧ w = w' := by
  have h1 := less_cmp a b
  have h2 := gtr_val a b
  have N := Lib.hid (fun s w' => nan_str s w')
  have hgt := gtr_str a b w
  have hcs : ∃ c : Int, cmpL (bs a) (bs b) = c ∧ ((c = -1 ∧ Op.bytesLess a.toList b.toList = true ∧ (binOp .gtr 9 (.string a) (.string b)).run Tryd.prog w = .ok (.bool false) w) ∨ (c = 0 ∧ Op.bytesLess a.toList b.toList = false ∧ (binOp .gtr 9 (.string a) (.string b)).run Tryd.prog w = .ok (.bool false) w) ∨ (c = 1 ∧ Op.bytesLess a.toList b.toList = false ∧ (binOp .gtr 9 (.string a) (.string b)).run Tryd.prog w = .ok (.bool true) w)) := by
    rcases cmpL_range (bs a) (bs b) with h | h | h
    · exact ⟨-1, h, .inl ⟨rfl, by rw [h1, h]; rfl, by rw [hgt, h2, h]; rfl⟩⟩
    · exact ⟨0, h, .inr (.inl ⟨rfl, by rw [h1, h]; rfl, by rw [hgt, h2, h]; rfl⟩)⟩
    · exact ⟨1, h, .inr (.inr ⟨rfl, by rw [h1, h]; rfl, by rw [hgt, h2, h]; rfl⟩)⟩
  clear h1 h2 hgt
  obtain ⟨c, hc, hcs⟩ := hcs
  have HE := Lib.hid hc
  clear hc
  rcases hcs with ⟨rfl, h1, h2⟩ | ⟨rfl, h1, h2⟩ | ⟨rfl, h1, h2⟩
  all_goals
    go_enter Tryd.func43, Tryd.ntmps43
    go_wp2_with (go_at_call 74; (with_reducible refine (N.out _ _).mono ?_); rintro e w' ⟨rfl, rfl⟩)
    go_ret
    exact ⟨ret_int HE.out.symm, rfl⟩
set_option maxRecDepth 100000 in
set_option maxHeartbeats 1000000 in
theorem order_ref (a b : ByteArray) (w : World) :
    Calls Tryd.prog 44 #[.string a, .string b] w fun e w' => e = .returned (.int .i64 (cmpL (bs a) (bs b))) ∧ w = w' := by
  have hgt := gtr_str a b w
  have h1 := less_cmp a b
  have h2 := gtr_val a b
  have hcs : ∃ c : Int, cmpL (bs a) (bs b) = c ∧ ((c = -1 ∧ Op.bytesLess a.toList b.toList = true ∧ (binOp .gtr 9 (.string a) (.string b)).run Tryd.prog w = .ok (.bool false) w) ∨ (c = 0 ∧ Op.bytesLess a.toList b.toList = false ∧ (binOp .gtr 9 (.string a) (.string b)).run Tryd.prog w = .ok (.bool false) w) ∨ (c = 1 ∧ Op.bytesLess a.toList b.toList = false ∧ (binOp .gtr 9 (.string a) (.string b)).run Tryd.prog w = .ok (.bool true) w)) := by
    rcases cmpL_range (bs a) (bs b) with h | h | h
    · exact ⟨-1, h, .inl ⟨rfl, by rw [h1, h]; rfl, by rw [hgt, h2, h]; rfl⟩⟩
    · exact ⟨0, h, .inr (.inl ⟨rfl, by rw [h1, h]; rfl, by rw [hgt, h2, h]; rfl⟩)⟩
    · exact ⟨1, h, .inr (.inr ⟨rfl, by rw [h1, h]; rfl, by rw [hgt, h2, h]; rfl⟩)⟩
  clear h1 h2 hgt
  obtain ⟨c, hc, hcs⟩ := hcs
  have HE := Lib.hid hc
  clear hc
  rcases hcs with ⟨rfl, h1, h2⟩ | ⟨rfl, h1, h2⟩ | ⟨rfl, h1, h2⟩
  all_goals
    go_enter Tryd.func44, Tryd.ntmps44
    go_wp2
    go_ret
    exact ⟨ret_int HE.out.symm, rfl⟩
def orV (x y z : Int) : Int := if x ≠ 0 then x else if y ≠ 0 then y else z
set_option maxRecDepth 100000 in
set_option maxHeartbeats 1000000 in
theorem or_any (x y z : Int) (g : Nat) (w : World) (h0 : w.cell? ⟨g, 0, none⟩ = some (.int .i64 x)) (h1 : w.cell? ⟨g, 1, none⟩ = some (.int .i64 y)) (h2 : w.cell? ⟨g, 2, none⟩ = some (.int .i64 z)) :
    Calls Tryd.prog 41 #[.slice (some ⟨g, 0, none⟩) 3 3] w fun e w' => e = .returned (.int .i64 (orV x y z)) ∧ w = w' := by
  have HE := Lib.hid (show orV x y z = if x ≠ 0 then x else if y ≠ 0 then y else z from rfl)
  go_enter Tryd.func41, Tryd.ntmps41
  go_wp2
  go_loop [5, 8] (fun _ i => ∃ k : Nat, k ≤ 3 ∧ i = .int .i64 (k : Int) ∧ (0 < k → x = 0) ∧ (1 < k → y = 0) ∧ (2 < k → z = 0)) (fun _ i => 3 - (intOf i).toNat)
  case atStart => exact ⟨0, by decide, rfl, fun h => by omega, fun h => by omega, fun h => by omega⟩
  case round =>
    obtain ⟨k, hk, rfl, k0, k1, k2⟩ := hrel
    rcases k with _ | _ | _ | k
    · by_cases hx : x = 0
      · have hb : (x != 0) = false := by simp [hx]
        go_wp2
        go_round
        case rel => exact ⟨1, by decide, rfl, fun _ => hx, fun h => by omega, fun h => by omega⟩
        case measure => simp [intOf]
      · have hb : (x != 0) = true := by simp [hx]
        rw [if_pos hx] at HE
        go_wp2
        go_ret
        exact ⟨ret_int HE.out.symm, rfl⟩
    · have hx := k0 (by decide)
      rw [if_neg (by simp [hx])] at HE
      clear k0 k1 k2
      subst hx
      by_cases hy : y = 0
      · have hb : (y != 0) = false := by simp [hy]
        go_wp2
        go_round
        case rel => exact ⟨2, by decide, rfl, fun _ => by trivial, fun _ => hy, fun h => by omega⟩
        case measure => simp [intOf]
      · have hb : (y != 0) = true := by simp [hy]
        rw [if_pos hy] at HE
        go_wp2
        go_ret
        exact ⟨ret_int HE.out.symm, rfl⟩
    · have hx := k0 (by decide)
      have hy := k1 (by decide)
      rw [if_neg (by simp [hx]), if_neg (by simp [hy])] at HE
      clear k0 k1 k2
      subst hx hy
      by_cases hz : z = 0
      · have hb : (z != 0) = false := by simp [hz]
        go_wp2
        go_round
        case rel => exact ⟨3, by decide, rfl, fun _ => by trivial, fun _ => by trivial, fun _ => hz⟩
        case measure => simp [intOf]
      · have hb : (z != 0) = true := by simp [hz]
        go_wp2
        go_ret
        exact ⟨ret_int HE.out.symm, rfl⟩
    · obtain rfl : k = 0 := by omega
      have hx := k0 (by decide)
      have hy := k1 (by decide)
      have hz := k2 (by decide)
      rw [if_neg (by simp [hx]), if_neg (by simp [hy])] at HE
      clear k0 k1 k2
      subst hx hy hz
      go_wp2
      go_ret
      exact ⟨ret_int HE.out.symm, rfl⟩
theorem cmpA_or (x y : Al) : cmpA x y = orV (sgnI x.k y.k) (cmpL (bs x.a) (bs y.a)) (cmpL (bs x.b) (bs y.b)) := rfl
theorem sgn_sgnI (a b : Int) : sgn a b = sgnI a b := rfl

theorem cells6' {W : World} {B : Nat} {a b c d e f : Value} {t : TypeId} (h : W.heap[B]? = some (.cells #[a, b, c, d, e, f] t (0, 0))) :
    W.cell? ⟨B, 0, none⟩ = some a ∧ W.cell? ⟨B, 1, none⟩ = some b ∧ W.cell? ⟨B, 2, none⟩ = some c := by
  simp [World.cell?, h]
/-- The three cells of two aliases' blocks that are asked. -/
def six (W : World) (B C : Nat) (x y : Al) : Prop :=
  W.cell? ⟨B, 0, none⟩ = some (.int .i64 x.k) ∧ W.cell? ⟨B, 1, none⟩ = some (.string x.a) ∧ W.cell? ⟨B, 2, none⟩ = some (.string x.b) ∧
  W.cell? ⟨C, 0, none⟩ = some (.int .i64 y.k) ∧ W.cell? ⟨C, 1, none⟩ = some (.string y.a) ∧ W.cell? ⟨C, 2, none⟩ = some (.string y.b)
set_option maxRecDepth 100000 in
set_option maxHeartbeats 4000000 in
theorem compare_al (x y : Al) (w : World) :
    Calls Tryd.prog 22 #[.agg #[.int .i64 x.k, .string x.a, .string x.b, .string x.l, .string x.s, .string x.r], .agg #[.int .i64 y.k, .string y.a, .string y.b, .string y.l, .string y.s, .string y.r]] w fun e w' => e = .returned (.int .i64 (cmpA x y)) ∧ Below w.heap.size w w' := by
  obtain ⟨W1, hW1⟩ : ∃ W1, (w.alloc (.cells #[.int .i64 x.k, .string x.a, .string x.b, .string x.l, .string x.s, .string x.r] 23)).alloc (.cells #[.int .i64 y.k, .string y.a, .string y.b, .string y.l, .string y.s, .string y.r] 23) = W1 := ⟨_, rfl⟩
  have hb1 : Below w.heap.size w W1 := by rw [← hW1]; exact ((Below.refl _ w).alloc (Nat.le_refl _) _).alloc (by simp) _
  have hA : W1.heap[w.heap.size]? = some (.cells #[.int .i64 x.k, .string x.a, .string x.b, .string x.l, .string x.s, .string x.r] 23 (0, 0)) := by rw [← hW1]; exact (Below.heap_alloc _ _ _ (by simp)).trans (World.alloc_heap_new w _)
  have hB : W1.heap[w.heap.size + 1]? = some (.cells #[.int .i64 y.k, .string y.a, .string y.b, .string y.l, .string y.s, .string y.r] 23 (0, 0)) := by rw [← hW1]; exact heap_alloc2_new w _ _
  have hS : six W1 w.heap.size (w.heap.size + 1) x y := by
    obtain ⟨a0, a1, a2⟩ := cells6' hA
    obtain ⟨b0, b1, b2⟩ := cells6' hB
    exact ⟨a0, a1, a2, b0, b1, b2⟩
  have HI := Lib.hid (fun p q w' => cmpInt_any p q w')
  have HT := Lib.hid (fun p q w' => cmpStr_any p q w')
  have HE := Lib.hid (cmpA_or x y)
  have HB0 := Lib.hid (fun w' (hb : Below W1.heap.size W1 w') => hb1.trans (hb.mono hb1.size))
  have HS := Lib.hid (fun w' (hb : Below W1.heap.size W1 w') => (show Below W1.heap.size W1 w' ∧ six w' w.heap.size (w.heap.size + 1) x y from ⟨hb, by
    obtain ⟨a0, a1, a2⟩ := cells6' ((hb.block _ (lt_of_block hA)).trans hA)
    obtain ⟨b0, b1, b2⟩ := cells6' ((hb.block _ (lt_of_block hB)).trans hB)
    exact ⟨a0, a1, a2, b0, b1, b2⟩⟩))
  have HSA := Lib.hid (fun w' o (hb : Below W1.heap.size W1 w') => HS.out _ (hb.alloc hb.size o))
  unfold six at HS HSA
  have HO := Lib.hid (fun (p q t : Int) (W : World) => or_any p q t W.heap.size (W.alloc (.cells #[.int .i64 p, .int .i64 q, .int .i64 t] 3)).drew (cells3Y W _ _ _ _).1 (cells3Y W _ _ _ _).2.1 (cells3Y W _ _ _ _).2.2)
  go_enter Tryd.func22, Tryd.ntmps22
  go_upto_region 1 with fail
  clear hW1 hA hB hb1 hS
  have hd : Below W1.heap.size W1 W1.drew := Below.drew (Below.refl _ _)
  go_region_held3 (fun w' => Below W1.heap.size W1 w' ∧ (w'.cell? ⟨w.heap.size, 0, none⟩ = some (.int .i64 x.k) ∧ w'.cell? ⟨w.heap.size, 1, none⟩ = some (.string x.a) ∧ w'.cell? ⟨w.heap.size, 2, none⟩ = some (.string x.b) ∧ w'.cell? ⟨w.heap.size + 1, 0, none⟩ = some (.int .i64 y.k) ∧ w'.cell? ⟨w.heap.size + 1, 1, none⟩ = some (.string y.a) ∧ w'.cell? ⟨w.heap.size + 1, 2, none⟩ = some (.string y.b)))
    (first | exact HS.out _ (by assumption) | exact HSA.out _ _ (by assumption) | assumption)
    (first
    | (go_at_call 42; (with_reducible refine (HI.out _ _ _).mono ?_); rintro e w5 ⟨rfl, rfl⟩)
    | (go_at_call 43; (with_reducible refine (HT.out _ _ _).mono ?_); rintro e w5 ⟨rfl, rfl⟩)
    | (go_at_call 41; (with_reducible refine (HO.out _ _ _ _).mono ?_); rintro e w5 ⟨rfl, rfl⟩))
  all_goals go_wp2
  all_goals go_ret
  all_goals exact ⟨ret_int (by rw [HE.out]; rfl), HB0.out _ (by first | assumption | exact Below.drew ((Below.refl _ _).alloc (Nat.le_refl _) _))⟩

set_option maxRecDepth 100000 in
set_option maxHeartbeats 4000000 in
theorem compare_al_ref (x y : Al) (w : World) :
    Calls Tryd.prog 23 #[.agg #[.int .i64 x.k, .string x.a, .string x.b, .string x.l, .string x.s, .string x.r], .agg #[.int .i64 y.k, .string y.a, .string y.b, .string y.l, .string y.s, .string y.r]] w fun e w' => e = .returned (.int .i64 (cmpA x y)) ∧ Below w.heap.size w w' := by
  obtain ⟨W1, hW1⟩ : ∃ W1, (w.alloc (.cells #[.int .i64 x.k, .string x.a, .string x.b, .string x.l, .string x.s, .string x.r] 23)).alloc (.cells #[.int .i64 y.k, .string y.a, .string y.b, .string y.l, .string y.s, .string y.r] 23) = W1 := ⟨_, rfl⟩
  have hb1 : Below w.heap.size w W1 := by rw [← hW1]; exact ((Below.refl _ w).alloc (Nat.le_refl _) _).alloc (by simp) _
  have hA : W1.heap[w.heap.size]? = some (.cells #[.int .i64 x.k, .string x.a, .string x.b, .string x.l, .string x.s, .string x.r] 23 (0, 0)) := by rw [← hW1]; exact (Below.heap_alloc _ _ _ (by simp)).trans (World.alloc_heap_new w _)
  have hB : W1.heap[w.heap.size + 1]? = some (.cells #[.int .i64 y.k, .string y.a, .string y.b, .string y.l, .string y.s, .string y.r] 23 (0, 0)) := by rw [← hW1]; exact heap_alloc2_new w _ _
  obtain ⟨a0, a1, a2⟩ := cells6' hA
  obtain ⟨b0, b1, b2⟩ := cells6' hB
  have HT := Lib.hid (fun p q w' => order_ref p q w')
  have HE := Lib.hid (show cmpA x y = if sgnI x.k y.k ≠ 0 then sgnI x.k y.k else if cmpL (bs x.a) (bs y.a) ≠ 0 then cmpL (bs x.a) (bs y.a) else cmpL (bs x.b) (bs y.b) from rfl)
  have HB1 := Lib.hid hb1
  clear hA hB hb1
  have h3 : x.k < y.k ∨ y.k < x.k ∨ x.k = y.k := by omega
  rcases h3 with h | h | h
  · have hs : sgnI x.k y.k = -1 := by unfold sgnI; rw [if_pos h]
    rw [hs, if_pos (by decide)] at HE
    clear hs
    go_enter Tryd.func23, Tryd.ntmps23
    go_upto_region 1 with fail
    clear hW1
    go_wp2
    go_ret
    exact ⟨ret_int HE.out.symm, HB1.out⟩
  · have hs : sgnI x.k y.k = 1 := by unfold sgnI; rw [if_neg (by omega), if_pos h]
    have hn : ¬ x.k < y.k := by omega
    rw [hs, if_pos (by decide)] at HE
    clear hs
    go_enter Tryd.func23, Tryd.ntmps23
    go_upto_region 1 with fail
    clear hW1
    go_wp2
    go_ret
    exact ⟨ret_int HE.out.symm, HB1.out⟩
  · have hs : sgnI x.k y.k = 0 := by unfold sgnI; rw [if_neg (by omega), if_neg (by omega)]
    have hn : ¬ x.k < y.k := by omega
    have hn2 : ¬ y.k < x.k := by omega
    rw [hs, if_neg (by decide)] at HE
    clear hs h
    by_cases hz : cmpL (bs x.a) (bs y.a) = 0
    · rw [if_neg (by simp [hz])] at HE
      have HTa := Lib.hid (fun w' => (order_ref x.a y.a w').mono (R' := fun e w'' => e = .returned (.int .i64 0) ∧ w' = w'') fun e w'' ⟨p, q⟩ => ⟨by rw [p, hz], q⟩)
      clear hz
      go_enter Tryd.func23, Tryd.ntmps23
      go_upto_region 1 with fail
      clear hW1
      go_wp2_with (first
        | (go_at_call 44; (with_reducible refine (HTa.out _).mono ?_); rintro e w5 ⟨rfl, rfl⟩)
        | (go_at_call 44; (with_reducible refine (HT.out _ _ _).mono ?_); rintro e w5 ⟨rfl, rfl⟩))
      go_ret
      exact ⟨ret_int HE.out.symm, HB1.out⟩
    · have hz' : (cmpL (bs x.a) (bs y.a) != 0) = true := by simp [hz]
      rw [if_pos hz] at HE
      clear hz
      go_enter Tryd.func23, Tryd.ntmps23
      go_upto_region 1 with fail
      clear hW1
      go_wp2_with (go_at_call 44; (with_reducible refine (HT.out _ _ _).mono ?_); rintro e w5 ⟨rfl, rfl⟩)
      go_ret
      exact ⟨ret_int HE.out.symm, HB1.out⟩
end Go.Proofs.YtmoblofkcfondaaDoor
