/-
  Package tag: every, over a row of texts, by what is asked of each. A map of texts to bools that the call itself has made: what was stored. Package tag: rows of rules, kept or not.
-/
import Derived.Test.YtggfdmhfcpabdaaGreatDoorFTag
import Derived.OneCell
import Derived.Maps.OwnSet
import Derived.StringKeys
/-! Package tag: every, over a row of texts, by what is asked of each. -/
namespace Go.Proofs.YtggfdmhfcpabdaaGreatDoor
open Go Go.RowKit

/-- A function asks this of each text of a row. -/
def Asks (w : World) (F : FuncId) (l : List ByteArray) (p : ByteArray → Bool) : Prop :=
  (∀ args w', (callFunc F args).run Tryz.prog w' = .ok (.enter F args) w') ∧ ∀ x ∈ l, ∀ w5, Below w.heap.size w w5 → Calls Tryz.prog F #[.string x] w5 fun e w' => e = .returned (.bool (p x)) ∧ Below w5.heap.size w5 w'
theorem Asks.below {w w' : World} {F : FuncId} {l : List ByteArray} {p : ByteArray → Bool} (h : Asks w F l p) (hb : Below w.heap.size w w') : Asks w' F l p :=
  ⟨h.1, fun x hx w5 h5 => h.2 x hx w5 (hb.trans (h5.mono hb.size))⟩

set_option maxRecDepth 100000 in
theorem not_any (F : FuncId) (l : List ByteArray) (p : ByteArray → Bool) (w w0 : World) (B : Nat) (x : ByteArray) (hx : x ∈ l) (hF : Asks w0 F l p) (hb : Below w0.heap.size w0 w) (hB : w.heap[B]? = some (.cells #[.func (.func F) #[] #[]] 36 (0, 0))) :
    Calls Tryz.prog 143 #[.string x, .pointer (some ⟨B, 0, none⟩)] w fun e w' => e = .returned (.bool (!p x)) ∧ Below w.heap.size w w' := by
  have hc := cell_of_one hB
  have eF := hF.1
  have HX := Lib.hid (hF.2 x hx w hb)
  clear hF hB
  generalize p x = px at *
  go_enter Tryz.func143, Tryz.ntmps143
  go_wp2_with fail
  refine HX.out.mono ?_
  rintro e w1 ⟨rfl, hb1⟩
  go_wp2_with fail
  go_ret
  exact ⟨rfl, hb1⟩

set_option maxRecDepth 100000 in
set_option maxHeartbeats 2000000 in
theorem idx_any (F : FuncId) (v : Value) (l : List ByteArray) (p : ByteArray → Bool) (w : World) (B : Nat) (hv : Row w v l) (hl : l.length ≤ 1048576) (hF : Asks w F l p) (hB : w.heap[B]? = some (.cells #[.func (.func F) #[] #[]] 36 (0, 0))) :
    Calls Tryz.prog 169 #[v, .func (.func 143) #[] #[.pointer (some ⟨B, 0, none⟩)]] w fun e w' => ∃ i : Int, e = .returned (.int .i64 i) ∧ decide (0 ≤ i) = !l.all p ∧ Below w.heap.size w w' := by
  obtain ⟨ao, c, rfl, hc⟩ := hv
  have HC := Lib.hid hc
  have HN := Lib.hid (fun w5 (hb : Below w.heap.size w w5) x (hx : x ∈ l) => not_any F l p w5 w B x hx hF hb ((hb.block _ (Array.getElem?_eq_some_iff.1 hB).1).trans hB))
  clear hc hF hB
  go_enter Tryz.func169, Tryz.ntmps169
  go_wp2_with fail
  go_loopw [8] (fun i wr => ∃ k : Nat, k ≤ l.length ∧ i = .int .i64 (k : Int) ∧ (l.take k).all p = true ∧ Below w.heap.size w wr) (fun i _ => l.length - (intOf i).toNat)
  case atStart => exact ⟨0, Nat.zero_le _, rfl, rfl, Below.refl _ _⟩
  case round =>
    obtain ⟨k, hk, rfl, ha, hB⟩ := hrel
    by_cases hlt : k < l.length
    · have hki : (k : Int) < (l.length : Int) := by omega
      have hk0 : (0 : Int) ≤ (k : Int) := by omega
      obtain ⟨x, hx⟩ : ∃ x, l[k]? = some x := ⟨_, List.getElem?_eq_getElem hlt⟩
      obtain ⟨g, hg, hcx⟩ := HC.out k x hx
      cases hg
      have c1 := (hB.cell (p := ⟨g, k, none⟩) (lt_of_cellF hcx)).trans hcx
      have N1 := Lib.hid (HN.out wr hB x (List.mem_of_getElem? hx))
      have HBr := Lib.hid hB
      have HX := Lib.hid hx
      have HA := Lib.hid (show (l.take (k + 1)).all p = p x by rw [take_next hx, List.all_append, ha]; simp)
      clear ha hcx hx hB
      cases hpx : p x with
      | true =>
        rw [hpx] at N1 HA
        clear hpx
        go_wp2_with (go_at_call 143; (with_reducible refine N1.out.mono ?_); rintro e w5 ⟨rfl, hb5⟩)
        go_roundw
        case rel => exact ⟨k + 1, by omega, by go_num, HA.out, HBr.out.trans (hb5.mono HBr.out.size)⟩
        case measure => simp [intOf]; omega
      | false =>
        rw [hpx] at N1
        have HF := Lib.hid (show l.all p = false by rw [List.all_eq_false]; exact ⟨x, List.mem_of_getElem? HX.out, by rw [hpx]; simp⟩)
        clear hpx
        go_wp2_with (go_at_call 143; (with_reducible refine N1.out.mono ?_); rintro e w5 ⟨rfl, hb5⟩)
        go_ret
        exact ⟨_, rfl, by rw [HF.out, decide_eq_true hk0]; rfl, HBr.out.trans (hb5.mono HBr.out.size)⟩
    · obtain rfl : k = l.length := by omega
      have hki : ¬ (l.length : Int) < (l.length : Int) := by omega
      rw [List.take_of_length_le (Nat.le_refl _)] at ha
      have HA := Lib.hid ha
      clear ha
      go_wp2_with fail
      go_ret
      exact ⟨_, rfl, by rw [HA.out]; rfl, hB⟩

set_option maxRecDepth 100000 in
theorem contains_any (F : FuncId) (v : Value) (l : List ByteArray) (p : ByteArray → Bool) (w : World) (B : Nat) (hv : Row w v l) (hl : l.length ≤ 1048576) (hF : Asks w F l p) (hB : w.heap[B]? = some (.cells #[.func (.func F) #[] #[]] 36 (0, 0))) :
    Calls Tryz.prog 142 #[v, .func (.func 143) #[] #[.pointer (some ⟨B, 0, none⟩)]] w fun e w' => e = .returned (.bool (!l.all p)) ∧ Below w.heap.size w w' := by
  have HI := Lib.hid (idx_any F v l p w B hv hl hF hB)
  obtain ⟨ao, c, rfl, -⟩ := hv
  clear hF hB
  go_enter Tryz.func142, Tryz.ntmps142
  go_wp2_with fail
  refine HI.out.mono ?_
  rintro e w1 ⟨i, rfl, hi, hb1⟩
  obtain ⟨b, hb⟩ : ∃ b, (!l.all p) = b := ⟨_, rfl⟩
  rw [hb] at hi
  have HBB := Lib.hid hb
  clear hb
  cases b with
  | true =>
    have h0 : (0 : Int) ≤ i := of_decide_eq_true hi
    go_wp2_with fail
    go_ret
    exact ⟨by rw [HBB.out]; rfl, hb1⟩
  | false =>
    have h0 : ¬ (0 : Int) ≤ i := of_decide_eq_false hi
    go_wp2_with fail
    go_ret
    exact ⟨by rw [HBB.out]; rfl, hb1⟩
set_option maxRecDepth 100000 in
theorem every_any (F : FuncId) (v : Value) (l : List ByteArray) (p : ByteArray → Bool) (w : World) (hv : Row w v l) (hl : l.length ≤ 1048576) (hF : Asks w F l p) :
    Calls Tryz.prog 106 #[v, .func (.func F) #[] #[]] w fun e w' => e = .returned (.bool (l.all p)) ∧ Below w.heap.size w w' := by
  obtain ⟨W1, hW1⟩ : ∃ W1, w.alloc (.cells #[.func (.func F) #[] #[]] 36) = W1 := ⟨_, rfl⟩
  have hb1 : Below w.heap.size w W1 := by rw [← hW1]; exact (Below.refl _ w).alloc (Nat.le_refl _) _
  have HI := Lib.hid (contains_any F v l p W1 w.heap.size (hv.below hb1) hl (hF.below hb1) (by rw [← hW1]; exact World.alloc_heap_new w _))
  have HB := Lib.hid hb1
  obtain ⟨ao, c, rfl, -⟩ := hv
  have hmf : ∀ (fn : Fn) (first cap : Array Value) (w : World), (Instr.makeFunc fn first cap).run Tryz.prog w = .ok (.func fn first cap) w := fun _ _ _ _ => rfl
  clear hF hb1
  generalize l.all p = b at *
  go_enter Tryz.func106, Tryz.ntmps106
  go_wp2_with fail
  clear hW1
  refine HI.out.mono ?_
  rintro e w2 ⟨rfl, hb2⟩
  go_wp2_with fail
  go_ret
  exact ⟨by cases b <;> rfl, HB.out.trans (hb2.mono HB.out.size)⟩
end Go.Proofs.YtggfdmhfcpabdaaGreatDoor

/-! A map of texts to bools that the call itself has made: what was stored. -/
namespace Go.Proofs.YtggfdmhfcpabdaaGreatDoor
open Go Go.RowKit Go.Maps

theorem snoc_ind {α : Type} {P : List α → Prop} (h0 : P []) (h1 : ∀ l x, P l → P (l ++ [x])) (l : List α) : P l := by
  have : ∀ r : List α, P r.reverse := fun r => by
    induction r with
    | nil => exact h0
    | cons a r ih => rw [List.reverse_cons]; exact h1 _ _ ih
  have h := this l.reverse
  rwa [List.reverse_reverse] at h
def keyL (s : ByteArray) : Lit := .string s.data.toList
def hasT (l : List ByteArray) (x : ByteArray) : Bool := l.any fun y => decide (y = x)
def setD (l : List ByteArray) : DataW Unit := setOf (.lit (.bool true)) (l.map keyL)
theorem keyL_lit (s : ByteArray) : WideAt.IsKeyLit (keyL s) := by simp [keyL, WideAt.IsKeyLit]
theorem keyL_same (a b : ByteArray) : (keyL a).sameKey (keyL b) = decide (a = b) := by
  by_cases h : a = b
  · subst h; simp [keyL, Lit.sameKey]
  · have : ¬ a.data = b.data := fun e => h (by cases a; cases b; simp_all)
    simp [keyL, Lit.sameKey, h, this]
theorem setD_lits (l : List ByteArray) : ∀ x ∈ l.map keyL, WideAt.IsKeyLit x := fun x hx => by obtain ⟨s, _, rfl⟩ := List.mem_map.1 hx; exact keyL_lit s
theorem setD_nil : setD [] = .map [] := rfl
theorem setD_snoc (l : List ByteArray) (x : ByteArray) : setD (l ++ [x]) = (setD l).put (keyL x) (.lit (.bool true)) := by
  unfold setD
  rw [List.map_append, List.map_cons, List.map_nil, setOf_snoc]
theorem setD_has (l : List ByteArray) (x : ByteArray) : Maps.has (setD l) (keyL x) = hasT l x := by
  unfold setD hasT
  rw [has_setOf _ _ _ (setD_lits l), List.any_map]
  congr 1
  funext y
  exact keyL_same y x
theorem setD_tidy (l : List ByteArray) : Tidy (setD l) := tidy_setOf _ _ (setD_lits l)
theorem hasT_snoc (l : List ByteArray) (y x : ByteArray) : hasT (l ++ [y]) x = (hasT l x || decide (y = x)) := by simp [hasT, List.any_append]
theorem setD_size (l : List ByteArray) (x : ByteArray) : Maps.size (setD (l ++ [x])) = if hasT l x then Maps.size (setD l) else Maps.size (setD l) + 1 := by
  rw [setD_snoc, size_put (setD_tidy l), setD_has]
theorem setD_at (l : List ByteArray) (x : ByteArray) : (setD l).atKey (keyL x) (.lit (.bool false)) = .lit (.bool (hasT l x)) := by
  induction l using snoc_ind with
  | h0 => rfl
  | h1 l y ih =>
    rw [setD_snoc, hasT_snoc]
    by_cases h : y = x
    · subst h
      rw [atKey_put_same (setD_tidy l).isMap (keyL_lit y)]
      simp
    · rw [atKey_put_other (fun e => h (by
        have : x.data.toList = y.data.toList := by simpa [keyL] using e
        exact (ofL_ext this).symm)), ih]
      simp [h]
/-- How many different texts there are. -/
theorem size_le_take (l : List ByteArray) : Maps.size (setD l) ≤ l.length := by
  induction l using snoc_ind with
  | h0 => exact Nat.le_refl _
  | h1 l y ih =>
    rw [setD_size]
    split <;> simp <;> omega
/-- All different. -/
def nodT : List ByteArray → Bool
  | [] => true
  | x :: r => !hasT r x && nodT r
def diffT (pre : List ByteArray) (x : ByteArray) : Bool := pre.all fun y => decide (y ≠ x)
theorem diffT_has (l : List ByteArray) (x : ByteArray) : diffT l x = !hasT l x := by
  unfold diffT hasT
  induction l with
  | nil => rfl
  | cons a r ih => simp only [List.all_cons, List.any_cons, ih, Bool.not_or]; simp
theorem size_full (l : List ByteArray) : decide (Maps.size (setD l) = l.length) = (List.range l.length).all fun i => match l[i]? with
  | some x => diffT (l.take i) x
  | none => true := by
  induction l using snoc_ind with
  | h0 => rfl
  | h1 l y ih =>
    have hr : (List.range (l ++ [y]).length).all (fun i => match (l ++ [y])[i]? with
      | some x => diffT ((l ++ [y]).take i) x
      | none => true) = ((List.range l.length).all (fun i => match l[i]? with
      | some x => diffT (l.take i) x
      | none => true) && diffT l y) := by
      rw [List.length_append, List.length_singleton, List.range_succ, List.all_append]
      congr 1
      · rw [Bool.eq_iff_iff, List.all_eq_true, List.all_eq_true]
        refine forall_congr' fun i => forall_congr' fun hi => ?_
        have hi := List.mem_range.1 hi
        rw [List.getElem?_append_left hi, List.take_append_of_le_length (Nat.le_of_lt hi)]
      · simp
    rw [hr, ← ih, setD_size, diffT_has]
    have := size_le_take l
    cases h : hasT l y <;> simp <;> omega
end Go.Proofs.YtggfdmhfcpabdaaGreatDoor

/-! Package tag: rows of rules, kept or not. -/
namespace Go.Proofs.YtggfdmhfcpabdaaGreatDoor
open Go Go.RowKit

/-- A row of values, readable cell by cell. -/
def FRow (W : World) (v : Value) (l : List (Value × Bool)) : Prop :=
  ∃ ao cap, v = .slice ao l.length cap ∧ ∀ i x, l[i]? = some x → ∃ g, ao = some ⟨g, 0, none⟩ ∧ W.cell? ⟨g, i, none⟩ = some x.1
theorem FRow.below {W W' : World} {v : Value} {l : List (Value × Bool)} (h : FRow W v l) (hb : Below W.heap.size W W') : FRow W' v l := by
  obtain ⟨ao, cap, rfl, hc⟩ := h
  refine ⟨ao, cap, rfl, fun i x hx => ?_⟩
  obtain ⟨g, h1, h2⟩ := hc i x hx
  exact ⟨g, h1, (hb.cell (p := ⟨g, i, none⟩) (lt_of_cellF h2)).trans h2⟩
/-- A rule is kept, or not; so is a row of them. -/
def Keeps (w : World) (u : Value) (b : Bool) : Prop := ∀ w5, Below w.heap.size w w5 → Calls Tryz.prog 124 #[u] w5 fun e w' => e = .returned (.bool b) ∧ Below w5.heap.size w5 w'
def KeepsAll (w : World) (u : Value) (b : Bool) : Prop := ∀ w5, Below w.heap.size w w5 → Calls Tryz.prog 86 #[u] w5 fun e w' => e = .returned (.bool b) ∧ Below w5.heap.size w5 w'
theorem Keeps.below {w w' : World} {u : Value} {b : Bool} (h : Keeps w u b) (hb : Below w.heap.size w w') : Keeps w' u b := fun w5 h5 => h w5 (hb.trans (h5.mono hb.size))
set_option maxRecDepth 100000 in
theorem notRule_any (u : Value) (p : Bool) (w w0 : World) (B : Nat) (hF : Keeps w0 u p) (hb : Below w0.heap.size w0 w) (hB : w.heap[B]? = some (.cells #[.func (.func 124) #[] #[]] 147 (0, 0))) :
    Calls Tryz.prog 158 #[u, .pointer (some ⟨B, 0, none⟩)] w fun e w' => e = .returned (.bool (!p)) ∧ Below w.heap.size w w' := by
  have hc := cell_of_one hB
  have HX := Lib.hid (hF w hb)
  clear hF hB
  go_enter Tryz.func158, Tryz.ntmps158
  go_wp2_with (go_at_call 124; (with_reducible refine HX.out.mono ?_); rintro e w1 ⟨rfl, hb1⟩)
  go_ret
  exact ⟨rfl, hb1⟩
set_option maxRecDepth 100000 in
set_option maxHeartbeats 2000000 in
theorem idxRule_any (v : Value) (L : List (Value × Bool)) (w : World) (B : Nat) (hBx : w.heap[B]? = some (.cells #[.func (.func 124) #[] #[]] 147 (0, 0))) (hv : FRow w v L) (hl : L.length ≤ 1048576) (hF : ∀ x ∈ L, Keeps w x.1 x.2) :
    Calls Tryz.prog 185 #[v, .func (.func 158) #[] #[.pointer (some ⟨B, 0, none⟩)]] w fun e w' => ∃ i : Int, e = .returned (.int .i64 i) ∧ decide (0 ≤ i) = L.any (fun x => !x.2) ∧ Below w.heap.size w w' := by
  obtain ⟨ao, c, rfl, hc⟩ := hv
  have HC := Lib.hid hc
  have HN := Lib.hid (fun w5 (hb : Below w.heap.size w w5) (x : Value × Bool) (hx : x ∈ L) => notRule_any x.1 x.2 w5 w B (hF x hx) hb ((hb.block _ (Array.getElem?_eq_some_iff.1 hBx).1).trans hBx))
  clear hc hF hBx
  go_enter Tryz.func185, Tryz.ntmps185
  go_wp2_with fail
  go_loopw [8] (fun i wr => ∃ k : Nat, k ≤ L.length ∧ i = .int .i64 (k : Int) ∧ (L.take k).any (fun x => !x.2) = false ∧ Below w.heap.size w wr) (fun i _ => L.length - (intOf i).toNat)
  case atStart => exact ⟨0, Nat.zero_le _, rfl, rfl, Below.refl _ _⟩
  case round =>
    obtain ⟨k, hk, rfl, ha, hB⟩ := hrel
    by_cases hlt : k < L.length
    · have hki : (k : Int) < (L.length : Int) := by omega
      have hk0 : (0 : Int) ≤ (k : Int) := by omega
      obtain ⟨x, hx⟩ : ∃ x, L[k]? = some x := ⟨_, List.getElem?_eq_getElem hlt⟩
      obtain ⟨g, hg, hcx⟩ := HC.out k x hx
      cases hg
      have c1 := (hB.cell (p := ⟨g, k, none⟩) (lt_of_cellF hcx)).trans hcx
      have N1 := Lib.hid (HN.out wr hB x (List.mem_of_getElem? hx))
      have HBr := Lib.hid hB
      have HX := Lib.hid hx
      have HA := Lib.hid (show (L.take (k + 1)).any (fun x => !x.2) = !x.2 by rw [take_next hx, List.any_append, ha]; simp)
      clear ha hcx hx hB
      obtain ⟨xv, xb⟩ := x
      dsimp only at *
      cases xb with
      | true =>
        go_wp2_with (go_at_call 158; (with_reducible refine N1.out.mono ?_); rintro e w5 ⟨rfl, hb5⟩)
        go_roundw
        case rel => exact ⟨k + 1, by omega, by go_num, HA.out, HBr.out.trans (hb5.mono HBr.out.size)⟩
        case measure => simp [intOf]; omega
      | false =>
        have HF := Lib.hid (show L.any (fun x => !x.2) = true by rw [List.any_eq_true]; exact ⟨_, List.mem_of_getElem? HX.out, rfl⟩)
        go_wp2_with (go_at_call 158; (with_reducible refine N1.out.mono ?_); rintro e w5 ⟨rfl, hb5⟩)
        go_ret
        exact ⟨_, rfl, by rw [HF.out, decide_eq_true hk0], HBr.out.trans (hb5.mono HBr.out.size)⟩
    · obtain rfl : k = L.length := by omega
      have hki : ¬ (L.length : Int) < (L.length : Int) := by omega
      rw [List.take_of_length_le (Nat.le_refl _)] at ha
      have HA := Lib.hid ha
      clear ha
      go_wp2_with fail
      go_ret
      exact ⟨_, rfl, by rw [HA.out]; rfl, hB⟩
set_option maxRecDepth 100000 in
theorem containsRule_any (v : Value) (L : List (Value × Bool)) (w : World) (B : Nat) (hBx : w.heap[B]? = some (.cells #[.func (.func 124) #[] #[]] 147 (0, 0))) (hv : FRow w v L) (hl : L.length ≤ 1048576) (hF : ∀ x ∈ L, Keeps w x.1 x.2) :
    Calls Tryz.prog 157 #[v, .func (.func 158) #[] #[.pointer (some ⟨B, 0, none⟩)]] w fun e w' => e = .returned (.bool (L.any (fun x => !x.2))) ∧ Below w.heap.size w w' := by
  have HI := Lib.hid (idxRule_any v L w B hBx hv hl hF)
  obtain ⟨ao, c, rfl, -⟩ := hv
  clear hF hBx
  go_enter Tryz.func157, Tryz.ntmps157
  go_wp2_with fail
  refine HI.out.mono ?_
  rintro e w1 ⟨i, rfl, hi, hb1⟩
  obtain ⟨b, hb⟩ : ∃ b, L.any (fun x => !x.2) = b := ⟨_, rfl⟩
  rw [hb] at hi
  have HBB := Lib.hid hb
  clear hb
  cases b with
  | true =>
    have h0 : (0 : Int) ≤ i := of_decide_eq_true hi
    go_wp2_with fail
    go_ret
    exact ⟨by rw [HBB.out]; rfl, hb1⟩
  | false =>
    have h0 : ¬ (0 : Int) ≤ i := of_decide_eq_false hi
    go_wp2_with fail
    go_ret
    exact ⟨by rw [HBB.out]; rfl, hb1⟩
set_option maxRecDepth 100000 in
theorem everyRule_any (v : Value) (L : List (Value × Bool)) (w : World) (hv : FRow w v L) (hl : L.length ≤ 1048576) (hF : ∀ x ∈ L, Keeps w x.1 x.2) :
    Calls Tryz.prog 123 #[v, .func (.func 124) #[] #[]] w fun e w' => e = .returned (.bool (L.all (·.2))) ∧ Below w.heap.size w w' := by
  obtain ⟨W1, hW1⟩ : ∃ W1, w.alloc (.cells #[.func (.func 124) #[] #[]] 147) = W1 := ⟨_, rfl⟩
  have hb1 : Below w.heap.size w W1 := by rw [← hW1]; exact (Below.refl _ w).alloc (Nat.le_refl _) _
  have HI := Lib.hid (containsRule_any v L W1 w.heap.size (by rw [← hW1]; exact World.alloc_heap_new w _) (hv.below hb1) hl (fun x hx => (hF x hx).below hb1))
  have HB := Lib.hid hb1
  have HE := Lib.hid (show L.all (·.2) = !(L.any (fun x => !x.2)) by rw [List.all_eq_not_any_not])
  obtain ⟨ao, c, rfl, -⟩ := hv
  have hmf : ∀ (fn : Fn) (first cap : Array Value) (w : World), (Instr.makeFunc fn first cap).run Tryz.prog w = .ok (.func fn first cap) w := fun _ _ _ _ => rfl
  clear hF hb1
  generalize (L.any fun x => !x.2) = b at *
  go_enter Tryz.func123, Tryz.ntmps123
  go_wp2_with fail
  clear hW1
  refine HI.out.mono ?_
  rintro e w2 ⟨rfl, hb2⟩
  go_wp2_with fail
  go_ret
  exact ⟨by rw [HE.out]; cases b <;> rfl, HB.out.trans (hb2.mono HB.out.size)⟩
set_option maxRecDepth 100000 in
theorem allKept_any (v : Value) (L : List (Value × Bool)) (w : World) (hv : FRow w v L) (hl : L.length ≤ 1048576) (hF : ∀ x ∈ L, Keeps w x.1 x.2) : KeepsAll w v (L.all (·.2)) := by
  intro w5 hb5
  have HI := Lib.hid (everyRule_any v L w5 (hv.below hb5) hl (fun x hx => (hF x hx).below hb5))
  obtain ⟨ao, c, rfl, -⟩ := hv
  clear hF
  generalize L.all (·.2) = b at *
  go_enter Tryz.func86, Tryz.ntmps86
  go_wp2_with (go_at_call 123; (with_reducible refine HI.out.mono ?_); rintro e w1 ⟨rfl, hb1⟩)
  go_ret
  exact ⟨rfl, hb1⟩
set_option maxRecDepth 100000 in
set_option maxHeartbeats 2000000 in
theorem idxRow_any (v : Value) (L : List (Value × Bool)) (w : World) (hv : FRow w v L) (hl : L.length ≤ 1048576) (hF : ∀ x ∈ L, KeepsAll w x.1 x.2) :
    Calls Tryz.prog 109 #[v, .func (.func 86) #[] #[]] w fun e w' => ∃ i : Int, e = .returned (.int .i64 i) ∧ decide (0 ≤ i) = L.any (fun x => x.2) ∧ Below w.heap.size w w' := by
  obtain ⟨ao, c, rfl, hc⟩ := hv
  have HC := Lib.hid hc
  have HN := Lib.hid (fun w5 (hb : Below w.heap.size w w5) (x : Value × Bool) (hx : x ∈ L) => hF x hx w5 hb)
  clear hc hF
  go_enter Tryz.func109, Tryz.ntmps109
  go_wp2_with fail
  go_loopw [8] (fun i wr => ∃ k : Nat, k ≤ L.length ∧ i = .int .i64 (k : Int) ∧ (L.take k).any (fun x => x.2) = false ∧ Below w.heap.size w wr) (fun i _ => L.length - (intOf i).toNat)
  case atStart => exact ⟨0, Nat.zero_le _, rfl, rfl, Below.refl _ _⟩
  case round =>
    obtain ⟨k, hk, rfl, ha, hB⟩ := hrel
    by_cases hlt : k < L.length
    · have hki : (k : Int) < (L.length : Int) := by omega
      have hk0 : (0 : Int) ≤ (k : Int) := by omega
      obtain ⟨x, hx⟩ : ∃ x, L[k]? = some x := ⟨_, List.getElem?_eq_getElem hlt⟩
      obtain ⟨g, hg, hcx⟩ := HC.out k x hx
      cases hg
      have c1 := (hB.cell (p := ⟨g, k, none⟩) (lt_of_cellF hcx)).trans hcx
      have N1 := Lib.hid (HN.out wr hB x (List.mem_of_getElem? hx))
      have HBr := Lib.hid hB
      have HX := Lib.hid hx
      have HA := Lib.hid (show (L.take (k + 1)).any (fun x => x.2) = x.2 by rw [take_next hx, List.any_append, ha]; simp)
      clear ha hcx hx hB
      obtain ⟨xv, xb⟩ := x
      dsimp only at *
      cases xb with
      | false =>
        go_wp2_with (go_at_call 86; (with_reducible refine N1.out.mono ?_); rintro e w5 ⟨rfl, hb5⟩)
        go_roundw
        case rel => exact ⟨k + 1, by omega, by go_num, HA.out, HBr.out.trans (hb5.mono HBr.out.size)⟩
        case measure => simp [intOf]; omega
      | true =>
        have HF := Lib.hid (show L.any (fun x => x.2) = true by rw [List.any_eq_true]; exact ⟨_, List.mem_of_getElem? HX.out, rfl⟩)
        go_wp2_with (go_at_call 86; (with_reducible refine N1.out.mono ?_); rintro e w5 ⟨rfl, hb5⟩)
        go_ret
        exact ⟨_, rfl, by rw [HF.out, decide_eq_true hk0], HBr.out.trans (hb5.mono HBr.out.size)⟩
    · obtain rfl : k = L.length := by omega
      have hki : ¬ (L.length : Int) < (L.length : Int) := by omega
      rw [List.take_of_length_le (Nat.le_refl _)] at ha
      have HA := Lib.hid ha
      clear ha
      go_wp2_with fail
      go_ret
      exact ⟨_, rfl, by rw [HA.out]; rfl, hB⟩
set_option maxRecDepth 100000 in
theorem containsRow_any (v : Value) (L : List (Value × Bool)) (w : World) (hv : FRow w v L) (hl : L.length ≤ 1048576) (hF : ∀ x ∈ L, KeepsAll w x.1 x.2) :
    Calls Tryz.prog 84 #[v, .func (.func 86) #[] #[]] w fun e w' => e = .returned (.bool (L.any (fun x => x.2))) ∧ Below w.heap.size w w' := by
  have HI := Lib.hid (idxRow_any v L w hv hl hF)
  obtain ⟨ao, c, rfl, -⟩ := hv
  clear hF
  go_enter Tryz.func84, Tryz.ntmps84
  go_wp2_with fail
  refine HI.out.mono ?_
  rintro e w1 ⟨i, rfl, hi, hb1⟩
  obtain ⟨b, hb⟩ : ∃ b, L.any (fun x => x.2) = b := ⟨_, rfl⟩
  rw [hb] at hi
  have HBB := Lib.hid hb
  clear hb
  cases b with
  | true =>
    have h0 : (0 : Int) ≤ i := of_decide_eq_true hi
    go_wp2_with fail
    go_ret
    exact ⟨by rw [HBB.out]; rfl, hb1⟩
  | false =>
    have h0 : ¬ (0 : Int) ≤ i := of_decide_eq_false hi
    go_wp2_with fail
    go_ret
    exact ⟨by rw [HBB.out]; rfl, hb1⟩
end Go.Proofs.YtggfdmhfcpabdaaGreatDoor
