/-
  keyword: ordered, told, Order.
-/
import Derived.Test.YtgdcdijdpflmdaaUSort
import Derived.Test.YtgdcdijdpflmdaaUMap
namespace Go.Proofs.Ytgdcdijdpflmdaa
open Go Go.RowKit Go.Maps

theorem dd_any {α : Type} (f : α → ByteArray) (l : List α) (x : α) : (ddBy f l).any (fun y => decide (f y = f x)) = hasTU (l.map f) (f x) := by
  have h : ∀ l : List α, ∀ z, (ddBy f l).any (fun y => decide (f y = z)) = hasTU (l.map f) z := by
    intro l
    induction l using snoc_indU with
    | h0 => intro z; rfl
    | h1 l y ih =>
      intro z
      rw [ddBy_snoc, List.map_append, List.map_cons, List.map_nil, hasT_snocU, ← ih z]
      split
      · rename_i h
        by_cases hy : f y = z
        · subst hy
          rw [h]; simp
        · simp [hy]
      · rw [List.any_append]
        simp
  exact h l (f x)
theorem dd_len {α : Type} (f : α → ByteArray) (l : List α) : (ddBy f l).length ≤ l.length := by
  rw [← (rise_perm_dd f l).length_eq]
  exact rise_len f l
theorem dd_map {α β : Type} (f : β → ByteArray) (g : α → β) (l : List α) : (ddBy (fun x => f (g x)) l).map g = ddBy f (l.map g) := by
  induction l using snoc_indU with
  | h0 => rfl
  | h1 l y ih =>
    rw [ddBy_snoc, List.map_append, List.map_cons, List.map_nil, ddBy_snoc, ← ih, List.any_map]
    have e : (ddBy (fun x => f (g x)) l).any ((fun y_1 => decide (f y_1 = f (g y))) ∘ g) = (ddBy (fun x => f (g x)) l).any fun y_1 => decide (f (g y_1) = f (g y)) := rfl
    rw [e]
    split <;> simp

theorem own_not_mapU {w : World} {base M : Nat} {e : TypeId} {sz n : Nat} {v : Value} {k : Nat} {xs : List Value} {t : TypeId} {R : Value → Option (DataW Unit × List MemPlace)} {D : DataW Unit} (h : w.ownsRow base e sz v n xs) (hm : w.ownsMap Try.prog t R M k D) : v.ownBlock ≠ some M := by
  rcases h.2 with ⟨rfl, _⟩ | ⟨g, c, cur, rfl, _, hg, _⟩
  · simp [Value.ownBlock]
  · intro e
    have e : g = M := by simpa [Value.ownBlock] using e
    subst e
    obtain ⟨es, cl, hb, _⟩ := hm
    rw [hb] at hg
    cases hg
/-- What ordered has made so far: the row of the first of each name, the map of names, and the closure's own cell. -/
structure OrdS (w wr : World) (M : Nat) (D : List ByteArray) (out : Value) : Prop where
  own : wr.ownsRow w.heap.size 9 1 out D.length (strs D)
  map : wr.ownsMap Try.prog 9 (plainElem (H := Unit) Try.prog 4) M D.length (setDU D)
  lt : w.heap.size < M
  fn : wr.heap[w.heap.size]? = some (.cells #[.func (.func 59) #[] #[]] 38 (0, 0))
  bel : Below w.heap.size w wr
/-- In the map, not yet in the row. -/
structure OrdS' (w wr : World) (M : Nat) (D : List ByteArray) (x : ByteArray) (out : Value) : Prop where
  own : wr.ownsRow w.heap.size 9 1 out D.length (strs D)
  map : wr.ownsMap Try.prog 9 (plainElem (H := Unit) Try.prog 4) M (D.length + 1) (setDU (D ++ [x]))
  lt : w.heap.size < M
  fn : wr.heap[w.heap.size]? = some (.cells #[.func (.func 59) #[] #[]] 38 (0, 0))
  bel : Below w.heap.size w wr
theorem OrdS.noted {w wr w' : World} {M : Nat} {D : List ByteArray} {out : Value} (h : OrdS w wr M D out) (hg : wr.grownBy w' (some M)) (x : ByteArray) (hm : w'.ownsMap Try.prog 9 (plainElem (H := Unit) Try.prog 4) M (D.length + 1) ((setDU D).put (keyLU x) (.lit (.bool true)))) : OrdS' w w' M D x out :=
  ⟨h.own.kept hg (.inr (own_not_mapU h.own h.map)), by rw [setD_snocU]; exact hm, h.lt, (hg.block _ (lt_of_heap h.fn) (by have := h.lt; simp; omega)).trans h.fn, h.bel.grown hg h.bel.size (fun g hg => by have := h.lt; cases hg; omega)⟩
theorem OrdS'.pushed {w wr w' : World} {M : Nat} {D : List ByteArray} {x : ByteArray} {out out' : Value} {o : Obj} (h : OrdS' w wr M D x out) (ho : w'.ownsRow w.heap.size 9 1 out' (D.length + 1) (strs D ++ [.string x])) (hg : (wr.alloc o).grownBy w' out.ownBlock) : OrdS w w' M (D ++ [x]) out' := by
  have hl := lt_of_heap h.fn
  refine ⟨by rw [List.length_append, strs_append]; exact ho, ?_, h.lt, (hg.block _ (by simp; omega) (own_not_ty h.own h.fn (by decide)).symm).trans ((Below.heap_alloc _ _ _ hl).trans h.fn), (h.bel.alloc h.bel.size o).grown hg (by have := h.bel.size; simp; omega) (fun g hg => (h.own.lt g hg).1)⟩
  rw [List.length_append]
  exact (h.map.alloc o).kept hg (own_not_mapU h.own h.map).symm
set_option maxRecDepth 100000 in
set_option maxHeartbeats 4000000 in
theorem ordS_own (v : Value) (l : List ByteArray) (w : World) (hv : RowU w v l) (hl : l.length ≤ 12) (hs : ∀ x ∈ l, x.size ≤ 1000) :
    Calls Try.prog 58 #[v, .func (.func 59) #[] #[]] w fun e w' => ∃ u, e = .returned u ∧ w'.ownsRow w.heap.size 9 1 u (riseBy id l).length (strs (riseBy id l)) ∧ Below w.heap.size w w' := by
  obtain ⟨i0, hii, iz0, iz1, iz2⟩ := info_parts stringInfo
  have hmm := @run_makeMap Try.prog
  obtain ⟨ao, c, rfl, hc⟩ := hv
  have HC := Lib.hid hc
  have HS := Lib.hid hs
  have NM := Lib.hid nameS_own
  clear hc hs
  obtain ⟨W1, hW1⟩ : ∃ W1, w.alloc (.cells #[.func (.func 59) #[] #[]] 38) = W1 := ⟨_, rfl⟩
  have hB1 : W1.heap[w.heap.size]? = some (.cells #[.func (.func 59) #[] #[]] 38 (0, 0)) := by rw [← hW1]; exact World.alloc_heap_new w _
  have hb1 : Below w.heap.size w W1 := by rw [← hW1]; exact (Below.refl _ w).alloc (Nat.le_refl _) _
  have hz1 : W1.heap.size = w.heap.size + 1 := by rw [← hW1]; simp
  have HB1 := Lib.hid hB1
  have Hb1 := Lib.hid hb1
  have HZ1 := Lib.hid hz1
  clear hB1 hb1 hz1
  go_enter Try.func58, Try.ntmps58
  go_upto_region 1 with fail
  clear hW1
  go_wp2_with fail
  go_loopw [6, 13] (fun out i wr => ∃ k : Nat, k ≤ l.length ∧ i = .int .i64 (k : Int) ∧ OrdS w wr W1.heap.size (ddBy id (l.take k)) out) (fun _ i _ => l.length - (intOf i).toNat)
  case atStart =>
    refine ⟨0, Nat.zero_le _, rfl, World.ownsRow_nil _ _ _ _, World.ownsMap_made W1 Try.prog 9 (plainElem (H := Unit) Try.prog 4), by rw [HZ1.out]; omega, ?_, Hb1.out.alloc Hb1.out.size _⟩
    · exact (Below.heap_alloc _ _ _ (lt_of_heap HB1.out)).trans HB1.out
  case round =>
    obtain ⟨k, hk, rfl, HO⟩ := hrel
    have HO := Lib.hid HO
    by_cases hlt : k < l.length
    · have hki : (k : Int) < (l.length : Int) := by omega
      have hk0 : (0 : Int) ≤ (k : Int) := by omega
      obtain ⟨x, hx⟩ : ∃ x, l[k]? = some x := ⟨_, List.getElem?_eq_getElem hlt⟩
      obtain ⟨g, o, rfl, hcx⟩ := HC.out k x hx
      have c1 := (HO.out.bel.cell (p := ⟨g, o + k, none⟩) (lt_of_cellF hcx)).trans hcx
      have cB := cell_of_one HO.out.fn
      have hm := HO.out.map
      have hkey : keyOf Try.prog 9 (.string x) = some (keyLU x) := WideMaps.keyOf_string_mk Try.underlying9 (by have := HS.out x (List.mem_of_getElem? hx); unfold maxLen; omega)
      have HA := Lib.hid (setD_atU (ddBy id (l.take k)) x)
      have HN := Lib.hid (show ddBy id (l.take (k + 1)) = if hasTU (ddBy id (l.take k)) x = true then ddBy id (l.take k) else ddBy id (l.take k) ++ [x] by rw [take_next hx, ddBy_snoc]; rfl)
      have hdl : (ddBy id (l.take k)).length ≤ 12 := by have := dd_len id (l.take k); simp at this; omega
      clear hcx hx
      generalize ddBy id (l.take k) = D at *
      generalize hasTU D x = b at *
      have NX := Lib.hid (NM.out x)
      cases b with
      | true =>
        go_wp2_with (first
          | (go_at_call 59; (with_reducible refine (NX.out _).mono ?_); rintro e w5 ⟨rfl, rfl⟩)
          | (at_lookup; refine wpList_lookup_own_boolU _ rfl _ _ 99 rfl 9 4 law_strU Try.underlying99 Try.underlying4 rfl W1.heap.size D.length _ rfl hm _ _ rfl hkey ?_; intro c' hat; obtain rfl : c' = true := (by have e := HA.out.symm.trans hat; simpa using e.symm); clear hat))
        go_roundw
        case rel => exact ⟨k + 1, by omega, by go_num, by rw [HN.out, if_pos trivial]; exact HO.out⟩
        case measure => simp [intOf]; omega
      | false =>
        go_wp2_with (first
          | (go_at_call 59; (with_reducible refine (NX.out _).mono ?_); rintro e w5 ⟨rfl, rfl⟩)
          | (at_lookup; refine wpList_lookup_own_boolU _ rfl _ _ 99 rfl 9 4 law_strU Try.underlying99 Try.underlying4 rfl W1.heap.size D.length _ rfl hm _ _ rfl hkey ?_; intro c' hat; obtain rfl : c' = false := (by have e := HA.out.symm.trans hat; simpa using e.symm); clear hat)
          | (at_mapUpdate; refine wpList_mapUpdate_own _ rfl _ _ _ 99 rfl 9 4 law_strU Try.underlying99 (plainElem (H := Unit) Try.prog 4) W1.heap.size D.length _ rfl hm (by unfold maxLen; omega) _ _ _ rfl rfl hkey _ [] (plainElem_bool Try.underlying4 true) ?_; intro w6 hown6 hgrow6; have HO6 := Lib.hid (HO.out.noted hgrow6 x hown6); clear hown6 hgrow6)
          | (at_builtin; refine wpList_append_own _ rfl _ _ 26 rfl w.heap.size 9 i0 (.string ByteArray.empty) 1 16 Try.underlying26 hii iz0 iz1 iz2 rfl (by decide) _ D.length _ rfl (HO6.out.own.alloc _) ⟨_, 0, none⟩ 1 1 [.string x] rfl rfl (cell_one_new _ _ _) (by intro u hu; simp at hu; subst hu; rfl) (by unfold maxLen; omega) (by omega) (by have := HO6.out.bel.size; simp; omega) ?_; intro v' w7 hown7 hgrow7 _; have HO7 := Lib.hid (HO6.out.pushed hown7 hgrow7); clear hown7 hgrow7))
        go_roundw
        case rel => exact ⟨k + 1, by omega, by go_num, by rw [HN.out]; exact HO7.out⟩
        case measure => simp [intOf]; omega
    · obtain rfl : k = l.length := by omega
      have hki : ¬ (l.length : Int) < (l.length : Int) := by omega
      rw [List.take_of_length_le (Nat.le_refl _)] at HO
      have hdl : (ddBy id l).length ≤ 12 := by have := dd_len id l; omega
      have hfB := own_not_ty HO.out.own HO.out.fn (by decide)
      have SC := Lib.hid (sortS_own w.heap.size u6 (ddBy id l) w.heap.size wr HO.out.own hdl (cell_of_one HO.out.fn) hfB)
      have hmf : ∀ (fn : Fn) (first cap : Array Value) (w : World), (Instr.makeFunc fn first cap).run Try.prog w = .ok (.func fn first cap) w := fun _ _ _ _ => rfl
      go_wp2_with (go_at_call 85; (with_reducible refine SC.out.mono ?_); rintro e w6 ⟨rfl, l', hp, hs, ho, hg⟩; have e' := sorted_rise id hp hs; subst e'; have HO6 := Lib.hid ho; have HG6 := Lib.hid hg; clear ho hg hp hs)
      go_ret
      exact ⟨_, rfl, HO6.out, HO.out.bel.grown HG6.out HO.out.bel.size (fun g hg => (HO.out.own.lt g hg).1)⟩

theorem OwnZ.grown {w1 w w' : World} {base : Nat} {v : Value} {Z : List ZE} {row : Option Nat} (h : OwnZ w1 w base v Z) (hg : w.grownBy w' row) (hne : v.ownBlock ≠ row ∨ v.ownBlock = none) : OwnZ w1 w' base v Z :=
  ⟨h.own.kept hg (hne.symm), h.row⟩
/-- What ordered has made so far: extensions. -/
structure OrdX (w1 w wr : World) (M : Nat) (Z : List ZE) (out : Value) : Prop where
  own : OwnZ w1 wr w.heap.size out Z
  map : wr.ownsMap Try.prog 9 (plainElem (H := Unit) Try.prog 4) M Z.length (setDU (Z.map fun z => z.1.1))
  lt : w.heap.size < M
  fn : wr.heap[w.heap.size]? = some (.cells #[.func (.func 61) #[] #[]] 77 (0, 0))
  bel : Below w.heap.size w wr
structure OrdX' (w1 w wr : World) (M : Nat) (Z : List ZE) (x : ByteArray) (out : Value) : Prop where
  own : OwnZ w1 wr w.heap.size out Z
  map : wr.ownsMap Try.prog 9 (plainElem (H := Unit) Try.prog 4) M (Z.length + 1) (setDU ((Z.map fun z => z.1.1) ++ [x]))
  lt : w.heap.size < M
  fn : wr.heap[w.heap.size]? = some (.cells #[.func (.func 61) #[] #[]] 77 (0, 0))
  bel : Below w.heap.size w wr
theorem OrdX.alloc {w1 w wr : World} {M : Nat} {Z : List ZE} {out : Value} (h : OrdX w1 w wr M Z out) (o : Obj) : OrdX w1 w (wr.alloc o) M Z out :=
  ⟨⟨h.own.own.alloc o, h.own.row⟩, h.map.alloc o, h.lt, (Below.heap_alloc _ _ _ (lt_of_heap h.fn)).trans h.fn, h.bel.alloc h.bel.size o⟩
theorem OrdX.noted {w1 w wr w' : World} {M : Nat} {Z : List ZE} {out : Value} (h : OrdX w1 w wr M Z out) (hg : wr.grownBy w' (some M)) (x : ByteArray) (hm : w'.ownsMap Try.prog 9 (plainElem (H := Unit) Try.prog 4) M (Z.length + 1) ((setDU (Z.map fun z => z.1.1)).put (keyLU x) (.lit (.bool true)))) : OrdX' w1 w w' M Z x out :=
  ⟨⟨h.own.own.kept hg (.inr (own_not_mapU h.own.own h.map)), h.own.row⟩, by rw [setD_snocU]; exact hm, h.lt, (hg.block _ (lt_of_heap h.fn) (by have := h.lt; simp; omega)).trans h.fn, h.bel.grown hg h.bel.size (fun g hg => by have := h.lt; cases hg; omega)⟩
theorem zcells_app (Z : List ZE) (z : ZE) : zcells (Z ++ [z]) = zcells Z ++ [.string z.1.1, slc z.2] := by simp [zcells, encZ]
theorem OrdX'.pushed {w1 w wr w' : World} {M : Nat} {Z : List ZE} {out out' : Value} {o : Obj} {x : ByteArray × List ByteArray} {t : Option Addr × Nat × Nat} (h : OrdX' w1 w wr M Z x.1 out) (hr : RowU w1 (slc t) x.2) (ho : w'.ownsRow w.heap.size 53 2 out' (Z.length + 1) (zcells Z ++ [.string x.1, slc t])) (hg : (wr.alloc o).grownBy w' out.ownBlock) : OrdX w1 w w' M (Z ++ [(x, t)]) out' := by
  have hl := lt_of_heap h.fn
  refine ⟨⟨by rw [List.length_append, zcells_app]; exact ho, fun z hz => ?_⟩, ?_, h.lt, (hg.block _ (by simp; omega) (own_not_ty h.own.own h.fn (by decide)).symm).trans ((Below.heap_alloc _ _ _ hl).trans h.fn), (h.bel.alloc h.bel.size o).grown hg (by have := h.bel.size; simp; omega) (fun g hg => (h.own.own.lt g hg).1)⟩
  · rcases List.mem_append.1 hz with hz | hz
    · exact h.own.row z hz
    · obtain rfl := List.mem_singleton.1 hz
      exact hr
  · rw [List.length_append, List.map_append]
    exact (h.map.alloc o).kept hg (own_not_mapU h.own.own h.map).symm
set_option maxRecDepth 100000 in
set_option maxHeartbeats 4000000 in
theorem ordX_own (v : Value) (L : KX) (w1 w : World) (hv : ExtU w1 v L) (hbw : Below w1.heap.size w1 w) (hl : L.length ≤ 12) (hs : ∀ x ∈ L, x.1.size ≤ 1000) :
    Calls Try.prog 60 #[v, .func (.func 61) #[] #[]] w fun e w' => ∃ u, e = .returned u ∧ (∃ Z : List ZE, Z.map (·.1) = riseBy (·.1) L ∧ OwnZ w1 w' w.heap.size u Z) ∧ Below w.heap.size w w' := by
  obtain ⟨i0, hii, iz0, iz1, iz2⟩ := info_parts extInfoM
  have hmm := @run_makeMap Try.prog
  obtain ⟨ao, c, rfl, hc⟩ := hv
  have HC := Lib.hid (fun k x hx => ExtU.at (w := w1) (L := L) (k := k) (x := x) ⟨ao, c, rfl, hc⟩ hx)
  have HS := Lib.hid hs
  have NM := Lib.hid nameX_own
  have HBW := Lib.hid hbw
  clear hc hs hbw
  obtain ⟨W1, hW1⟩ : ∃ W1, w.alloc (.cells #[.func (.func 61) #[] #[]] 77) = W1 := ⟨_, rfl⟩
  have hB1 : W1.heap[w.heap.size]? = some (.cells #[.func (.func 61) #[] #[]] 77 (0, 0)) := by rw [← hW1]; exact World.alloc_heap_new w _
  have hb1 : Below w.heap.size w W1 := by rw [← hW1]; exact (Below.refl _ w).alloc (Nat.le_refl _) _
  have hz1 : W1.heap.size = w.heap.size + 1 := by rw [← hW1]; simp
  have HB1 := Lib.hid hB1
  have Hb1 := Lib.hid hb1
  have HZ1 := Lib.hid hz1
  clear hB1 hb1 hz1
  go_enter Try.func60, Try.ntmps60
  go_upto_region 1 with fail
  clear hW1
  go_wp2_with fail
  go_loopw [6, 13] (fun out i wr => ∃ (k : Nat) (Z : List ZE), k ≤ L.length ∧ i = .int .i64 (k : Int) ∧ Hid (Z.map (·.1) = ddBy (·.1) (L.take k)) ∧ OrdX w1 w wr W1.heap.size Z out) (fun _ i _ => L.length - (intOf i).toNat)
  case atStart =>
    refine ⟨0, [], Nat.zero_le _, rfl, Lib.hid rfl, ⟨World.ownsRow_nil _ _ _ _, fun z hz => by cases hz⟩, World.ownsMap_made W1 Try.prog 9 (plainElem (H := Unit) Try.prog 4), by rw [HZ1.out]; omega, ?_, Hb1.out.alloc Hb1.out.size _⟩
    exact (Below.heap_alloc _ _ _ (lt_of_heap HB1.out)).trans HB1.out
  case round =>
    obtain ⟨k, Z, hk, rfl, HZ, HO⟩ := hrel
    have HO := Lib.hid HO
    have hdl : Z.length ≤ 12 := by have h1 := dd_len (·.1) (L.take k); rw [← HZ.out] at h1; simp at h1; omega
    by_cases hlt : k < L.length
    · have hki : (k : Int) < (L.length : Int) := by omega
      have hk0 : (0 : Int) ≤ (k : Int) := by omega
      obtain ⟨x, hx⟩ : ∃ x, L[k]? = some x := ⟨_, List.getElem?_eq_getElem hlt⟩
      obtain ⟨g, o, t, rfl, hc1, hc2, hr, -⟩ := HC.out k x hx
      have c1 := (HO.out.bel.cell (p := ⟨g, o + k * 2, none⟩) (Nat.lt_of_lt_of_le (lt_of_cellF hc1) HBW.out.size)).trans ((HBW.out.cell (p := ⟨g, o + k * 2, none⟩) (lt_of_cellF hc1)).trans hc1)
      have c2 := (HO.out.bel.cell (p := ⟨g, o + k * 2 + 1, none⟩) (Nat.lt_of_lt_of_le (lt_of_cellF hc2) HBW.out.size)).trans ((HBW.out.cell (p := ⟨g, o + k * 2 + 1, none⟩) (lt_of_cellF hc2)).trans hc2)
      have cB := cell_of_one HO.out.fn
      have hkey : keyOf Try.prog 9 (.string x.1) = some (keyLU x.1) := WideMaps.keyOf_string_mk Try.underlying9 (by have := HS.out x (List.mem_of_getElem? hx); unfold maxLen; omega)
      have HA := Lib.hid (setD_atU (Z.map fun z => z.1.1) x.1)
      have HN := Lib.hid (show ddBy (·.1) (L.take (k + 1)) = if hasTU (Z.map fun z => z.1.1) x.1 = true then Z.map (·.1) else Z.map (·.1) ++ [x] by
        rw [take_next hx, ddBy_snoc, ← HZ.out]
        have e : (Z.map (·.1)).any (fun y => decide (y.1 = x.1)) = hasTU (Z.map fun z => z.1.1) x.1 := by unfold hasTU; rw [List.any_map, List.any_map]; rfl
        rw [e])
      have HR := Lib.hid hr
      clear hc1 hc2 hx hr HZ
      obtain ⟨ta, tn, tc⟩ := t
      simp only [slc] at c2
      go_upto_region 6 with fail
      obtain ⟨W3, hW3⟩ : ∃ W3, wr.alloc (.cells #[.string x.1, .slice ta tn tc] 53) = W3 := ⟨_, rfl⟩
      have HO3 := Lib.hid (by have := HO.out.alloc (.cells #[.string x.1, .slice ta tn tc] 53); rw [hW3] at this; exact this : OrdX w1 w W3 W1.heap.size Z u6)
      have hE3 : W3.heap[wr.heap.size]? = some (.cells #[.string x.1, .slice ta tn tc] 53 (0, 0)) := by rw [← hW3]; exact World.alloc_heap_new wr _
      rw [hW3]
      clear hW3 c1 c2 cB
      have cB := cell_of_one HO3.out.fn
      have e0 := cell_row2 0 hE3 rfl
      have e1 := cell_row2 1 hE3 rfl
      have NX := Lib.hid (NM.out x.1 (.slice ta tn tc) W3)
      have HE3 := Lib.hid hE3
      clear hE3
      go_upto_region 7 with (go_at_call 61; (with_reducible refine NX.out.mono ?_); rintro e w4 ⟨rfl, hw4⟩; have HO4 := Lib.hid (by have := HO3.out.alloc (.cells #[.string x.1, .slice ta tn tc] 53); rw [← hw4] at this; exact this : OrdX w1 w w4 W1.heap.size Z u6); have HE4 := Lib.hid (by rw [hw4]; exact (Below.heap_alloc _ _ _ (lt_of_heap HE3.out)).trans HE3.out : w4.heap[wr.heap.size]? = some (.cells #[.string x.1, .slice ta tn tc] 53 (0, 0))); clear hw4)
      clear e0 e1 cB
      have hm := HO4.out.map
      have hEM : wr.heap.size ≠ W1.heap.size := by have := HO.out.map.lt; omega
      have hob := fun g hg => (HO.out.own.own.lt g hg).2
      have HOB := Lib.hid hob
      clear hob
      generalize hasTU (Z.map fun z => z.1.1) x.1 = b at *
      cases b with
      | true =>
        go_wp2_with (first
          | (at_lookup; refine wpList_lookup_own_boolU _ rfl _ _ 99 rfl 9 4 law_strU Try.underlying99 Try.underlying4 rfl W1.heap.size Z.length _ rfl hm _ _ rfl hkey ?_; intro c' hat; obtain rfl : c' = true := (by have e := HA.out.symm.trans hat; simpa using e.symm); clear hat))
        go_roundw
        case rel => exact ⟨k + 1, Z, by omega, by go_num, Lib.hid (by rw [HN.out, if_pos rfl]), HO4.out⟩
        case measure => simp [intOf]; omega
      | false =>
        go_wp2_with (first
          | (at_lookup; refine wpList_lookup_own_boolU _ rfl _ _ 99 rfl 9 4 law_strU Try.underlying99 Try.underlying4 rfl W1.heap.size Z.length _ rfl hm _ _ rfl hkey ?_; intro c' hat; obtain rfl : c' = false := (by have e := HA.out.symm.trans hat; simpa using e.symm); clear hat)
          | (at_mapUpdate; refine wpList_mapUpdate_own _ rfl _ _ _ 99 rfl 9 4 law_strU Try.underlying99 (plainElem (H := Unit) Try.prog 4) W1.heap.size Z.length _ rfl hm (by unfold maxLen; omega) _ _ _ rfl rfl hkey _ [] (plainElem_bool Try.underlying4 true) ?_; intro w6 hown6 hgrow6; have HO6 := Lib.hid (HO4.out.noted hgrow6 x.1 hown6); have hE6 := (hgrow6.block wr.heap.size (lt_of_heap HE4.out) (by simp; omega)).trans HE4.out; have e0 := cell_row2 0 hE6 rfl; have e1 := cell_row2 1 hE6 rfl; clear hown6 hgrow6 hE6)
          | (at_builtin; refine wpList_append_own _ rfl _ _ 27 rfl w.heap.size 53 i0 (.agg #[.string ByteArray.empty, .slice none 0 0]) 2 40 Try.underlying27 hii iz0 iz1 iz2 rfl (by decide) _ Z.length _ rfl (HO6.out.own.own.alloc _) ⟨_, 0, none⟩ 1 1 [.string x.1, .slice ta tn tc] rfl rfl (cell_two_new _ _ _ _) (by intro u hu; simp at hu; rcases hu with rfl | rfl <;> rfl) (by unfold maxLen; omega) (by omega) (by have := HO6.out.bel.size; simp; omega) ?_; intro v' w7 hown7 hgrow7 _; have HO7 := Lib.hid (HO6.out.pushed (x := x) (t := (ta, tn, tc)) HR.out hown7 hgrow7); clear hown7 hgrow7))
        go_roundw
        case rel => exact ⟨k + 1, Z ++ [(x, (ta, tn, tc))], by omega, by go_num, Lib.hid (by rw [HN.out]; simp), HO7.out⟩
        case measure => simp [intOf]; omega
    · obtain rfl : k = L.length := by omega
      have hki : ¬ (L.length : Int) < (L.length : Int) := by omega
      rw [List.take_of_length_le (Nat.le_refl _)] at HZ
      have hfB := own_not_ty HO.out.own.own HO.out.fn (by decide)
      have SC := Lib.hid (sortX_own w.heap.size u6 Z w.heap.size w1 wr HO.out.own hdl (cell_of_one HO.out.fn) hfB)
      have hmf : ∀ (fn : Fn) (first cap : Array Value) (w : World), (Instr.makeFunc fn first cap).run Try.prog w = .ok (.func fn first cap) w := fun _ _ _ _ => rfl
      go_wp2_with (go_at_call 88; (with_reducible refine SC.out.mono ?_); rintro e w6 ⟨rfl, Z', hp, hs, ho, hg⟩; have HO6 := Lib.hid ho; have HG6 := Lib.hid hg; have HP := Lib.hid hp; have HS6 := Lib.hid hs; clear ho hg hp hs)
      go_ret
      refine ⟨_, rfl, ⟨Z', ?_, HO6.out⟩, HO.out.bel.grown HG6.out HO.out.bel.size (fun g hg => (HO.out.own.own.lt g hg).1)⟩
      refine sorted_rise (fun x : ByteArray × List ByteArray => x.1) ?_ ?_
      · rw [← HZ.out]; exact HP.out.map _
      · rw [List.pairwise_map]; exact HS6.out
end Go.Proofs.Ytgdcdijdpflmdaa
