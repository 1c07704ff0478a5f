/-
  The project's Clone: rows copied, an extension, a row of extensions, a tag.
-/
import Derived.Test.YtajdfckppnedjaaGreatDoorLSubtags
import Derived.Test.YtajdfckppnedjaaGreatDoorIMade
namespace Go.Proofs.YtajdfckppnedjaaGreatDoor
open Go Go.RowKit

/-- A row that is copied so far. -/
def copyK (l : List ByteArray) (k : Nat) : List Value := strs (l.take k) ++ List.replicate (l.length - k) (.string ByteArray.empty)
theorem copyK_zero (l : List ByteArray) : copyK l 0 = List.replicate l.length (.string ByteArray.empty) := by simp [copyK, strs]
theorem copyK_all (l : List ByteArray) : copyK l l.length = strs l := by simp [copyK]
theorem copyK_len (l : List ByteArray) {k : Nat} (h : k ≤ l.length) : (copyK l k).length = l.length := by simp [copyK, strs]; omega
theorem copyK_set (l : List ByteArray) {k : Nat} {x : ByteArray} (h : l[k]? = some x) : (copyK l k).set k (.string x) = copyK l (k + 1) := by
  have hk : k < l.length := (List.getElem?_eq_some_iff.1 h).1
  have hl : (strs (l.take k)).length = k := by simp [strs]; omega
  unfold copyK
  rw [List.set_append_right _ _ (by omega), hl, Nat.sub_self, take_next h, strs_append, List.append_assoc]
  congr 1
  obtain ⟨m, hm⟩ : ∃ m, l.length - k = m + 1 := ⟨l.length - k - 1, by omega⟩
  rw [hm, show l.length - (k + 1) = m by omega, List.replicate_succ]
  rfl
theorem eql_none (n c : Nat) (w : World) : (binOp .eql 22 (.slice none n c) (.slice none 0 0)).run Tryz.prog w = .ok (.bool true) w := by kernel_rfl
theorem eql_some (a : Addr) (n c : Nat) (w : World) : (binOp .eql 22 (.slice (some a) n c) (.slice none 0 0)).run Tryz.prog w = .ok (.bool false) w := by kernel_rfl
set_option maxRecDepth 100000 in
theorem copyText_own (s : ByteArray) (w : World) :
    Calls Tryz.prog 69 #[.string s] w fun e w' => e = .returned (.string s) ∧ w = w' := by
  go_enter Tryz.func69, Tryz.ntmps69
  go_wp2
  go_ret
  exact ⟨rfl, rfl⟩
set_option maxRecDepth 100000 in
set_option maxHeartbeats 2000000 in
theorem copyRow_own (v : Value) (l : List ByteArray) (w : World) (hv : Row w v l) (hl : l.length ≤ 100000) :
    Calls Tryz.prog 68 #[v, .func (.func 69) #[] #[]] w fun e w' => ∃ u, e = .returned u ∧ w'.ownsRow w.heap.size 9 1 u l.length (strs l) ∧ Below w.heap.size w w' := by
  have hq1 := eql_none
  have hq2 := eql_some
  obtain ⟨i0, hii, iz0, iz1, iz2⟩ := info_parts stringInfo
  obtain ⟨ao, c, rfl, hc⟩ := hv
  have HC := Lib.hid hc
  clear hc
  cases ao with
  | none =>
    have h0 : l = [] := by
      cases l with
      | nil => rfl
      | cons x r => obtain ⟨g, h, _⟩ := HC.out 0 x rfl; cases h
    subst h0
    go_enter Tryz.func68, Tryz.ntmps68
    go_wp2_with fail
    go_ret
    exact ⟨_, rfl, World.ownsRow_nil _ _ _ _, Below.refl _ _⟩
  | some a =>
    go_enter Tryz.func68, Tryz.ntmps68
    go_wp2_with (refine wpList_make_full _ rfl _ _ 22 rfl w.heap.size 9 i0 (.string ByteArray.empty) 1 Tryz.underlying22 hii iz0 iz1 .i64 .i64 _ _ l.length rfl rfl rfl rfl (by rw [iz2]; omega) (by unfold maxLen; omega) (Nat.le_refl _) ?_; intro w1 hown hgrow)
    have hown0 : w1.ownsRow w.heap.size 9 1 (.slice (some ⟨w.heap.size, 0, none⟩) l.length l.length) l.length (copyK l 0) := by
      rw [copyK_zero]
      have e : (madeCells (Value.string ByteArray.empty).cells (l.length * 1)).toList = List.replicate l.length (.string ByteArray.empty) := by
        rw [Nat.mul_one]
        exact toList_madeCells_one _ _
      rw [← e]
      exact hown
    have hb1 : Below w.heap.size w w1 := (Below.refl _ w).grown hgrow (Nat.le_refl _) (fun _ h => by cases h)
    clear hown hgrow
    go_loopw [15] (fun i wr => ∃ k : Nat, k ≤ l.length ∧ i = .int .i64 (k : Int) ∧ wr.ownsRow w.heap.size 9 1 (.slice (some ⟨w.heap.size, 0, none⟩) l.length l.length) l.length (copyK l k) ∧ Below w.heap.size w wr) (fun i _ => l.length - (intOf i).toNat)
    case atStart => exact ⟨0, Nat.zero_le _, rfl, hown0, hb1⟩
    case round =>
      obtain ⟨k, hk, rfl, hown, hB⟩ := hrel
      by_cases hlt : k < l.length
      · have hki : (k : Int) < (l.length : Int) := by omega
        have hk0 : (0 : Int) ≤ (k : Int) := by omega
        obtain ⟨x, hx⟩ : ∃ x, l[k]? = some x := ⟨_, List.getElem?_eq_getElem hlt⟩
        obtain ⟨g, hg, hcx⟩ := HC.out k x hx
        cases hg
        have c1 := (hB.cell (p := ⟨g, k, none⟩) (lt_of_cellF hcx)).trans hcx
        have c2 := hown.cellAt k (by omega)
        have hkl := copyK_len l hk
        rw [List.getElem?_eq_getElem (by omega)] at c2
        have c3 := hown.frozenAt k
        have CT := Lib.hid (fun w5 => copyText_own x w5)
        have HX := Lib.hid hx
        have HO := Lib.hid hown
        have HBr := Lib.hid hB
        generalize (copyK l k)[k] = old at *
        clear hx hcx hown0 hb1 hown hB
        go_wp2_with (go_at_call 69; (with_reducible refine (CT.out _).mono ?_); rintro e w5 ⟨rfl, rfl⟩)
        go_roundw
        case rel =>
          have h1 := (HO.out.stored k (.string x)).1
          rw [copyK_set l HX.out] at h1
          exact ⟨k + 1, by omega, by go_num, h1, HBr.out.setCell (p := ⟨w.heap.size, k, none⟩) (Nat.le_refl _) _⟩
        case measure => simp [intOf]; omega
      · obtain rfl : k = l.length := by omega
        have hki : ¬ (l.length : Int) < (l.length : Int) := by omega
        rw [copyK_all] at hown
        go_wp2_with fail
        go_ret
        exact ⟨_, rfl, hown, hB⟩

theorem extSizeM : (Tryz.prog.info? 55).map (·.size) = some 2 := by kernel_rfl
theorem extInfoM : (Tryz.prog.info? 55).map (fun i => (i.zero, i.size, i.bytes)) = some (some (.agg #[.string ByteArray.empty, .slice none 0 0]), 2, 40) := by kernel_rfl

theorem cells2_after {W : World} {B : Nat} {a b x y : Value} (h0 : W.cell? ⟨B, 0, none⟩ = some a) (h1 : W.cell? ⟨B, 1, none⟩ = some b) :
    ((W.setCell ⟨B + 1, 0, none⟩ x).setCell ⟨B + 1, 1, none⟩ y).cell? ⟨B, 0, none⟩ = some a ∧ ((W.setCell ⟨B + 1, 0, none⟩ x).setCell ⟨B + 1, 1, none⟩ y).cell? ⟨B, 1, none⟩ = some b := by
  have ne : ∀ o, ((W.setCell ⟨B + 1, 0, none⟩ x).setCell ⟨B + 1, 1, none⟩ y).cell? ⟨B, o, none⟩ = W.cell? ⟨B, o, none⟩ := fun o =>
    World.cell?_of_block (a := ⟨B, o, none⟩) ((Below.heap_setCell _ _ _ _ (by show B ≠ B + 1; omega)).trans (Below.heap_setCell _ _ _ _ (by show B ≠ B + 1; omega)))
  exact ⟨(ne 0).trans h0, (ne 1).trans h1⟩
set_option maxRecDepth 100000 in
set_option maxHeartbeats 2000000 in
theorem copyExt_own (k : ByteArray) (u : Value) (l : List ByteArray) (w : World) (hu : Row w u l) (hl : l.length ≤ 100000) :
    Calls Tryz.prog 71 #[.agg #[.string k, u]] w fun e w' => ∃ u', e = .returned (.agg #[.string k, u']) ∧ w'.ownsRow w.heap.size 9 1 u' l.length (strs l) ∧ Below w.heap.size w w' := by
  obtain ⟨W0, hW0⟩ : ∃ W0, (w.alloc (.cells #[.string k, u] 55)).alloc (.cells #[.string ⟨#[]⟩, .slice none 0 0] 55) = W0 := ⟨_, rfl⟩
  have hb0 : Below w.heap.size w W0 := by rw [← hW0]; exact ((Below.refl _ w).alloc (Nat.le_refl _) _).alloc (by simp) _
  have hA : W0.heap[w.heap.size]? = some (.cells #[.string k, u] 55 (0, 0)) := by rw [← hW0]; exact (Below.heap_alloc _ _ _ (by simp)).trans (World.alloc_heap_new w _)
  have hR : W0.heap[w.heap.size + 1]? = some (.cells #[.string ByteArray.empty, .slice none 0 0] 55 (0, 0)) := by rw [← hW0]; exact heap_alloc2_new w _ _
  have hz0 : W0.heap.size = w.heap.size + 2 := by rw [← hW0]; simp
  have hbd : Below W0.heap.size W0 W0.drew := Below.drew (Below.refl _ _)
  have CR := Lib.hid (copyRow_own u l W0.drew ((hu.below hb0).below hbd) hl)
  obtain ⟨ao, c, rfl, -⟩ := hu
  have d0 : W0.drew.cell? ⟨w.heap.size, 0, none⟩ = some (.string k) := by show W0.cell? _ = _; simp [World.cell?, hA]
  have d1 : W0.drew.cell? ⟨w.heap.size, 1, none⟩ = some (.slice ao l.length c) := by show W0.cell? _ = _; simp [World.cell?, hA]
  have HR := Lib.hid hR
  have HA := Lib.hid hA
  have HZ := Lib.hid hz0
  have HB0 := Lib.hid hb0
  clear hA hR hz0 hb0
  go_enter Tryz.func71, Tryz.ntmps71
  go_upto_region 1 with fail
  clear hW0
  go_region_held3 (fun w' => w'.cell? ⟨w.heap.size, 0, none⟩ = some (.string k) ∧ w'.cell? ⟨w.heap.size, 1, none⟩ = some (.slice ao l.length c))
    (first | exact ⟨by assumption, by assumption⟩ | exact ⟨e5, e6⟩ | exact cells2_after ‹_› ‹_›)
    (first
      | (go_at_call 68; (with_reducible refine CR.out.mono ?_); rintro e w5 ⟨u', rfl, ho5, hb5⟩; have hR5 := (hb5.block (w.heap.size + 1) (by have := HZ.out; simp; omega)).trans HR.out; have hA5 := (hb5.block w.heap.size (by have := HZ.out; simp; omega)).trans HA.out; have e5 := cell_row2 0 hA5 rfl; have e6 := cell_row2 1 hA5 rfl; have f5 := cell_row2 0 hR5 rfl; have f6 := cell_row2 1 hR5 rfl; have g5 := cells_frozen 0 hR5; have g6 := cells_frozen 1 hR5; obtain ⟨ua, un, uc, rfl⟩ := own_slice ho5; have HO5 := Lib.hid ho5; have HB5 := Lib.hid hb5; have HR5 := Lib.hid hR5; clear ho5 hb5 hR5 hA5))
  go_wp2_with fail
  have hk1 := cells_set (cells_set (k := 0) HR5.out (.string k)) (k := 1) (.slice ua un uc)
  refine bodyPost_ret (results_cell_row rfl _ _ (w.heap.size + 1) 55 _ (0, 0) _ rfl hk1 Tryz.underlying55 rfl extSizeM) rfl ?_
  have g1 := grown_setF (grown_setF (World.grownBy.refl w5 (some (w.heap.size + 1))) 0 (.string k)) 1 (.slice ua un uc)
  have hne : (Value.slice ua un uc).ownBlock = none ∨ (Value.slice ua un uc).ownBlock ≠ some (w.heap.size + 1) := by
    cases hu' : (Value.slice ua un uc).ownBlock with
    | none => exact .inl rfl
    | some g => exact .inr (fun e => by cases e; have := (HO5.out.lt _ hu').1; have := HZ.out; simp at *; omega)
  refine ⟨_, rfl, ownsRow_base (HO5.out.kept g1 hne) (by have := HZ.out; simp; omega), ?_⟩
  exact ((HB0.out.trans ((Below.drew (Below.refl _ _) : Below W0.heap.size W0 W0.drew).mono (by have := HZ.out; omega))).trans (HB5.out.mono (by have := HZ.out; simp; omega))).grown g1 (by have := HB5.out.size; have := HZ.out; simp at *; omega) (fun g hg => by cases hg; omega)

/-- A row of extensions that is copied so far. -/
theorem ext_set {L : List (ByteArray × List ByteArray)} {us rest : List Value} {k : Nat} {x : ByteArray × List ByteArray} {u : Value} (hk : us.length = k) (hx : L[k]? = some x) (hr : rest.length = (L.length - k) * 2) :
    ∃ rest', rest'.length = (L.length - (k + 1)) * 2 ∧ ((extCells (L.take k) us ++ rest).set (k * 2) (.string x.1)).set (k * 2 + 1) u = extCells (L.take (k + 1)) (us ++ [u]) ++ rest' := by
  have hl : k < L.length := (List.getElem?_eq_some_iff.1 hx).1
  have h1 : (L.take k).length = k := by rw [List.length_take]; omega
  have h2 : (extCells (L.take k) us).length = k * 2 := by rw [extCells_length (by omega), h1]
  obtain ⟨r0, r1, r, rfl⟩ : ∃ r0 r1 r, rest = r0 :: r1 :: r := by
    match rest, hr with
    | [], h => simp at h; omega
    | [_], h => simp at h; omega
    | r0 :: r1 :: r, _ => exact ⟨r0, r1, r, rfl⟩
  refine ⟨r, by simp at hr; omega, ?_⟩
  rw [List.set_append_right _ _ (by omega), h2, Nat.sub_self, List.set_append_right _ _ (by omega), h2, show k * 2 + 1 - k * 2 = 1 by omega]
  have e : extCells (L.take (k + 1)) (us ++ [u]) = extCells (L.take k) us ++ [.string x.1, u] := by
    rw [take_next hx]
    unfold extCells
    rw [List.zip_append (by omega), List.flatMap_append]
    rfl
  rw [e, List.append_assoc]
  rfl
theorem eqlx_none (n c : Nat) (w : World) : (binOp .eql 23 (.slice none n c) (.slice none 0 0)).run Tryz.prog w = .ok (.bool true) w := by kernel_rfl
theorem eqlx_some (a : Addr) (n c : Nat) (w : World) : (binOp .eql 23 (.slice (some a) n c) (.slice none 0 0)).run Tryz.prog w = .ok (.bool false) w := by kernel_rfl

set_option maxRecDepth 100000 in
set_option maxHeartbeats 4000000 in
theorem copyRowX_own (v : Value) (l : List (ByteArray × List ByteArray)) (w : World) (hv : ExtRow w v l) (hl : l.length ≤ 100) (hs : ∀ x ∈ l, x.2.length ≤ 100) :
    Calls Tryz.prog 70 #[v, .func (.func 71) #[] #[]] w fun e w' => ∃ u, e = .returned u ∧ ExtO w' w.heap.size u l ∧ Below w.heap.size w w' := by
  have hq1 := eqlx_none
  have hq2 := eqlx_some
  obtain ⟨i0, hii, iz0, iz1, iz2⟩ := info_parts extInfoM
  obtain ⟨ao, c, rfl, hc⟩ := hv
  have HC := Lib.hid hc
  clear hc
  cases ao with
  | none =>
    have h0 : l = [] := by
      cases l with
      | nil => rfl
      | cons x r => obtain ⟨g, vs, h, _⟩ := HC.out 0 x rfl; cases h
    subst h0
    go_enter Tryz.func70, Tryz.ntmps70
    go_wp2_with fail
    go_ret
    exact ⟨_, rfl, ExtO.nil _ _, Below.refl _ _⟩
  | some a =>
    have HSL := Lib.hid hs
    clear hs
    go_enter Tryz.func70, Tryz.ntmps70
    go_wp2_with (refine wpList_make_full _ rfl _ _ 23 rfl w.heap.size 55 i0 (.agg #[.string ByteArray.empty, .slice none 0 0]) 2 Tryz.underlying23 hii iz0 iz1 .i64 .i64 _ _ l.length rfl rfl rfl rfl (by rw [iz2]; omega) (by unfold maxLen; omega) (Nat.le_refl _) ?_; intro w1 hown hgrow)
    have hb1 : Below w.heap.size w w1 := (Below.refl _ w).grown hgrow (Nat.le_refl _) (fun _ h => by cases h)
    obtain ⟨R0, hR0, hown0⟩ : ∃ R0 : List Value, R0.length = (l.length - 0) * 2 ∧ w1.ownsRow w.heap.size 55 2 (.slice (some ⟨w.heap.size, 0, none⟩) l.length l.length) l.length (extCells (l.take 0) [] ++ R0) := ⟨_, hown.1, hown⟩
    clear hown hgrow
    go_loopw [15] (fun i wr => ∃ (k : Nat) (us rest : List Value), k ≤ l.length ∧ i = .int .i64 (k : Int) ∧ us.length = k ∧ rest.length = (l.length - k) * 2 ∧ wr.ownsRow w.heap.size 55 2 (.slice (some ⟨w.heap.size, 0, none⟩) l.length l.length) l.length (extCells (l.take k) us ++ rest) ∧
        (∀ (i : Nat) (u : Value) (x : ByteArray × List ByteArray), us[i]? = some u → l[i]? = some x → wr.ownsRow w.heap.size 9 1 u x.2.length (strs x.2)) ∧ Below w.heap.size w wr) (fun i _ => l.length - (intOf i).toNat)
    case atStart => exact ⟨0, [], R0, Nat.zero_le _, rfl, rfl, hR0, hown0, fun i u x h => by simp at h, hb1⟩
    case round =>
      obtain ⟨k, us, rest, hk, rfl, hus, hrest, hown, hsub, hB⟩ := hrel
      by_cases hlt : k < l.length
      · have hki : (k : Int) < (l.length : Int) := by omega
        have hk0 : (0 : Int) ≤ (k : Int) := by omega
        obtain ⟨x, hx⟩ : ∃ x, l[k]? = some x := ⟨_, List.getElem?_eq_getElem hlt⟩
        obtain ⟨g, vs, hg, hcx, hcy, hrow⟩ := HC.out k x hx
        cases hg
        have c1 := (hB.cell (p := ⟨g, k * 2, none⟩) (lt_of_cellF hcx)).trans hcx
        have c2 := (hB.cell (p := ⟨g, k * 2 + 1, none⟩) (lt_of_cellF hcy)).trans hcy
        have hxl := HSL.out x (List.mem_of_getElem? hx)
        obtain ⟨W5, hW5⟩ : ∃ W5, wr.alloc (.cells #[.string x.1, vs] 55) = W5 := ⟨_, rfl⟩
        have hB5 : Below w.heap.size w W5 := by rw [← hW5]; exact hB.alloc hB.size _
        have hX5 : W5.heap[wr.heap.size]? = some (.cells #[.string x.1, vs] 55 (0, 0)) := by rw [← hW5]; exact World.alloc_heap_new wr _
        have hown5 : W5.ownsRow w.heap.size 55 2 (.slice (some ⟨w.heap.size, 0, none⟩) l.length l.length) l.length (extCells (l.take k) us ++ rest) := by rw [← hW5]; exact hown.alloc _
        have hsub5 : ∀ (i : Nat) (u : Value) (x : ByteArray × List ByteArray), us[i]? = some u → l[i]? = some x → W5.ownsRow w.heap.size 9 1 u x.2.length (strs x.2) := by rw [← hW5]; exact fun i u y h1 h2 => (hsub i u y h1 h2).alloc _
        have CE := Lib.hid (copyExt_own x.1 vs x.2 W5 (hrow.below (hB5.mono (Nat.le_refl _))) (by omega))
        have HX := Lib.hid hx
        have HO := Lib.hid hown5
        have HSUB := Lib.hid hsub5
        have HB5 := Lib.hid hB5
        have HX5 := Lib.hid hX5
        obtain ⟨va, vc, rfl, -⟩ := hrow
        have q1 := cell_row2 0 hX5 rfl
        have q2 := cell_row2 1 hX5 rfl
        clear hx hcx hcy hown hsub hB hown5 hsub5 hB5 hX5 hown0 hR0 hb1
        go_wp2_with fail
        clear hW5
        refine CE.out.mono ?_
        rintro e w6 ⟨u', rfl, ho6, hb6⟩
        have hS5 : wr.heap.size < W5.heap.size := lt_of_heap HX5.out
        have hown6 := ownsRow_belowF HO.out hb6
        have hsub6 := fun i u y h1 h2 => ownsRow_belowF (HSUB.out i u y h1 h2) hb6
        have hu6 := ownsRow_base ho6 (Nat.le_trans (by have := HO.out.lt w.heap.size rfl; omega) (Nat.le_refl _) : w.heap.size ≤ W5.heap.size)
        have hlx : (extCells (l.take k) us).length = k * 2 := by rw [extCells_length (by rw [List.length_take]; omega), List.length_take]; omega
        have s1 := hown6.cellAt (k * 2) (by omega)
        have s2 := hown6.cellAt (k * 2 + 1) (by omega)
        obtain ⟨o1, ho1⟩ : ∃ o1, (extCells (l.take k) us ++ rest)[k * 2]? = some o1 := ⟨_, List.getElem?_eq_getElem (by rw [List.length_append]; omega)⟩
        obtain ⟨o2, ho2⟩ : ∃ o2, (extCells (l.take k) us ++ rest)[k * 2 + 1]? = some o2 := ⟨_, List.getElem?_eq_getElem (by rw [List.length_append]; omega)⟩
        rw [ho1] at s1
        rw [ho2] at s2
        clear ho1 ho2
        have s3 := hown6.frozenAt (k * 2)
        have s4 := hown6.frozenAt (k * 2 + 1)
        obtain ⟨rest', hr', HE'⟩ := ext_set hus HX.out (u := u') hrest
        have t1 := (hown6.stored (k * 2) (.string x.1))
        have t2 := (t1.1.stored (k * 2 + 1) u')
        rw [HE'] at t2
        have hg12 := t1.2.trans t2.2
        have HT2 := Lib.hid t2.1
        have HU6 := Lib.hid (hu6.kept hg12 (own_types_ne hu6 hown6 (by decide)))
        have HS6 := Lib.hid (fun i u y h1 h2 => (hsub6 i u y h1 h2).kept hg12 (own_types_ne (hsub6 i u y h1 h2) hown6 (by decide)))
        have HB7 := Lib.hid ((HB5.out.trans (hb6.mono HB5.out.size)).grown hg12 (Nat.le_trans HB5.out.size hb6.size) (fun g hg => by cases hg; exact Nat.le_refl _))
        clear hown6 hsub6 hu6 t1 t2 hg12 HE' ho6 hb6 q1 q2
        obtain ⟨ua, un, uc, rfl⟩ := own_slice HU6.out
        go_wp2_with fail
        go_roundw
        case rel =>
          refine ⟨k + 1, us ++ [.slice ua un uc], rest', by omega, by go_num, by simp [hus], hr', HT2.out, fun i u y h1 h2 => ?_, HB7.out⟩
          rcases Nat.lt_or_ge i us.length with hi | hi
          · rw [List.getElem?_append_left hi] at h1
            exact HS6.out i u y h1 h2
          · rw [List.getElem?_append_right hi] at h1
            have hi0 : i - us.length = 0 := by
              rcases Nat.eq_zero_or_pos (i - us.length) with h0 | h0
              · exact h0
              · rw [List.getElem?_eq_none (by simp; omega)] at h1; cases h1
            rw [hi0] at h1
            have hik : i = k := by omega
            subst hik
            rw [HX.out] at h2
            cases h2
            simp at h1
            subst h1
            exact HU6.out
        case measure => simp [intOf]; omega
      · obtain rfl : k = l.length := by omega
        have hki : ¬ (l.length : Int) < (l.length : Int) := by omega
        obtain rfl : rest = [] := List.eq_nil_of_length_eq_zero (by omega)
        rw [List.take_of_length_le (Nat.le_refl _), List.append_nil] at hown
        go_wp2_with fail
        go_ret
        exact ⟨_, rfl, ⟨us, hus, hown, hsub⟩, hB⟩

/-- A tag with rows that the call has made. -/
structure CloneIs (w : World) (base : Nat) (ve vv vx vp : Value) (T : TagM) : Prop where
  e : w.ownsRow base 9 1 ve T.extl.length (strs T.extl)
  v : w.ownsRow base 9 1 vv T.vars.length (strs T.vars)
  x : ExtO w base vx T.exts
  p : w.ownsRow base 9 1 vp T.priv.length (strs T.priv)

set_option maxRecDepth 100000 in
set_option maxHeartbeats 4000000 in
theorem clone_own (v : Value) (T : TagM) (w : World) (hT : TagIs w v T) (hF : TagFits T) :
    Calls Tryz.prog 19 #[v] w fun e w' => ∃ ve vv vx vp, e = .returned (.agg #[.string T.lang, ve, .string T.script, .string T.region, vv, vx, vp, .string T.grand]) ∧ CloneIs w' w.heap.size ve vv vx vp T ∧ Below w.heap.size w w' := by
  obtain ⟨F1, F2, F3, F4, F5, F6⟩ := hF
  obtain ⟨ve, vv, vx, vp, rfl, R1, R2, R3, R4⟩ := hT
  obtain ⟨W0, hW0⟩ : ∃ W0, (w.alloc (.cells #[.string T.lang, ve, .string T.script, .string T.region, vv, vx, vp, .string T.grand] 25)).alloc (.cells #[.string ⟨#[]⟩, .slice none 0 0, .string ⟨#[]⟩, .string ⟨#[]⟩, .slice none 0 0, .slice none 0 0, .slice none 0 0, .string ⟨#[]⟩] 25) = W0 := ⟨_, rfl⟩
  have hb0 : Below w.heap.size w W0 := by rw [← hW0]; exact ((Below.refl _ w).alloc (Nat.le_refl _) _).alloc (by simp) _
  have hz0 : W0.heap.size = w.heap.size + 2 := by rw [← hW0]; simp
  have hA0 : W0.heap[w.heap.size]? = some (.cells #[.string T.lang, ve, .string T.script, .string T.region, vv, vx, vp, .string T.grand] 25 (0, 0)) := by rw [← hW0]; exact (Below.heap_alloc _ _ _ (by simp)).trans (World.alloc_heap_new w _)
  have hR0 : W0.heap[w.heap.size + 1]? = some (.cells #[.string ⟨#[]⟩, .slice none 0 0, .string ⟨#[]⟩, .string ⟨#[]⟩, .slice none 0 0, .slice none 0 0, .slice none 0 0, .string ⟨#[]⟩] 25 (0, 0)) := by rw [← hW0]; exact heap_alloc2_new w _ _
  have C1 := Lib.hid (fun w5 (hb : Below w.heap.size w w5) => copyRow_own ve T.extl w5 (R1.below hb) (by omega))
  have C2 := Lib.hid (fun w5 (hb : Below w.heap.size w w5) => copyRow_own vv T.vars w5 (R2.below hb) (by omega))
  have C3 := Lib.hid (fun w5 (hb : Below w.heap.size w w5) => copyRowX_own vx T.exts w5 (R3.below hb) F3 F4)
  have C4 := Lib.hid (fun w5 (hb : Below w.heap.size w w5) => copyRow_own vp T.priv w5 (R4.below hb) (by omega))
  obtain ⟨a1, p1, rfl, -⟩ := R1
  obtain ⟨a2, p2, rfl, -⟩ := R2
  obtain ⟨a3, p3, rfl, -⟩ := R3
  obtain ⟨a4, p4, rfl, -⟩ := R4
  have HZ := Lib.hid hz0
  have HB0 := Lib.hid hb0
  have HR0 := Lib.hid hR0
  have HA0 := Lib.hid hA0
  obtain ⟨q0, q1, q2, q3, q4, q5, q6, q7⟩ := tag_cells hA0
  clear hz0 hb0 hR0 hA0 F1 F2 F3 F4 F5 F6
  go_enter Tryz.func19, Tryz.ntmps19
  go_upto_region 1 with fail
  clear hW0
  -- Extlang
  go_wp2_with fail
  refine (C1.out _ HB0.out).mono ?_
  rintro e w1 ⟨u1, rfl, ho1, hb1⟩
  have hA1 := (hb1.block w.heap.size (by have := HZ.out; omega)).trans HA0.out
  have hR1 := (hb1.block (w.heap.size + 1) (by have := HZ.out; omega)).trans HR0.out
  have hc1 := cell_row2 1 hA1 rfl
  have hf1 := cells_frozen 1 hA1
  obtain ⟨W1, hW1⟩ : ∃ W1, w1.setCell ⟨w.heap.size, 1, none⟩ u1 = W1 := ⟨_, rfl⟩
  have hA1' : W1.heap[w.heap.size]? = some (.cells #[.string T.lang, u1, .string T.script, .string T.region, .slice a2 T.vars.length p2, .slice a3 T.exts.length p3, .slice a4 T.priv.length p4, .string T.grand] 25 (0, 0)) := by rw [← hW1]; exact cells_set hA1 u1
  have hR1' := (Below.heap_setCell w1 ⟨w.heap.size, 1, none⟩ u1 (w.heap.size + 1) (by show w.heap.size + 1 ≠ w.heap.size; omega)).trans hR1
  rw [hW1] at hR1'
  have hg1 : w1.grownBy W1 (some w.heap.size) := by rw [← hW1]; exact grown_setF (World.grownBy.refl w1 (some w.heap.size)) 1 u1
  have hB1 : Below w.heap.size w W1 := (HB0.out.trans (hb1.mono HB0.out.size)).grown hg1 (Nat.le_trans HB0.out.size hb1.size) (fun g hg => by cases hg; exact Nat.le_refl _)
  have hO1 : W1.ownsRow (w.heap.size + 2) 9 1 u1 T.extl.length (strs T.extl) := by
    rw [← HZ.out]
    refine ho1.kept hg1 ?_
    cases hu : u1.ownBlock with
    | none => exact .inl rfl
    | some g => exact .inr (fun e => by cases e; have := (ho1.lt _ hu).1; have := HZ.out; omega)
  have hz1 : w.heap.size + 2 ≤ W1.heap.size := by have := hb1.size; have := hg1.size; have := HZ.out; omega
  obtain ⟨ua1, un1, uc1, rfl⟩ := own_slice hO1
  have HA1 := Lib.hid hA1'
  have HR1 := Lib.hid hR1'
  have HB1 := Lib.hid hB1
  have HO1 := Lib.hid hO1
  have HZ1 := Lib.hid hz1
  clear hA1 hR1 hA1' hR1' hg1 hB1 hO1 hz1 ho1 hb1 q0 q1 q2 q3 q4 q5 q6 q7
  obtain ⟨q0, q1, q2, q3, q4, q5, q6, q7⟩ := tag_cells HA1.out
  go_wp2_with fail
  clear hc1 hf1 hW1
  -- Variants
  refine (C2.out _ HB1.out).mono ?_
  rintro e w2 ⟨u2, rfl, ho2, hb2⟩
  have hA2 := (hb2.block w.heap.size (by have := HZ1.out; omega)).trans HA1.out
  have hR2 := (hb2.block (w.heap.size + 1) (by have := HZ1.out; omega)).trans HR1.out
  have hc2 := cell_row2 4 hA2 rfl
  have hf2 := cells_frozen 4 hA2
  obtain ⟨W2, hW2⟩ : ∃ W2, w2.setCell ⟨w.heap.size, 4, none⟩ u2 = W2 := ⟨_, rfl⟩
  have hA2' : W2.heap[w.heap.size]? = some (.cells #[.string T.lang, .slice ua1 un1 uc1, .string T.script, .string T.region, u2, .slice a3 T.exts.length p3, .slice a4 T.priv.length p4, .string T.grand] 25 (0, 0)) := by rw [← hW2]; exact cells_set hA2 u2
  have hR2' := (Below.heap_setCell w2 ⟨w.heap.size, 4, none⟩ u2 (w.heap.size + 1) (by show w.heap.size + 1 ≠ w.heap.size; omega)).trans hR2
  rw [hW2] at hR2'
  have hg2 : w2.grownBy W2 (some w.heap.size) := by rw [← hW2]; exact grown_setF (World.grownBy.refl w2 (some w.heap.size)) 4 u2
  have hB2 : Below w.heap.size w W2 := (HB1.out.trans (hb2.mono HB1.out.size)).grown hg2 (Nat.le_trans HB1.out.size hb2.size) (fun g hg => by cases hg; exact Nat.le_refl _)
  have far : ∀ (e : TypeId) (s n : Nat) (u : Value) (xs : List Value) (wa wb : World), wa.ownsRow (w.heap.size + 2) e s u n xs → wa.grownBy wb (some w.heap.size) → wb.ownsRow (w.heap.size + 2) e s u n xs := fun e s n u xs wa wb ho hg => ho.kept hg (by
    cases hu : u.ownBlock with
    | none => exact .inl rfl
    | some g => exact .inr (fun e => by cases e; have := (ho.lt _ hu).1; omega))
  have hO2 : W2.ownsRow (w.heap.size + 2) 9 1 u2 T.vars.length (strs T.vars) := far _ _ _ _ _ _ _ (ownsRow_base ho2 HZ1.out) hg2
  have hO21 := far _ _ _ _ _ _ _ (ownsRow_belowF HO1.out hb2) hg2
  have hz2 : w.heap.size + 2 ≤ W2.heap.size := by have := hb2.size; have := hg2.size; have := HZ1.out; omega
  have FAR := Lib.hid far
  obtain ⟨ua2, un2, uc2, rfl⟩ := own_slice hO2
  have HA2 := Lib.hid hA2'
  have HR2 := Lib.hid hR2'
  have HB2 := Lib.hid hB2
  have HO2 := Lib.hid hO2
  have HO21 := Lib.hid hO21
  have HZ2 := Lib.hid hz2
  clear far hA2 hR2 hA2' hR2' hg2 hB2 hO2 hO21 hz2 ho2 hb2 q0 q1 q2 q3 q4 q5 q6 q7
  obtain ⟨q0, q1, q2, q3, q4, q5, q6, q7⟩ := tag_cells HA2.out
  go_wp2_with fail
  clear hc2 hf2 hW2
  -- Exts
  refine (C3.out _ HB2.out).mono ?_
  rintro e w3 ⟨u3, rfl, ho3, hb3⟩
  have hA3 := (hb3.block w.heap.size (by have := HZ2.out; omega)).trans HA2.out
  have hR3 := (hb3.block (w.heap.size + 1) (by have := HZ2.out; omega)).trans HR2.out
  have hc3 := cell_row2 5 hA3 rfl
  have hf3 := cells_frozen 5 hA3
  obtain ⟨W3, hW3⟩ : ∃ W3, w3.setCell ⟨w.heap.size, 5, none⟩ u3 = W3 := ⟨_, rfl⟩
  have hA3' : W3.heap[w.heap.size]? = some (.cells #[.string T.lang, .slice ua1 un1 uc1, .string T.script, .string T.region, .slice ua2 un2 uc2, u3, .slice a4 T.priv.length p4, .string T.grand] 25 (0, 0)) := by rw [← hW3]; exact cells_set hA3 u3
  have hR3' := (Below.heap_setCell w3 ⟨w.heap.size, 5, none⟩ u3 (w.heap.size + 1) (by show w.heap.size + 1 ≠ w.heap.size; omega)).trans hR3
  rw [hW3] at hR3'
  have hg3 : w3.grownBy W3 (some w.heap.size) := by rw [← hW3]; exact grown_setF (World.grownBy.refl w3 (some w.heap.size)) 5 u3
  have hB3 : Below w.heap.size w W3 := (HB2.out.trans (hb3.mono HB2.out.size)).grown hg3 (Nat.le_trans HB2.out.size hb3.size) (fun g hg => by cases hg; exact Nat.le_refl _)
  have hO3 : ExtO W3 (w.heap.size + 2) u3 T.exts := by
    obtain ⟨us, h1, h2, h3⟩ := ho3
    exact ⟨us, h1, FAR.out _ _ _ _ _ _ _ (ownsRow_base h2 HZ2.out) hg3, fun i u x hu hx => FAR.out _ _ _ _ _ _ _ (ownsRow_base (h3 i u x hu hx) HZ2.out) hg3⟩
  have hO31 := FAR.out _ _ _ _ _ _ _ (ownsRow_belowF HO21.out hb3) hg3
  have hO32 := FAR.out _ _ _ _ _ _ _ (ownsRow_belowF HO2.out hb3) hg3
  have hz3 : w.heap.size + 2 ≤ W3.heap.size := by have := hb3.size; have := hg3.size; have := HZ2.out; omega
  obtain ⟨ua3, un3, uc3, rfl⟩ := ext_slice hO3
  have HA3 := Lib.hid hA3'
  have HR3 := Lib.hid hR3'
  have HB3 := Lib.hid hB3
  have HO3 := Lib.hid hO3
  have HO31 := Lib.hid hO31
  have HO32 := Lib.hid hO32
  have HZ3 := Lib.hid hz3
  clear hA3 hR3 hA3' hR3' hg3 hB3 hO3 hO31 hO32 hz3 ho3 hb3 q0 q1 q2 q3 q4 q5 q6 q7
  obtain ⟨q0, q1, q2, q3, q4, q5, q6, q7⟩ := tag_cells HA3.out
  go_wp2_with fail
  clear hc3 hf3 hW3
  -- Private
  refine (C4.out _ HB3.out).mono ?_
  rintro e w4 ⟨u4, rfl, ho4, hb4⟩
  have hA4 := (hb4.block w.heap.size (by have := HZ3.out; omega)).trans HA3.out
  have hR4 := (hb4.block (w.heap.size + 1) (by have := HZ3.out; omega)).trans HR3.out
  have hc4 := cell_row2 6 hA4 rfl
  have hf4 := cells_frozen 6 hA4
  obtain ⟨W4, hW4⟩ : ∃ W4, w4.setCell ⟨w.heap.size, 6, none⟩ u4 = W4 := ⟨_, rfl⟩
  have hA4' : W4.heap[w.heap.size]? = some (.cells #[.string T.lang, .slice ua1 un1 uc1, .string T.script, .string T.region, .slice ua2 un2 uc2, .slice ua3 un3 uc3, u4, .string T.grand] 25 (0, 0)) := by rw [← hW4]; exact cells_set hA4 u4
  have hR4' := (Below.heap_setCell w4 ⟨w.heap.size, 6, none⟩ u4 (w.heap.size + 1) (by show w.heap.size + 1 ≠ w.heap.size; omega)).trans hR4
  rw [hW4] at hR4'
  have hg4 : w4.grownBy W4 (some w.heap.size) := by rw [← hW4]; exact grown_setF (World.grownBy.refl w4 (some w.heap.size)) 6 u4
  have hB4 : Below w.heap.size w W4 := (HB3.out.trans (hb4.mono HB3.out.size)).grown hg4 (Nat.le_trans HB3.out.size hb4.size) (fun g hg => by cases hg; exact Nat.le_refl _)
  have hO4 := FAR.out _ _ _ _ _ _ _ (ownsRow_base ho4 HZ3.out) hg4
  have hO41 := FAR.out _ _ _ _ _ _ _ (ownsRow_belowF HO31.out hb4) hg4
  have hO42 := FAR.out _ _ _ _ _ _ _ (ownsRow_belowF HO32.out hb4) hg4
  have hO43 : ExtO W4 (w.heap.size + 2) (.slice ua3 un3 uc3) T.exts := by
    obtain ⟨us, h1, h2, h3⟩ := HO3.out
    exact ⟨us, h1, FAR.out _ _ _ _ _ _ _ (ownsRow_belowF h2 hb4) hg4, fun i u x hu hx => FAR.out _ _ _ _ _ _ _ (ownsRow_belowF (h3 i u x hu hx) hb4) hg4⟩
  obtain ⟨ua4, un4, uc4, rfl⟩ := own_slice hO4
  obtain ⟨q0, q1, q2, q3, q4, q5, q6, q7⟩ := tag_cells hA4'
  obtain ⟨r0, r1, r2, r3, r4, r5, r6, r7⟩ := tag_cells hR4'
  have f0 := cells_frozen 0 hR4'
  have f1 := cells_frozen 1 hR4'
  have f2 := cells_frozen 2 hR4'
  have f3 := cells_frozen 3 hR4'
  have f4 := cells_frozen 4 hR4'
  have f5 := cells_frozen 5 hR4'
  have f6 := cells_frozen 6 hR4'
  have f7 := cells_frozen 7 hR4'
  obtain ⟨hk1, hk2⟩ := tag_store hR4' (.string T.lang) (.slice ua1 un1 uc1) (.string T.script) (.string T.region) (.slice ua2 un2 uc2) (.slice ua3 un3 uc3) (.slice ua4 un4 uc4) (.string T.grand)
  have far2 : ∀ {e : TypeId} {s n : Nat} {u : Value} {xs : List Value} {wa wb : World}, wa.ownsRow (w.heap.size + 2) e s u n xs → wa.grownBy wb (some (w.heap.size + 1)) → wb.ownsRow w.heap.size e s u n xs := fun {e s n u xs wa wb} ho hg => ownsRow_base (ho.kept hg (by
    cases hu : u.ownBlock with
    | none => exact .inl rfl
    | some g => exact .inr (fun e => by cases e; have := (ho.lt _ hu).1; omega))) (by omega)
  have HK1 := Lib.hid hk1
  have HFIN := Lib.hid (CloneIs.mk (w := _) (T := T) (far2 hO41 hk2) (far2 hO42 hk2) (by
    obtain ⟨us, h1, h2, h3⟩ := hO43
    exact ⟨us, h1, far2 h2 hk2, fun i u x hu hx => far2 (h3 i u x hu hx) hk2⟩) (far2 hO4 hk2))
  have HB5 := Lib.hid (hB4.grown hk2 hB4.size (fun g hg => by cases hg; omega))
  clear hk1 hk2 far2 hA4 hR4 hA4' hR4' hg4 hB4 hO4 hO41 hO42 hO43 ho4 hb4
  go_wp2_with fail
  exact bodyPost_ret (results_cell_row rfl _ _ (w.heap.size + 1) 25 _ (0, 0) _ rfl HK1.out Tryz.underlying25 rfl tagSize) rfl ⟨_, _, _, _, rfl, HFIN.out, HB5.out⟩
end Go.Proofs.YtajdfckppnedjaaGreatDoor
