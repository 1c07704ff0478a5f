/-
  Package likely: slices.Clone at texts and at extensions.
-/
import Derived.Test.YthjfcfhibdpbnaaTOr
import Derived.Test.YthjfcfhibdpbnaaTLate
import Derived.Test.YthjfcfhibdpbnaaHExt
import Derived.Maps.AppendAt
namespace Go.Proofs.Ythjfcfhibdpbnaa
open Go Go.RowKit

set_option maxRecDepth 100000 in
theorem extInfoT : (Try.prog.info? 72).map (fun i => (i.zero, i.size, i.bytes)) = some (some (.agg #[.string ByteArray.empty, .slice none 0 0]), 2, 40) := by kernel_rfl
set_option maxRecDepth 100000 in
theorem eq_noneT (n c : Nat) (w : World) : (binOp .eql 37 (.slice none n c) (.slice none 0 0)).run Try.prog w = .ok (.bool true) w := by first | rfl | kernel_rfl
set_option maxRecDepth 100000 in
theorem eq_someT (a : Addr) (n c : Nat) (w : World) : (binOp .eql 37 (.slice (some a) n c) (.slice none 0 0)).run Try.prog w = .ok (.bool false) w := by first | rfl | kernel_rfl
set_option maxRecDepth 100000 in
theorem eqx_noneT (n c : Nat) (w : World) : (binOp .eql 38 (.slice none n c) (.slice none 0 0)).run Try.prog w = .ok (.bool true) w := by first | rfl | kernel_rfl
set_option maxRecDepth 100000 in
theorem eqx_someT (a : Addr) (n c : Nat) (w : World) : (binOp .eql 38 (.slice (some a) n c) (.slice none 0 0)).run Try.prog w = .ok (.bool false) w := by first | rfl | kernel_rfl
set_option maxRecDepth 100000 in
theorem wpList_build_noneT (w : World) {ops : Array Oper} {rest : List Oper} {o : Oper} {a : Act} {Q : Exit → Act → World → Prop} (hg : o.guard = none) (hop : o.op = Op.buildSlice 37 0 #[])
    (hK : wpList Try.prog ops Q rest (a.put o.dst (.slice (some ⟨w.heap.size, 0, none⟩) 0 0)) (w.alloc (.cells #[] 9))) : wpList Try.prog ops Q (o :: rest) a w := by
  refine wpList_plain hg fun K hK' => ?_
  unfold Oper.wp
  simp [execOp, hop, Result.andThen, go_sem]
  exact hK' _ _ hK
set_option maxRecDepth 100000 in
theorem wpList_build_noneX (w : World) {ops : Array Oper} {rest : List Oper} {o : Oper} {a : Act} {Q : Exit → Act → World → Prop} (hg : o.guard = none) (hop : o.op = Op.buildSlice 38 0 #[])
    (hK : wpList Try.prog ops Q rest (a.put o.dst (.slice (some ⟨w.heap.size, 0, none⟩) 0 0)) (w.alloc (.cells #[] 72))) : wpList Try.prog ops Q (o :: rest) a w := by
  refine wpList_plain hg fun K hK' => ?_
  unfold Oper.wp
  simp [execOp, hop, Result.andThen, go_sem]
  exact hK' _ _ hK

theorem addr_addT (g j : Nat) : (⟨g, 0, none⟩ : Addr).add j = ⟨g, j, none⟩ := by unfold Addr.add; split <;> simp_all
set_option maxRecDepth 100000 in
theorem clone_row (v : Value) (l : List ByteArray) (w : World) (hv : Row w v l) (hl : l.length ≤ 100000) :
    Calls Try.prog 56 #[v] w fun e w' => ∃ u, e = .returned u ∧ w'.ownsRow w.heap.size 9 1 u l.length (strs l) ∧ Below w.heap.size w w' := by
  obtain ⟨i0, hii, iz0, iz1, iz2⟩ := info_parts strInfoT
  have q1 := eq_noneT
  have q2 := eq_someT
  obtain ⟨ao, c, rfl, hc⟩ := hv
  cases ao with
  | none =>
    have h0 : l = [] := by
      cases l with
      | nil => rfl
      | cons x r => obtain ⟨g, h, _⟩ := hc 0 x rfl; cases h
    subst h0
    clear hc hl
    go_enter Try.func56, Try.ntmps56
    go_wp2_with fail
    go_ret
    exact ⟨_, rfl, World.ownsRow_nil _ _ _ _, Below.refl _ _⟩
  | some a =>
    have HC := Lib.hid (show ∀ j u, (strs l)[j]? = some u → (w.alloc (.cells #[] 9)).cell? (a.add j) = some u by
      intro j u hu
      unfold strs at hu
      rw [List.getElem?_map] at hu
      obtain ⟨x, hx, rfl⟩ := Option.map_eq_some_iff.1 hu
      obtain ⟨g, e, h2⟩ := hc j x hx
      cases e
      rw [addr_addT]
      exact (((Below.refl _ w).alloc (Nat.le_refl _) _).cell (p := ⟨g, j, none⟩) (lt_cellT h2)).trans h2)
    have HO := Lib.hid (World.ownsRow_made (e := 9) (size := 1) (base := w.heap.size) w #[] 0 (Nat.le_refl _) (by unfold maxLen; omega) rfl)
    have HB := Lib.hid ((Below.refl w.heap.size w).alloc (Nat.le_refl _) (.cells #[] 9))
    have HL := Lib.hid (strs_length l)
    clear hc
    go_enter Try.func56, Try.ntmps56
    go_wp2_with (first
      | (refine wpList_build_noneT _ rfl rfl ?_)
      | (refine wpList_append_own _ rfl _ _ 37 rfl w.heap.size 9 i0 (.string ByteArray.empty) 1 16 Try.underlying37 hii iz0 iz1 iz2 rfl (by decide) _ 0 [] rfl HO.out a l.length c (strs l) rfl (by rw [HL.out, Nat.mul_one]) HC.out (fun u hu => by unfold strs at hu; obtain ⟨_, _, rfl⟩ := List.mem_map.1 hu; rfl) (by unfold maxLen; omega) (by omega) HB.out.size ?_; intro v' w' hown hgrow hne))
    go_ret
    refine ⟨_, rfl, ?_, HB.out.grown hgrow HB.out.size (fun g hg => (HO.out.lt g hg).1)⟩
    rw [Nat.zero_add] at hown
    exact hown

/-! Rows of extensions. -/
theorem ext_get : ∀ {L : List (ByteArray × List ByteArray)} {us : List Value} {i : Nat} {x : ByteArray × List ByteArray} {v : Value}, L[i]? = some x → us[i]? = some v → (extCells L us)[i * 2]? = some (.string x.1) ∧ (extCells L us)[i * 2 + 1]? = some v
  | [], _, _, _, _, h, _ => by simp at h
  | _ :: _, [], _, _, _, _, h => by simp at h
  | a :: r, u :: us, 0, x, v, h1, h2 => by
    simp at h1 h2
    subst h1 h2
    exact ⟨rfl, rfl⟩
  | a :: r, u :: us, i + 1, x, v, h1, h2 => by
    have ih := ext_get (L := r) (us := us) (i := i) (x := x) (v := v) (by simpa using h1) (by simpa using h2)
    have e : extCells (a :: r) (u :: us) = .string a.1 :: u :: extCells r us := rfl
    rw [e, show (i + 1) * 2 = i * 2 + 1 + 1 by omega, show i * 2 + 1 + 1 + 1 = (i * 2 + 1) + 1 + 1 from rfl]
    exact ih
theorem ext_setT : ∀ {L : List (ByteArray × List ByteArray)} {us : List Value} (i : Nat) (u : Value), us.length = L.length → (extCells L us).set (i * 2 + 1) u = extCells L (us.set i u)
  | [], us, i, u, _ => by simp [extCells]
  | a :: r, [], _, _, h => by simp at h
  | a :: r, v :: us, 0, u, _ => rfl
  | a :: r, v :: us, i + 1, u, h => by
    have ih := ext_setT (L := r) (us := us) i u (by simpa using h)
    have e : ∀ y us, extCells (a :: r) (y :: us) = .string a.1 :: y :: extCells r us := fun _ _ => rfl
    rw [List.set_cons_succ, e, e, show (i + 1) * 2 + 1 = (i * 2 + 1) + 1 + 1 by omega, List.set_cons_succ, List.set_cons_succ, ih]
theorem ext_us {P : Nat → ByteArray × List ByteArray → Value → Prop} : ∀ {L : List (ByteArray × List ByteArray)}, (∀ i x, L[i]? = some x → ∃ v, P i x v) → ∃ us : List Value, us.length = L.length ∧ ∀ i x, L[i]? = some x → ∃ v, us[i]? = some v ∧ P i x v := by
  intro L
  induction L using snoc_indT with
  | h0 => exact fun _ => ⟨[], rfl, fun i x h => by simp at h⟩
  | h1 l a ih =>
    intro h
    obtain ⟨us, hl, hu⟩ := ih (fun i x hx => h i x (by rw [List.getElem?_append_left (List.getElem?_eq_some_iff.1 hx).1]; exact hx))
    obtain ⟨v, hv⟩ := h l.length a (by simp)
    refine ⟨us ++ [v], by simp [hl], fun i x hx => ?_⟩
    rcases Nat.lt_or_ge i l.length with h' | h'
    · rw [List.getElem?_append_left h'] at hx
      obtain ⟨u, h1, h2⟩ := hu i x hx
      exact ⟨u, by rw [List.getElem?_append_left (by omega)]; exact h1, h2⟩
    · have hi : i = l.length := by
        have := (List.getElem?_eq_some_iff.1 hx).1
        simp at this
        omega
      subst hi
      simp at hx
      subst hx
      exact ⟨v, by rw [← hl]; simp, hv⟩
theorem ext_all {L : List (ByteArray × List ByteArray)} {us : List Value} {f : Value → Bool} (h1 : ∀ x : ByteArray, f (.string x) = true) (h2 : ∀ u ∈ us, f u = true) : ∀ u ∈ extCells L us, f u = true := by
  intro u hu
  unfold extCells at hu
  obtain ⟨p, hp, h3⟩ := List.mem_flatMap.1 hu
  simp at h3
  rcases h3 with rfl | rfl
  · exact h1 _
  · exact h2 _ (List.of_mem_zip hp).2
/-- A new row of the same extensions, whose rows are what they were. -/
def ExtC (w0 w w' : World) (u : Value) (l : List (ByteArray × List ByteArray)) : Prop :=
  ∃ us : List Value, us.length = l.length ∧ w'.ownsRow w.heap.size 72 2 u l.length (extCells l us) ∧ ∀ (i : Nat) (x : ByteArray × List ByteArray), l[i]? = some x → ∃ z, us[i]? = some z ∧ Row w0 z x.2
set_option maxRecDepth 100000 in
theorem clone_ext (v : Value) (l : List (ByteArray × List ByteArray)) (w0 w : World) (hb : Below w0.heap.size w0 w) (hv : ExtRow w0 v l) (hl : l.length ≤ 100000) :
    Calls Try.prog 57 #[v] w fun e w' => ∃ u, e = .returned u ∧ ExtC w0 w w' u l ∧ Below w.heap.size w w' := by
  obtain ⟨i0, hii, iz0, iz1, iz2⟩ := info_parts extInfoT
  have q1 := eqx_noneT
  have q2 := eqx_someT
  obtain ⟨ao, c, rfl, hc⟩ := hv
  cases ao with
  | none =>
    have h0 : l = [] := by
      cases l with
      | nil => rfl
      | cons x r => obtain ⟨g, vs, h, _⟩ := hc 0 x rfl; cases h
    subst h0
    clear hc hl hb
    go_enter Try.func57, Try.ntmps57
    go_wp2_with fail
    go_ret
    exact ⟨_, rfl, ⟨[], rfl, World.ownsRow_nil _ _ _ _, fun i x h => by simp at h⟩, Below.refl _ _⟩
  | some a =>
    obtain ⟨us, hus, hu⟩ := ext_us (L := l) (P := fun i x vs => ∃ g, a = ⟨g, 0, none⟩ ∧ w0.cell? ⟨g, i * 2, none⟩ = some (.string x.1) ∧ w0.cell? ⟨g, i * 2 + 1, none⟩ = some vs ∧ Row w0 vs x.2) (fun i x hx => by
      obtain ⟨g, vs, e, h1, h2, h3⟩ := hc i x hx
      cases e
      exact ⟨vs, g, rfl, h1, h2, h3⟩)
    have HBB0 := hb.alloc hb.size (.cells #[] 72)
    have HBB := (Below.refl w.heap.size w).alloc (Nat.le_refl _) (.cells #[] 72)
    have HC := Lib.hid (show ∀ j u, (extCells l us)[j]? = some u → (w.alloc (.cells #[] 72)).cell? (a.add j) = some u by
      intro j u hju
      have hj := (List.getElem?_eq_some_iff.1 hju).1
      rw [extCells_length hus] at hj
      obtain ⟨x, hx⟩ : ∃ x, l[j / 2]? = some x := ⟨_, List.getElem?_eq_getElem (by omega)⟩
      obtain ⟨z, hz, g, rfl, c1, c2, _⟩ := hu (j / 2) x hx
      obtain ⟨e1, e2⟩ := ext_get hx hz
      rw [addr_addT]
      rcases Nat.mod_two_eq_zero_or_one j with hm | hm
      · have ej : j = j / 2 * 2 := by omega
        rw [ej] at hju ⊢
        rw [e1] at hju
        cases hju
        exact (HBB0.cell (p := ⟨g, j / 2 * 2, none⟩) (lt_cellT c1)).trans c1
      · have ej : j = j / 2 * 2 + 1 := by omega
        rw [ej] at hju ⊢
        rw [e2] at hju
        cases hju
        exact (HBB0.cell (p := ⟨g, j / 2 * 2 + 1, none⟩) (lt_cellT c2)).trans c2)
    have HR := Lib.hid (fun (i : Nat) (x : ByteArray × List ByteArray) (hx : l[i]? = some x) => show ∃ z, us[i]? = some z ∧ Row w0 z x.2 by
      obtain ⟨z, h1, _, _, _, _, h2⟩ := hu i x hx
      exact ⟨z, h1, h2⟩)
    have HALL := Lib.hid (ext_all (L := l) (us := us) (f := fun u => u.oneCell') (fun _ => rfl) (fun u hm => by
      obtain ⟨i, hi⟩ := List.getElem?_of_mem hm
      obtain ⟨x, hx⟩ : ∃ x, l[i]? = some x := ⟨_, List.getElem?_eq_getElem (by rw [← hus]; exact (List.getElem?_eq_some_iff.1 hi).1)⟩
      obtain ⟨z, h1, h2⟩ := HR.out i x hx
      rw [hi] at h1
      cases h1
      obtain ⟨_, _, rfl, _⟩ := h2
      rfl))
    have HO := Lib.hid (World.ownsRow_made (e := 72) (size := 2) (base := w.heap.size) w #[] 0 (Nat.le_refl _) (by unfold maxLen; omega) rfl)
    have HB := Lib.hid HBB
    have HL := Lib.hid (extCells_length hus)
    have HUS := Lib.hid hus
    clear hc hu HBB HBB0 hus hb
    go_enter Try.func57, Try.ntmps57
    go_wp2_with (first
      | (refine wpList_build_noneX _ rfl rfl ?_)
      | (refine wpList_append_own _ rfl _ _ 38 rfl w.heap.size 72 i0 (.agg #[.string ByteArray.empty, .slice none 0 0]) 2 40 Try.underlying38 hii iz0 iz1 iz2 rfl (by decide) _ 0 [] rfl HO.out a l.length c (extCells l us) rfl (by rw [HL.out]) HC.out HALL.out (by unfold maxLen; omega) (by omega) HB.out.size ?_; intro v' w' hown hgrow hne))
    go_ret
    refine ⟨_, rfl, ⟨us, HUS.out, ?_, HR.out⟩, HB.out.grown hgrow HB.out.size (fun g hg => (HO.out.lt g hg).1)⟩
    rw [Nat.zero_add] at hown
    exact hown
end Go.Proofs.Ythjfcfhibdpbnaa
