/-
  Package alias: what a text may be at a place: none, small, number, maybe, sized; closures that tell it; must.
-/
import Derived.Test.YtlpjdknmnomdlaaGreatDoorYMath
import Derived.OneCell
import Derived.IntWalk
import Derived.StillTailTactics
namespace Go.Proofs.YtlpjdknmnomdlaaGreatDoor
open Go Go.RowKit

theorem none_bool (s : ByteArray) : s.toList.isEmpty = noneS s := by
  unfold noneS
  by_cases h : s.size = 0
  · rw [empty_true h, decide_eq_true h]
  · rw [empty_false (by omega), decide_eq_false h]
theorem same_bool (s t : ByteArray) : (s.toList == t.toList) = decide (s = t) := by
  by_cases h : s = t
  · subst h; rw [decide_eq_true rfl]; exact beq_self_eq_true _
  · rw [decide_eq_false h]; exact texts_ne h
theorem none_any (s : ByteArray) (w : World) :
    Calls Tryz.prog 184 #[.string s] w fun e w' => e = .returned (.bool (noneS s)) ∧ w = w' := by
  have HE := Lib.hid (none_bool s)
  go_enter Tryz.func184, Tryz.ntmps184
  go_wp2
  go_ret
  exact ⟨ret_bool HE.out, rfl⟩
theorem small_own (s : ByteArray) (w : World) (hs : s.size ≤ 1048576) :
    Calls Tryz.prog 200 #[.string s] w fun e w' => e = .returned (.bool (smallS s)) ∧ Below w.heap.size w w' := by
  have HL := Lib.hid (fun w5 => lower_text s w5 (by omega))
  have HE := Lib.hid (same_bool s (lowS s))
  go_enter Tryz.func200, Tryz.ntmps200
  go_wp2_with (go_at_call 66; (with_reducible refine (HL.out _).mono ?_); rintro e w5 ⟨rfl, hb5⟩)
  go_ret
  exact ⟨ret_bool HE.out, by assumption⟩

/-! number. -/
theorem two_bytes {s : ByteArray} (h : s.size = 2) : ∃ c d : UInt8, s = ⟨#[c, d]⟩ := by
  have hl : (bs s).length = 2 := by rw [size_bs]; exact h
  match hb : bs s, hl with
  | [c, d], _ => exact ⟨c, d, by rw [← ofL_bs s, hb]; rfl⟩
theorem two_digits {c d : UInt8} (h : digitS ⟨#[c, d]⟩ = true) : 48 ≤ c.toNat ∧ c.toNat ≤ 57 ∧ 48 ≤ d.toNat ∧ d.toNat ≤ 57 := by
  have hd := fine_has (show has isD ⟨#[c, d]⟩ = true from h)
  have h1 := (isD_iff c).1 (hd c (by simp))
  have h2 := (isD_iff d).1 (hd d (by simp))
  exact ⟨h1.1, h1.2, h2.1, h2.2⟩
theorem numI_two (c d : UInt8) : numI ⟨#[c, d]⟩ = 10 * ((c.toNat : Int) - 48) + ((d.toNat : Int) - 48) := rfl
theorem number_two (c d : UInt8) : numberS ⟨#[c, d]⟩ = (digitS ⟨#[c, d]⟩ && (nameV (numI ⟨#[c, d]⟩)).2) := by
  unfold numberS
  rw [show decide (ByteArray.size ⟨#[c, d]⟩ = 2) = true from rfl, Bool.true_and]
set_option maxRecDepth 100000 in
set_option maxHeartbeats 1000000 in
theorem number_any (s : ByteArray) (w : World) (hs : s.size ≤ 1048576) (hg : GL w) :
    Calls Tryz.prog 183 #[.string s] w fun e w' => e = .returned (.bool (numberS s)) ∧ Below w.heap.size w w' := by
  have hgs := hg.size
  by_cases h2 : s.size = 2
  · obtain ⟨c, d, rfl⟩ := two_bytes h2
    have hn := number_two c d
    cases hd : digitS ⟨#[c, d]⟩ with
    | false =>
      have HE := Lib.hid (show numberS ⟨#[c, d]⟩ = false by rw [hn, hd]; rfl)
      have HD := Lib.hid (fun w5 => (digitS_any ⟨#[c, d]⟩ w5 (by unfold maxLen; omega)).mono (R' := fun e w6 => e = .returned (.bool false) ∧ Below w5.heap.size w5 w6) fun e w6 ⟨p, q⟩ => ⟨by rw [p, hd], q⟩)
      clear hn hd hs h2
      go_enter Tryz.func183, Tryz.ntmps183
      go_wp2_with (go_at_call 69; (with_reducible refine (HD.out _).mono ?_); rintro e w5 ⟨rfl, hb5⟩)
      go_ret
      exact ⟨ret_bool HE.out.symm, by assumption⟩
    | true =>
      obtain ⟨h3, h4, h5, h6⟩ := two_digits hd
      have HE := Lib.hid (show (nameV (numI ⟨#[c, d]⟩)).2 = numberS ⟨#[c, d]⟩ by rw [hn, hd]; rfl)
      have HD := Lib.hid (fun w5 => (digitS_any ⟨#[c, d]⟩ w5 (by unfold maxLen; omega)).mono (R' := fun e w6 => e = .returned (.bool true) ∧ Below w5.heap.size w5 w6) fun e w6 ⟨p, q⟩ => ⟨by rw [p, hd], q⟩)
      have HN := Lib.hid (show ∀ (z : Int) w5, z = numI ⟨#[c, d]⟩ → Below w.heap.size w w5 → Calls Tryz.prog 201 #[.int .i64 z] w5 fun e w6 => e = .returned (.tuple #[.string (nameV (numI ⟨#[c, d]⟩)).1, .bool (nameV (numI ⟨#[c, d]⟩)).2]) ∧ Below w.heap.size w w6 from fun z w5 hz hb => by
        subst hz
        exact (name_any (numI ⟨#[c, d]⟩) w5 (hg.below hb hgs)).mono fun e w6 ⟨p, q⟩ => ⟨p, hb.trans (q.mono hb.size)⟩)
      rw [numI_two] at HN HE
      have e1 : IntKind.u8.wrap ((c.toNat : Int) - 48) = (c.toNat : Int) - 48 := wraps_u8 _ (by omega) (by omega)
      have e2 : IntKind.u8.wrap ((d.toNat : Int) - 48) = (d.toNat : Int) - 48 := wraps_u8 _ (by omega) (by omega)
      have HX := Lib.hid (show IntKind.i64.wrap (IntKind.i64.wrap (10 * IntKind.i64.wrap (IntKind.u8.wrap ((c.toNat : Int) - 48))) + IntKind.i64.wrap (IntKind.u8.wrap ((d.toNat : Int) - 48))) = 10 * ((c.toNat : Int) - 48) + ((d.toNat : Int) - 48) by
        rw [e1, e2, IntWalk.i64_in ((c.toNat : Int) - 48) ⟨by omega, by omega⟩, IntWalk.i64_in ((d.toNat : Int) - 48) ⟨by omega, by omega⟩, IntWalk.i64_in (10 * ((c.toNat : Int) - 48)) ⟨by omega, by omega⟩, IntWalk.i64_in _ ⟨by omega, by omega⟩])
      generalize hx : 10 * ((c.toNat : Int) - 48) + ((d.toNat : Int) - 48) = x at *
      generalize nameV x = nv at *
      obtain ⟨nm, ok⟩ := nv
      dsimp only at HE HN
      clear hn hd hs h2 hg e1 e2
      go_enter Tryz.func183, Tryz.ntmps183
      go_wp2_with (go_at_call 69; (with_reducible refine (HD.out _).mono ?_); rintro e w5 ⟨rfl, hb5⟩)
      have hb6 := Below.drew hb5
      go_region_held3 (fun w' => Below w.heap.size w w') (first | assumption) (first | (go_at_call 201; refine (HN.out _ _ HX.out (by assumption)).mono ?_; rintro e w5 ⟨rfl, hb5⟩))
      all_goals go_wp2
      all_goals go_ret
      all_goals exact ⟨ret_bool HE.out, by assumption⟩
  · have HE := Lib.hid (show numberS s = false by unfold numberS; rw [decide_eq_false h2]; rfl)
    have hne : ((s.size : Int) != 2) = true := by simp; omega
    go_enter Tryz.func183, Tryz.ntmps183
    go_wp2
    go_ret
    exact ⟨ret_bool HE.out.symm, Below.refl _ _⟩

/-! What a closure asks of a text, whatever is made behind it (the block M apart). -/
theorem gr_of_below {M : Nat} {w w' : World} (h : Below w.heap.size w w') : w.grownBy w' (some M) := ⟨h.os, h.tape, h.output, h.size, fun k hk _ => h.block k hk⟩
theorem gr_transY {M : Nat} {a b c : World} (h : a.grownBy b (some M)) (k : b.grownBy c (some M)) : a.grownBy c (some M) :=
  ⟨k.os.trans h.os, k.tape.trans h.tape, k.output.trans h.output, Nat.le_trans h.size k.size, fun j hj hne => (k.block j (Nat.lt_of_lt_of_le hj h.size) hne).trans (h.block j hj hne)⟩
def FitV (M : Nat) (w : World) (v : Value) (p : ByteArray → Bool) : Prop :=
  ∃ (F : FuncId) (C : Array Value), v = .func (.func F) #[] C ∧ Enters Tryz.prog F ∧ ∀ s : ByteArray, s.size ≤ 1048576 → ∀ w5, w.grownBy w5 (some M) → Calls Tryz.prog F (#[.string s] ++ C) w5 fun e w' => e = .returned (.bool (p s)) ∧ Below w5.heap.size w5 w'
theorem FitV.grown {M : Nat} {w w' : World} {v : Value} {p : ByteArray → Bool} (h : FitV M w v p) (hg : w.grownBy w' (some M)) : FitV M w' v p := by
  obtain ⟨F, C, h1, h2, h3⟩ := h
  exact ⟨F, C, h1, h2, fun s hs w5 h5 => h3 s hs w5 (gr_transY hg h5)⟩
theorem fit_none (M : Nat) (w : World) : FitV M w (.func (.func 184) #[] #[]) noneS :=
  ⟨_, _, rfl, Go.Proofs.enters_of Tryz.func184 (by kernel_rfl) rfl, fun s _ w5 _ => (none_any s w5).mono fun _ _ ⟨p, q⟩ => ⟨p, q ▸ Below.refl _ _⟩⟩
theorem fit_number (M : Nat) (w : World) (hg : GL w) (hM : 2 ≠ M) : FitV M w (.func (.func 183) #[] #[]) numberS :=
  ⟨_, _, rfl, Go.Proofs.enters_of Tryz.func183 (by kernel_rfl) rfl, fun s hs w5 h5 => number_any s w5 hs (hg.block (h5.block _ hg.size (fun e => hM (Option.some.inj e))))⟩
theorem fit_language (M : Nat) (w : World) : FitV M w (.func (.func 29) #[] #[]) languageS :=
  ⟨_, _, rfl, Go.Proofs.enters_of Tryz.func29 (by kernel_rfl) rfl, fun s hs w5 _ => language_own s w5 (by unfold maxLen; omega)⟩
theorem fit_script (M : Nat) (w : World) : FitV M w (.func (.func 30) #[] #[]) scriptS :=
  ⟨_, _, rfl, Go.Proofs.enters_of Tryz.func30 (by kernel_rfl) rfl, fun s hs w5 _ => script_own s w5 (by unfold maxLen; omega)⟩
theorem fit_region (M : Nat) (w : World) : FitV M w (.func (.func 31) #[] #[]) regionS :=
  ⟨_, _, rfl, Go.Proofs.enters_of Tryz.func31 (by kernel_rfl) rfl, fun s hs w5 _ => region_own s w5 (by unfold maxLen; omega)⟩
theorem fit_variant (M : Nat) (w : World) : FitV M w (.func (.func 186) #[] #[]) variantS :=
  ⟨_, _, rfl, Go.Proofs.enters_of Tryz.func186 (by kernel_rfl) rfl, fun s hs w5 _ => variant_own s w5 (by unfold maxLen; omega)⟩

/-! maybe. -/
set_option maxRecDepth 100000 in
theorem maybe1_any (s : ByteArray) (w : World) (B : Nat) (F : FuncId) (p : ByteArray → Bool) (hB : w.heap[B]? = some (.cells #[.func (.func F) #[] #[]] 254 (0, 0)))
    (hF : ∀ w5, Below w.heap.size w w5 → Calls Tryz.prog F #[.string s] w5 fun e w' => e = .returned (.bool (p s)) ∧ Below w5.heap.size w5 w') (eF : Enters Tryz.prog F) :
    Calls Tryz.prog 202 #[.string s, .pointer (some ⟨B, 0, none⟩)] w fun e w' => e = .returned (.bool (maybeS p s)) ∧ Below w.heap.size w w' := by
  have hc := cell_of_one hB
  have HF := Lib.hid (hF w (Below.refl _ _))
  have HM := Lib.hid (show maybeS p s = (noneS s || p s) from rfl)
  have HN := Lib.hid (fun w5 => none_any s w5)
  have eF' : ∀ args w, (callFunc F args).run Tryz.prog w = .ok (.enter F args) w := eF
  clear hF hB
  cases hn : noneS s with
  | true =>
    rw [hn] at HM HN
    clear hn
    go_enter Tryz.func202, Tryz.ntmps202
    go_wp2_with (go_at_call 184; (with_reducible refine (HN.out _).mono ?_); rintro e w5 ⟨rfl, rfl⟩)
    go_ret
    exact ⟨ret_bool HM.out.symm, Below.refl _ _⟩
  | false =>
    rw [hn] at HM HN
    clear hn
    generalize p s = q at *
    go_enter Tryz.func202, Tryz.ntmps202
    go_wp2_with (go_at_call 184; (with_reducible refine (HN.out _).mono ?_); rintro e w5 ⟨rfl, rfl⟩)
    refine HF.out.mono ?_
    rintro e w1 ⟨rfl, hb1⟩
    go_wp2_with fail
    go_ret
    exact ⟨ret_bool HM.out.symm, hb1⟩
theorem fit_maybe {M B : Nat} {w : World} {F : FuncId} {p : ByteArray → Bool} (hB : w.heap[B]? = some (.cells #[.func (.func F) #[] #[]] 254 (0, 0))) (hM : B ≠ M) (hF : FitV M w (.func (.func F) #[] #[]) p) :
    FitV M w (.func (.func 202) #[] #[.pointer (some ⟨B, 0, none⟩)]) (maybeS p) := by
  obtain ⟨F', C', h1, h2, h3⟩ := hF
  injection h1 with e1 _ e3
  injection e1 with e1
  subst e1 e3
  refine ⟨_, _, rfl, Go.Proofs.enters_of Tryz.func202 (by kernel_rfl) rfl, fun s hs w5 h5 => ?_⟩
  exact maybe1_any s w5 B F p ((h5.block B (lt_of_block hB) (fun e => hM (Option.some.inj e))).trans hB) (fun w6 h6 => h3 s hs w6 (gr_transY h5 (gr_of_below h6))) h2
theorem maybe_any (F : FuncId) (w : World) :
    Calls Tryz.prog 185 #[.func (.func F) #[] #[]] w fun e w' => e = .returned (.func (.func 202) #[] #[.pointer (some ⟨w.heap.size, 0, none⟩)]) ∧ w'.heap[w.heap.size]? = some (.cells #[.func (.func F) #[] #[]] 254 (0, 0)) ∧ Below w.heap.size w w' := by
  go_enter Tryz.func185, Tryz.ntmps185
  go_wp2
  go_ret
  exact ⟨rfl, World.alloc_heap_new w _, (Below.refl _ w).alloc (Nat.le_refl _) _⟩

/-! sized. -/
set_option maxRecDepth 100000 in
theorem sized1_any (s : ByteArray) (w : World) (B C : Nat) (lo hi : Nat) (hs : s.size ≤ 1048576) (hB : w.heap[B]? = some (.cells #[.int .i64 (lo : Int)] 3 (0, 0))) (hC : w.heap[C]? = some (.cells #[.int .i64 (hi : Int)] 3 (0, 0))) :
    Calls Tryz.prog 203 #[.string s, .pointer (some ⟨B, 0, none⟩), .pointer (some ⟨C, 0, none⟩)] w fun e w' => e = .returned (.bool (wordS lo hi s)) ∧ Below w.heap.size w w' := by
  have hcb := cell_of_one hB
  have hcc := cell_of_one hC
  have HA := Lib.hid (fun w5 => alnum_any s w5 (by unfold maxLen; omega))
  have HM := Lib.hid (show wordS lo hi s = (decide (lo ≤ s.size) && (decide (s.size ≤ hi) && alnumS s)) from rfl)
  clear hB hC
  generalize alnumS s = q at *
  by_cases h1 : lo ≤ s.size
  · have h1' : (lo : Int) ≤ (s.size : Int) := by omega
    rw [decide_eq_true h1] at HM
    by_cases h2 : s.size ≤ hi
    · have h2' : (s.size : Int) ≤ (hi : Int) := by omega
      rw [decide_eq_true h2] at HM
      clear h1 h2
      go_enter Tryz.func203, Tryz.ntmps203
      go_wp2_with (go_at_call 75; (with_reducible refine (HA.out _).mono ?_); rintro e w5 ⟨rfl, hb5⟩)
      go_ret
      exact ⟨ret_bool HM.out.symm, by assumption⟩
    · have h2' : ¬ (s.size : Int) ≤ (hi : Int) := by omega
      rw [decide_eq_false h2] at HM
      clear h1 h2
      go_enter Tryz.func203, Tryz.ntmps203
      go_wp2
      go_ret
      exact ⟨ret_bool HM.out.symm, Below.refl _ _⟩
  · have h1' : ¬ (lo : Int) ≤ (s.size : Int) := by omega
    rw [decide_eq_false h1] at HM
    clear h1
    go_enter Tryz.func203, Tryz.ntmps203
    go_wp2
    go_ret
    exact ⟨ret_bool HM.out.symm, Below.refl _ _⟩
theorem fit_sized {M B C : Nat} {w : World} {lo hi : Nat} (hB : w.heap[B]? = some (.cells #[.int .i64 (lo : Int)] 3 (0, 0))) (hC : w.heap[C]? = some (.cells #[.int .i64 (hi : Int)] 3 (0, 0))) (hM : B ≠ M) (hM2 : C ≠ M) :
    FitV M w (.func (.func 203) #[] #[.pointer (some ⟨B, 0, none⟩), .pointer (some ⟨C, 0, none⟩)]) (wordS lo hi) :=
  ⟨_, _, rfl, Go.Proofs.enters_of Tryz.func203 (by kernel_rfl) rfl, fun s hs w5 h5 =>
    sized1_any s w5 B C lo hi hs ((h5.block B (lt_of_block hB) (fun e => hM (Option.some.inj e))).trans hB) ((h5.block C (lt_of_block hC) (fun e => hM2 (Option.some.inj e))).trans hC)⟩
theorem sized_any (lo hi : Int) (w : World) :
    Calls Tryz.prog 187 #[.int .i64 lo, .int .i64 hi] w fun e w' => e = .returned (.func (.func 203) #[] #[.pointer (some ⟨w.heap.size, 0, none⟩), .pointer (some ⟨w.heap.size + 1, 0, none⟩)]) ∧ w'.heap[w.heap.size]? = some (.cells #[.int .i64 lo] 3 (0, 0)) ∧ w'.heap[w.heap.size + 1]? = some (.cells #[.int .i64 hi] 3 (0, 0)) ∧ Below w.heap.size w w' := by
  go_enter Tryz.func187, Tryz.ntmps187
  go_wp2
  go_ret
  refine ⟨rfl, ?_, ?_, ((Below.refl _ w).alloc (Nat.le_refl _) _).alloc (by simp) _⟩
  · exact (Below.heap_alloc _ _ _ (by simp)).trans (World.alloc_heap_new w _)
  · exact heap_alloc2_new w _ _

/-! must. -/
theorem cells5 {W : World} {B : Nat} {a b c d e : Value} {t : TypeId} (h : W.heap[B]? = some (.cells #[a, b, c, d, e] t (0, 0))) :
    (W.cell? ⟨B, 0, none⟩ = some a ∧ W.cell? ⟨B, 1, none⟩ = some b ∧ W.cell? ⟨B, 2, none⟩ = some c ∧ W.cell? ⟨B, 3, none⟩ = some d ∧ W.cell? ⟨B, 4, none⟩ = some e) ∧
    (W.frozen? ⟨B, 0, none⟩ = false ∧ W.frozen? ⟨B, 1, none⟩ = false ∧ W.frozen? ⟨B, 2, none⟩ = false ∧ W.frozen? ⟨B, 3, none⟩ = false ∧ W.frozen? ⟨B, 4, none⟩ = false) := by
  constructor
  · simp [World.cell?, h]
  · simp [World.frozen?, h]
theorem setY {w : World} {B k : Nat} {cs : Array Value} {t : TypeId} (h : w.heap[B]? = some (.cells cs t (0, 0))) (v : Value) : (w.setCell ⟨B, k, none⟩ v).heap[B]? = some (.cells (cs.setIfInBounds k v) t (0, 0)) := by
  simp [World.setCell, Array.getElem?_modify, h]
theorem store_cell {P : Program} {w : World} {B k : Nat} {cs : Array Value} {t : TypeId} (h : w.heap[B]? = some (.cells cs t (0, 0))) (hk : k < cs.size) {v : Value} (hv : v.oneCell' = true) : (store ⟨B, k, none⟩ v).run P w = .ok () (w.setCell ⟨B, k, none⟩ v) := by
  rw [run_store _ _ _ _ _ hv]
  have h1 : w.cell? ⟨B, k, none⟩ = some cs[k] := by simp [World.cell?, h, hk]
  have h2 : w.frozen? ⟨B, k, none⟩ = false := by simp [World.frozen?, h]
  simp [h1, h2]
/-- A row of five stored into a block of its own, cell by cell. -/
structure Sto5 (P : Program) (w W5 : World) (B : Nat) (t : TypeId) (b0 b1 b2 b3 b4 : Value) (W1 W2 W3 W4 : World) : Prop where
  s1 : (store ⟨B, 0, none⟩ b0).run P w = .ok () W1
  s2 : (store ⟨B, 1, none⟩ b1).run P W1 = .ok () W2
  s3 : (store ⟨B, 2, none⟩ b2).run P W2 = .ok () W3
  s4 : (store ⟨B, 3, none⟩ b3).run P W3 = .ok () W4
  s5 : (store ⟨B, 4, none⟩ b4).run P W4 = .ok () W5
  h : W5.heap[B]? = some (.cells #[b0, b1, b2, b3, b4] t (0, 0))
  bel : ∀ B0, B0 ≤ B → Below B0 w W5
theorem store5 {w : World} {B : Nat} {t : TypeId} {a0 a1 a2 a3 a4 : Value} (h : w.heap[B]? = some (.cells #[a0, a1, a2, a3, a4] t (0, 0))) (b0 b1 b2 b3 b4 : Value) :
    (((((w.setCell ⟨B, 0, none⟩ b0).setCell ⟨B, 1, none⟩ b1).setCell ⟨B, 2, none⟩ b2).setCell ⟨B, 3, none⟩ b3).setCell ⟨B, 4, none⟩ b4).heap[B]? = some (.cells #[b0, b1, b2, b3, b4] t (0, 0)) ∧
    ∀ B0, B0 ≤ B → Below B0 w (((((w.setCell ⟨B, 0, none⟩ b0).setCell ⟨B, 1, none⟩ b1).setCell ⟨B, 2, none⟩ b2).setCell ⟨B, 3, none⟩ b3).setCell ⟨B, 4, none⟩ b4) := by
  have e0 : (w.setCell ⟨B, 0, none⟩ b0).heap[B]? = some (.cells #[b0, a1, a2, a3, a4] t (0, 0)) := setY h b0
  have e1 : ((w.setCell ⟨B, 0, none⟩ b0).setCell ⟨B, 1, none⟩ b1).heap[B]? = some (.cells #[b0, b1, a2, a3, a4] t (0, 0)) := setY e0 b1
  have e2 : (((w.setCell ⟨B, 0, none⟩ b0).setCell ⟨B, 1, none⟩ b1).setCell ⟨B, 2, none⟩ b2).heap[B]? = some (.cells #[b0, b1, b2, a3, a4] t (0, 0)) := setY e1 b2
  have e3 : ((((w.setCell ⟨B, 0, none⟩ b0).setCell ⟨B, 1, none⟩ b1).setCell ⟨B, 2, none⟩ b2).setCell ⟨B, 3, none⟩ b3).heap[B]? = some (.cells #[b0, b1, b2, b3, a4] t (0, 0)) := setY e2 b3
  have e4 : (((((w.setCell ⟨B, 0, none⟩ b0).setCell ⟨B, 1, none⟩ b1).setCell ⟨B, 2, none⟩ b2).setCell ⟨B, 3, none⟩ b3).setCell ⟨B, 4, none⟩ b4).heap[B]? = some (.cells #[b0, b1, b2, b3, b4] t (0, 0)) := setY e3 b4
  exact ⟨e4, fun B0 hB => (((((Below.refl B0 w).setCell (p := ⟨B, 0, none⟩) hB b0).setCell (p := ⟨B, 1, none⟩) hB b1).setCell (p := ⟨B, 2, none⟩) hB b2).setCell (p := ⟨B, 3, none⟩) hB b3).setCell (p := ⟨B, 4, none⟩) hB b4⟩
theorem sto5 {P : Program} {w : World} {B : Nat} {t : TypeId} {a0 a1 a2 a3 a4 : Value} (h : w.heap[B]? = some (.cells #[a0, a1, a2, a3, a4] t (0, 0))) {b0 b1 b2 b3 b4 : Value}
    (v0 : b0.oneCell' = true) (v1 : b1.oneCell' = true) (v2 : b2.oneCell' = true) (v3 : b3.oneCell' = true) (v4 : b4.oneCell' = true) : ∃ W1 W2 W3 W4 W5, Sto5 P w W5 B t b0 b1 b2 b3 b4 W1 W2 W3 W4 := by
  have e0 : (w.setCell ⟨B, 0, none⟩ b0).heap[B]? = some (.cells #[b0, a1, a2, a3, a4] t (0, 0)) := setY h b0
  have e1 : ((w.setCell ⟨B, 0, none⟩ b0).setCell ⟨B, 1, none⟩ b1).heap[B]? = some (.cells #[b0, b1, a2, a3, a4] t (0, 0)) := setY e0 b1
  have e2 : (((w.setCell ⟨B, 0, none⟩ b0).setCell ⟨B, 1, none⟩ b1).setCell ⟨B, 2, none⟩ b2).heap[B]? = some (.cells #[b0, b1, b2, a3, a4] t (0, 0)) := setY e1 b2
  have e3 : ((((w.setCell ⟨B, 0, none⟩ b0).setCell ⟨B, 1, none⟩ b1).setCell ⟨B, 2, none⟩ b2).setCell ⟨B, 3, none⟩ b3).heap[B]? = some (.cells #[b0, b1, b2, b3, a4] t (0, 0)) := setY e2 b3
  exact ⟨_, _, _, _, _, store_cell h (by simp) v0, store_cell e0 (by simp) v1, store_cell e1 (by simp) v2, store_cell e2 (by simp) v3, store_cell e3 (by simp) v4, (store5 h b0 b1 b2 b3 b4).1, (store5 h b0 b1 b2 b3 b4).2⟩
structure KeepV (M : Nat) (w : World) (B : Nat) (f : Fv) : Prop where
  h : ∃ F1 F2 F3 F4 F5 C1 C2 C3 C4 C5, w.heap[B]? = some (.cells #[.func (.func F1) #[] C1, .func (.func F2) #[] C2, .func (.func F3) #[] C3, .func (.func F4) #[] C4, .func (.func F5) #[] C5] 272 (0, 0)) ∧
    FitV M w (.func (.func F1) #[] C1) f.f1 ∧ FitV M w (.func (.func F2) #[] C2) f.f2 ∧ FitV M w (.func (.func F3) #[] C3) f.f3 ∧ FitV M w (.func (.func F4) #[] C4) f.f4 ∧ FitV M w (.func (.func F5) #[] C5) f.f5
  ne : B ≠ M
theorem KeepV.lt {M B : Nat} {w : World} {f : Fv} (h : KeepV M w B f) : B < w.heap.size := by
  obtain ⟨_, _, _, _, _, _, _, _, _, _, h, _⟩ := h.h
  exact lt_of_block h
theorem KeepV.grown {M B : Nat} {w w' : World} {f : Fv} (h : KeepV M w B f) (hg : w.grownBy w' (some M)) : KeepV M w' B f := by
  obtain ⟨⟨F1, F2, F3, F4, F5, C1, C2, C3, C4, C5, h0, h1, h2, h3, h4, h5⟩, hn⟩ := h
  exact ⟨⟨F1, F2, F3, F4, F5, C1, C2, C3, C4, C5, (hg.block B (lt_of_block h0) (fun e => hn (Option.some.inj e))).trans h0, h1.grown hg, h2.grown hg, h3.grown hg, h4.grown hg, h5.grown hg⟩, hn⟩
set_option maxRecDepth 100000 in
set_option maxHeartbeats 4000000 in
theorem must_any (F1 F2 F3 F4 F5 : FuncId) (C1 C2 C3 C4 C5 : Array Value) (w : World) :
    Calls Tryz.prog 182 #[.func (.func F1) #[] C1, .func (.func F2) #[] C2, .func (.func F3) #[] C3, .func (.func F4) #[] C4, .func (.func F5) #[] C5] w fun e w' => e = .returned (.func (.func 199) #[] #[.pointer (some ⟨w.heap.size, 0, none⟩)]) ∧
      w'.heap[w.heap.size]? = some (.cells #[.func (.func F1) #[] C1, .func (.func F2) #[] C2, .func (.func F3) #[] C3, .func (.func F4) #[] C4, .func (.func F5) #[] C5] 272 (0, 0)) ∧ Below w.heap.size w w' := by
  have hA := World.alloc_heap_new w (.cells #[.nilFunc, .nilFunc, .nilFunc, .nilFunc, .nilFunc] 272)
  obtain ⟨W1, W2, W3, W4, W5, s1, s2, s3, s4, s5, h5, hb⟩ := sto5 (P := Tryz.prog) hA (b0 := .func (.func F1) #[] C1) (b1 := .func (.func F2) #[] C2) (b2 := .func (.func F3) #[] C3) (b3 := .func (.func F4) #[] C4) (b4 := .func (.func F5) #[] C5) rfl rfl rfl rfl rfl
  have HB := Lib.hid ((show Below w.heap.size w _ from (Below.refl _ w).alloc (Nat.le_refl _) _).trans (hb w.heap.size (Nat.le_refl _)))
  have H5 := Lib.hid h5
  clear hA h5 hb
  go_enter Tryz.func182, Tryz.ntmps182
  go_wp2
  go_ret
  exact ⟨rfl, H5.out, HB.out⟩
end Go.Proofs.YtlpjdknmnomdlaaGreatDoor
