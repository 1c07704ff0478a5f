/-
  Package alias: what a text may be at a place: none, small, number, maybe, sized; closures that tell it; must. Package alias: the map of closures that tell what each kind must be; what is found in it. (Printed by wip/gen_ykinds.py.) Package alias: fields, the closure that tells whether an alias is what it must be, Right. (Printed by wip/gen_yright.py.) Package alias: packed, unpacked, Encode, Decode, Key.
-/
import Derived.Test.YtbafmnafhaoggaaGreatDoorYMath
import Derived.OneCell
import Derived.IntWalk
import Derived.StillTailTactics
import Derived.Maps.OwnIn
import Derived.Carry
import Derived.Deep.RegionHeld3
import Derived.Deep.CutRange
import Derived.Test.YtbafmnafhaoggaaGreatDoorCPacks
import Derived.Laws.ResultCell
/-! Package alias: what a text may be at a place: none, small, number, maybe, sized; closures that tell it; must. -/
namespace Go.Proofs.YtbafmnafhaoggaaGreatDoor
open Go Go.RowKit

theorem none_bool (s : ByteArray) : s.toList.isEmpty = noneS s := by
  unfold noneS
  by_cases h : s.size = 0
  · rw [empty_true h, decide_eq_true h]
  · rw [empty_false (by omega), decide_eq_false h]
theorem same_bool (s t : ByteArray) : (s.toList == t.toList) = decide (s = t) := by
  by_cases h : s = t
  · subst h; rw [decide_eq_true rfl]; exact beq_self_eq_true _
  · rw [decide_eq_false h]; exact texts_ne h
theorem none_any (s : ByteArray) (w : World) :
    Calls Tryz.prog 117 #[.string s] w fun e w' => e = .returned (.bool (noneS s)) ∧ w = w' := by
  have HE := Lib.hid (none_bool s)
  go_enter Tryz.func117, Tryz.ntmps117
  go_wp2
  go_ret
  exact ⟨ret_bool HE.out, rfl⟩
theorem small_own (s : ByteArray) (w : World) (hs : s.size ≤ 1048576) :
    Calls Tryz.prog 138 #[.string s] w fun e w' => e = .returned (.bool (smallS s)) ∧ Below w.heap.size w w' := by
  have HL := Lib.hid (fun w5 => lower_text s w5 (by omega))
  have HE := Lib.hid (same_bool s (lowS s))
  go_enter Tryz.func138, Tryz.ntmps138
  go_wp2_with (go_at_call 100; (with_reducible refine (HL.out _).mono ?_); rintro e w5 ⟨rfl, hb5⟩)
  go_ret
  exact ⟨ret_bool HE.out, by assumption⟩

/-! number. -/
theorem two_bytes {s : ByteArray} (h : s.size = 2) : ∃ c d : UInt8, s = ⟨#[c, d]⟩ := by
  have hl : (bs s).length = 2 := by rw [size_bs]; exact h
  match hb : bs s, hl with
  | [c, d], _ => exact ⟨c, d, by rw [← ofL_bs s, hb]; rfl⟩
theorem two_digits {c d : UInt8} (h : digitS ⟨#[c, d]⟩ = true) : 48 ≤ c.toNat ∧ c.toNat ≤ 57 ∧ 48 ≤ d.toNat ∧ d.toNat ≤ 57 := by
  have hd := fine_has (show has isD ⟨#[c, d]⟩ = true from h)
  have h1 := (isD_iff c).1 (hd c (by simp))
  have h2 := (isD_iff d).1 (hd d (by simp))
  exact ⟨h1.1, h1.2, h2.1, h2.2⟩
theorem numI_two (c d : UInt8) : numI ⟨#[c, d]⟩ = 10 * ((c.toNat : Int) - 48) + ((d.toNat : Int) - 48) := rfl
theorem number_two (c d : UInt8) : numberS ⟨#[c, d]⟩ = (digitS ⟨#[c, d]⟩ && (nameV (numI ⟨#[c, d]⟩)).2) := by
  unfold numberS
  rw [show decide (ByteArray.size ⟨#[c, d]⟩ = 2) = true from rfl, Bool.true_and]
set_option maxRecDepth 100000 in
set_option maxHeartbeats 1000000 in
theorem number_any (s : ByteArray) (w : World) (hs : s.size ≤ 1048576) (hg : GL w) :
    Calls Tryz.prog 116 #[.string s] w fun e w' => e = .returned (.bool (numberS s)) ∧ Below w.heap.size w w' := by
  have hgs := hg.size
  by_cases h2 : s.size = 2
  · obtain ⟨c, d, rfl⟩ := two_bytes h2
    have hn := number_two c d
    cases hd : digitS ⟨#[c, d]⟩ with
    | false =>
      have HE := Lib.hid (show numberS ⟨#[c, d]⟩ = false by rw [hn, hd]; rfl)
      have HD := Lib.hid (fun w5 => (digitS_any ⟨#[c, d]⟩ w5 (by unfold maxLen; omega)).mono (R' := fun e w6 => e = .returned (.bool false) ∧ Below w5.heap.size w5 w6) fun e w6 ⟨p, q⟩ => ⟨by rw [p, hd], q⟩)
      clear hn hd hs h2
      go_enter Tryz.func116, Tryz.ntmps116
      go_wp2_with (go_at_call 105; (with_reducible refine (HD.out _).mono ?_); rintro e w5 ⟨rfl, hb5⟩)
      go_ret
      exact ⟨ret_bool HE.out.symm, by assumption⟩
    | true =>
      obtain ⟨h3, h4, h5, h6⟩ := two_digits hd
      have HE := Lib.hid (show (nameV (numI ⟨#[c, d]⟩)).2 = numberS ⟨#[c, d]⟩ by rw [hn, hd]; rfl)
      have HD := Lib.hid (fun w5 => (digitS_any ⟨#[c, d]⟩ w5 (by unfold maxLen; omega)).mono (R' := fun e w6 => e = .returned (.bool true) ∧ Below w5.heap.size w5 w6) fun e w6 ⟨p, q⟩ => ⟨by rw [p, hd], q⟩)
      have HN := Lib.hid (show ∀ (z : Int) w5, z = numI ⟨#[c, d]⟩ → Below w.heap.size w w5 → Calls Tryz.prog 139 #[.int .i64 z] w5 fun e w6 => e = .returned (.tuple #[.string (nameV (numI ⟨#[c, d]⟩)).1, .bool (nameV (numI ⟨#[c, d]⟩)).2]) ∧ Below w.heap.size w w6 from fun z w5 hz hb => by
        subst hz
        exact (name_any (numI ⟨#[c, d]⟩) w5 (hg.below hb hgs)).mono fun e w6 ⟨p, q⟩ => ⟨p, hb.trans (q.mono hb.size)⟩)
      rw [numI_two] at HN HE
      have e1 : IntKind.u8.wrap ((c.toNat : Int) - 48) = (c.toNat : Int) - 48 := wraps_u8 _ (by omega) (by omega)
      have e2 : IntKind.u8.wrap ((d.toNat : Int) - 48) = (d.toNat : Int) - 48 := wraps_u8 _ (by omega) (by omega)
      have HX := Lib.hid (show IntKind.i64.wrap (IntKind.i64.wrap (10 * IntKind.i64.wrap (IntKind.u8.wrap ((c.toNat : Int) - 48))) + IntKind.i64.wrap (IntKind.u8.wrap ((d.toNat : Int) - 48))) = 10 * ((c.toNat : Int) - 48) + ((d.toNat : Int) - 48) by
        rw [e1, e2, IntWalk.i64_in ((c.toNat : Int) - 48) ⟨by omega, by omega⟩, IntWalk.i64_in ((d.toNat : Int) - 48) ⟨by omega, by omega⟩, IntWalk.i64_in (10 * ((c.toNat : Int) - 48)) ⟨by omega, by omega⟩, IntWalk.i64_in _ ⟨by omega, by omega⟩])
      generalize hx : 10 * ((c.toNat : Int) - 48) + ((d.toNat : Int) - 48) = x at *
      generalize nameV x = nv at *
      obtain ⟨nm, ok⟩ := nv
      dsimp only at HE HN
      clear hn hd hs h2 hg e1 e2
      go_enter Tryz.func116, Tryz.ntmps116
      go_wp2_with (go_at_call 105; (with_reducible refine (HD.out _).mono ?_); rintro e w5 ⟨rfl, hb5⟩)
      have hb6 := Below.drew hb5
      go_region_held3 (fun w' => Below w.heap.size w w') (first | assumption) (first | (go_at_call 139; refine (HN.out _ _ HX.out (by assumption)).mono ?_; rintro e w5 ⟨rfl, hb5⟩))
      all_goals go_wp2
      all_goals go_ret
      all_goals exact ⟨ret_bool HE.out, by assumption⟩
  · have HE := Lib.hid (show numberS s = false by unfold numberS; rw [decide_eq_false h2]; rfl)
    have hne : ((s.size : Int) != 2) = true := by simp; omega
    go_enter Tryz.func116, Tryz.ntmps116
    go_wp2
    go_ret
    exact ⟨ret_bool HE.out.symm, Below.refl _ _⟩

/-! What a closure asks of a text, whatever is made behind it (the block M apart). -/
theorem gr_of_below {M : Nat} {w w' : World} (h : Below w.heap.size w w') : w.grownBy w' (some M) := ⟨h.os, h.tape, h.output, h.size, fun k hk _ => h.block k hk⟩
theorem gr_transY {M : Nat} {a b c : World} (h : a.grownBy b (some M)) (k : b.grownBy c (some M)) : a.grownBy c (some M) :=
  ⟨k.os.trans h.os, k.tape.trans h.tape, k.output.trans h.output, Nat.le_trans h.size k.size, fun j hj hne => (k.block j (Nat.lt_of_lt_of_le hj h.size) hne).trans (h.block j hj hne)⟩
def FitV (M : Nat) (w : World) (v : Value) (p : ByteArray → Bool) : Prop :=
  ∃ (F : FuncId) (C : Array Value), v = .func (.func F) #[] C ∧ Enters Tryz.prog F ∧ ∀ s : ByteArray, s.size ≤ 1048576 → ∀ w5, w.grownBy w5 (some M) → Calls Tryz.prog F (#[.string s] ++ C) w5 fun e w' => e = .returned (.bool (p s)) ∧ Below w5.heap.size w5 w'
theorem FitV.grown {M : Nat} {w w' : World} {v : Value} {p : ByteArray → Bool} (h : FitV M w v p) (hg : w.grownBy w' (some M)) : FitV M w' v p := by
  obtain ⟨F, C, h1, h2, h3⟩ := h
  exact ⟨F, C, h1, h2, fun s hs w5 h5 => h3 s hs w5 (gr_transY hg h5)⟩
theorem fit_none (M : Nat) (w : World) : FitV M w (.func (.func 117) #[] #[]) noneS :=
  ⟨_, _, rfl, Go.Proofs.enters_of Tryz.func117 (by kernel_rfl) rfl, fun s _ w5 _ => (none_any s w5).mono fun _ _ ⟨p, q⟩ => ⟨p, q ▸ Below.refl _ _⟩⟩
theorem fit_number (M : Nat) (w : World) (hg : GL w) (hM : 1 ≠ M) : FitV M w (.func (.func 116) #[] #[]) numberS :=
  ⟨_, _, rfl, Go.Proofs.enters_of Tryz.func116 (by kernel_rfl) rfl, fun s hs w5 h5 => number_any s w5 hs (hg.block (h5.block _ hg.size (fun e => hM (Option.some.inj e))))⟩
theorem fit_language (M : Nat) (w : World) : FitV M w (.func (.func 82) #[] #[]) languageS :=
  ⟨_, _, rfl, Go.Proofs.enters_of Tryz.func82 (by kernel_rfl) rfl, fun s hs w5 _ => language_own s w5 (by unfold maxLen; omega)⟩
theorem fit_script (M : Nat) (w : World) : FitV M w (.func (.func 83) #[] #[]) scriptS :=
  ⟨_, _, rfl, Go.Proofs.enters_of Tryz.func83 (by kernel_rfl) rfl, fun s hs w5 _ => script_own s w5 (by unfold maxLen; omega)⟩
theorem fit_region (M : Nat) (w : World) : FitV M w (.func (.func 84) #[] #[]) regionS :=
  ⟨_, _, rfl, Go.Proofs.enters_of Tryz.func84 (by kernel_rfl) rfl, fun s hs w5 _ => region_own s w5 (by unfold maxLen; omega)⟩
theorem fit_variant (M : Nat) (w : World) : FitV M w (.func (.func 119) #[] #[]) variantS :=
  ⟨_, _, rfl, Go.Proofs.enters_of Tryz.func119 (by kernel_rfl) rfl, fun s hs w5 _ => variant_own s w5 (by unfold maxLen; omega)⟩

/-! maybe. -/
set_option maxRecDepth 100000 in
theorem maybe1_any (s : ByteArray) (w : World) (B : Nat) (F : FuncId) (p : ByteArray → Bool) (hB : w.heap[B]? = some (.cells #[.func (.func F) #[] #[]] 180 (0, 0)))
    (hF : ∀ w5, Below w.heap.size w w5 → Calls Tryz.prog F #[.string s] w5 fun e w' => e = .returned (.bool (p s)) ∧ Below w5.heap.size w5 w') (eF : Enters Tryz.prog F) :
    Calls Tryz.prog 140 #[.string s, .pointer (some ⟨B, 0, none⟩)] w fun e w' => e = .returned (.bool (maybeS p s)) ∧ Below w.heap.size w w' := by
  have hc := cell_of_one hB
  have HF := Lib.hid (hF w (Below.refl _ _))
  have HM := Lib.hid (show maybeS p s = (noneS s || p s) from rfl)
  have HN := Lib.hid (fun w5 => none_any s w5)
  have eF' : ∀ args w, (callFunc F args).run Tryz.prog w = .ok (.enter F args) w := eF
  clear hF hB
  cases hn : noneS s with
  | true =>
    rw [hn] at HM HN
    clear hn
    go_enter Tryz.func140, Tryz.ntmps140
    go_wp2_with (go_at_call 117; (with_reducible refine (HN.out _).mono ?_); rintro e w5 ⟨rfl, rfl⟩)
    go_ret
    exact ⟨ret_bool HM.out.symm, Below.refl _ _⟩
  | false =>
    rw [hn] at HM HN
    clear hn
    generalize p s = q at *
    go_enter Tryz.func140, Tryz.ntmps140
    go_wp2_with (go_at_call 117; (with_reducible refine (HN.out _).mono ?_); rintro e w5 ⟨rfl, rfl⟩)
    refine HF.out.mono ?_
    rintro e w1 ⟨rfl, hb1⟩
    go_wp2_with fail
    go_ret
    exact ⟨ret_bool HM.out.symm, hb1⟩
theorem fit_maybe {M B : Nat} {w : World} {F : FuncId} {p : ByteArray → Bool} (hB : w.heap[B]? = some (.cells #[.func (.func F) #[] #[]] 180 (0, 0))) (hM : B ≠ M) (hF : FitV M w (.func (.func F) #[] #[]) p) :
    FitV M w (.func (.func 140) #[] #[.pointer (some ⟨B, 0, none⟩)]) (maybeS p) := by
  obtain ⟨F', C', h1, h2, h3⟩ := hF
  injection h1 with e1 _ e3
  injection e1 with e1
  subst e1 e3
  refine ⟨_, _, rfl, Go.Proofs.enters_of Tryz.func140 (by kernel_rfl) rfl, fun s hs w5 h5 => ?_⟩
  exact maybe1_any s w5 B F p ((h5.block B (lt_of_block hB) (fun e => hM (Option.some.inj e))).trans hB) (fun w6 h6 => h3 s hs w6 (gr_transY h5 (gr_of_below h6))) h2
theorem maybe_any (F : FuncId) (w : World) :
    Calls Tryz.prog 118 #[.func (.func F) #[] #[]] w fun e w' => e = .returned (.func (.func 140) #[] #[.pointer (some ⟨w.heap.size, 0, none⟩)]) ∧ w'.heap[w.heap.size]? = some (.cells #[.func (.func F) #[] #[]] 180 (0, 0)) ∧ Below w.heap.size w w' := by
  go_enter Tryz.func118, Tryz.ntmps118
  go_wp2
  go_ret
  exact ⟨rfl, World.alloc_heap_new w _, (Below.refl _ w).alloc (Nat.le_refl _) _⟩

/-! sized. -/
set_option maxRecDepth 100000 in
theorem sized1_any (s : ByteArray) (w : World) (B C : Nat) (lo hi : Nat) (hs : s.size ≤ 1048576) (hB : w.heap[B]? = some (.cells #[.int .i64 (lo : Int)] 3 (0, 0))) (hC : w.heap[C]? = some (.cells #[.int .i64 (hi : Int)] 3 (0, 0))) :
    Calls Tryz.prog 141 #[.string s, .pointer (some ⟨B, 0, none⟩), .pointer (some ⟨C, 0, none⟩)] w fun e w' => e = .returned (.bool (wordS lo hi s)) ∧ Below w.heap.size w w' := by
  have hcb := cell_of_one hB
  have hcc := cell_of_one hC
  have HA := Lib.hid (fun w5 => alnum_any s w5 (by unfold maxLen; omega))
  have HM := Lib.hid (show wordS lo hi s = (decide (lo ≤ s.size) && (decide (s.size ≤ hi) && alnumS s)) from rfl)
  clear hB hC
  generalize alnumS s = q at *
  by_cases h1 : lo ≤ s.size
  · have h1' : (lo : Int) ≤ (s.size : Int) := by omega
    rw [decide_eq_true h1] at HM
    by_cases h2 : s.size ≤ hi
    · have h2' : (s.size : Int) ≤ (hi : Int) := by omega
      rw [decide_eq_true h2] at HM
      clear h1 h2
      go_enter Tryz.func141, Tryz.ntmps141
      go_wp2_with (go_at_call 107; (with_reducible refine (HA.out _).mono ?_); rintro e w5 ⟨rfl, hb5⟩)
      go_ret
      exact ⟨ret_bool HM.out.symm, by assumption⟩
    · have h2' : ¬ (s.size : Int) ≤ (hi : Int) := by omega
      rw [decide_eq_false h2] at HM
      clear h1 h2
      go_enter Tryz.func141, Tryz.ntmps141
      go_wp2
      go_ret
      exact ⟨ret_bool HM.out.symm, Below.refl _ _⟩
  · have h1' : ¬ (lo : Int) ≤ (s.size : Int) := by omega
    rw [decide_eq_false h1] at HM
    clear h1
    go_enter Tryz.func141, Tryz.ntmps141
    go_wp2
    go_ret
    exact ⟨ret_bool HM.out.symm, Below.refl _ _⟩
theorem fit_sized {M B C : Nat} {w : World} {lo hi : Nat} (hB : w.heap[B]? = some (.cells #[.int .i64 (lo : Int)] 3 (0, 0))) (hC : w.heap[C]? = some (.cells #[.int .i64 (hi : Int)] 3 (0, 0))) (hM : B ≠ M) (hM2 : C ≠ M) :
    FitV M w (.func (.func 141) #[] #[.pointer (some ⟨B, 0, none⟩), .pointer (some ⟨C, 0, none⟩)]) (wordS lo hi) :=
  ⟨_, _, rfl, Go.Proofs.enters_of Tryz.func141 (by kernel_rfl) rfl, fun s hs w5 h5 =>
    sized1_any s w5 B C lo hi hs ((h5.block B (lt_of_block hB) (fun e => hM (Option.some.inj e))).trans hB) ((h5.block C (lt_of_block hC) (fun e => hM2 (Option.some.inj e))).trans hC)⟩
theorem sized_any (lo hi : Int) (w : World) :
    Calls Tryz.prog 120 #[.int .i64 lo, .int .i64 hi] w fun e w' => e = .returned (.func (.func 141) #[] #[.pointer (some ⟨w.heap.size, 0, none⟩), .pointer (some ⟨w.heap.size + 1, 0, none⟩)]) ∧ w'.heap[w.heap.size]? = some (.cells #[.int .i64 lo] 3 (0, 0)) ∧ w'.heap[w.heap.size + 1]? = some (.cells #[.int .i64 hi] 3 (0, 0)) ∧ Below w.heap.size w w' := by
  go_enter Tryz.func120, Tryz.ntmps120
  go_wp2
  go_ret
  refine ⟨rfl, ?_, ?_, ((Below.refl _ w).alloc (Nat.le_refl _) _).alloc (by simp) _⟩
  · exact (Below.heap_alloc _ _ _ (by simp)).trans (World.alloc_heap_new w _)
  · exact heap_alloc2_new w _ _

/-! must. -/
theorem cells5 {W : World} {B : Nat} {a b c d e : Value} {t : TypeId} (h : W.heap[B]? = some (.cells #[a, b, c, d, e] t (0, 0))) :
    (W.cell? ⟨B, 0, none⟩ = some a ∧ W.cell? ⟨B, 1, none⟩ = some b ∧ W.cell? ⟨B, 2, none⟩ = some c ∧ W.cell? ⟨B, 3, none⟩ = some d ∧ W.cell? ⟨B, 4, none⟩ = some e) ∧
    (W.frozen? ⟨B, 0, none⟩ = false ∧ W.frozen? ⟨B, 1, none⟩ = false ∧ W.frozen? ⟨B, 2, none⟩ = false ∧ W.frozen? ⟨B, 3, none⟩ = false ∧ W.frozen? ⟨B, 4, none⟩ = false) := by
  constructor
  · simp [World.cell?, h]
  · simp [World.frozen?, h]
theorem setY {w : World} {B k : Nat} {cs : Array Value} {t : TypeId} (h : w.heap[B]? = some (.cells cs t (0, 0))) (v : Value) : (w.setCell ⟨B, k, none⟩ v).heap[B]? = some (.cells (cs.setIfInBounds k v) t (0, 0)) := by
  simp [World.setCell, Array.getElem?_modify, h]
theorem store_cell {P : Program} {w : World} {B k : Nat} {cs : Array Value} {t : TypeId} (h : w.heap[B]? = some (.cells cs t (0, 0))) (hk : k < cs.size) {v : Value} (hv : v.oneCell' = true) : (store ⟨B, k, none⟩ v).run P w = .ok () (w.setCell ⟨B, k, none⟩ v) := by
  rw [run_store _ _ _ _ _ hv]
  have h1 : w.cell? ⟨B, k, none⟩ = some cs[k] := by simp [World.cell?, h, hk]
  have h2 : w.frozen? ⟨B, k, none⟩ = false := by simp [World.frozen?, h]
  simp [h1, h2]
/-- A row of five stored into a block of its own, cell by cell. -/
structure Sto5 (P : Program) (w W5 : World) (B : Nat) (t : TypeId) (b0 b1 b2 b3 b4 : Value) (W1 W2 W3 W4 : World) : Prop where
  s1 : (store ⟨B, 0, none⟩ b0).run P w = .ok () W1
  s2 : (store ⟨B, 1, none⟩ b1).run P W1 = .ok () W2
  s3 : (store ⟨B, 2, none⟩ b2).run P W2 = .ok () W3
  s4 : (store ⟨B, 3, none⟩ b3).run P W3 = .ok () W4
  s5 : (store ⟨B, 4, none⟩ b4).run P W4 = .ok () W5
  h : W5.heap[B]? = some (.cells #[b0, b1, b2, b3, b4] t (0, 0))
  bel : ∀ B0, B0 ≤ B → Below B0 w W5
theorem store5 {w : World} {B : Nat} {t : TypeId} {a0 a1 a2 a3 a4 : Value} (h : w.heap[B]? = some (.cells #[a0, a1, a2, a3, a4] t (0, 0))) (b0 b1 b2 b3 b4 : Value) :
    (((((w.setCell ⟨B, 0, none⟩ b0).setCell ⟨B, 1, none⟩ b1).setCell ⟨B, 2, none⟩ b2).setCell ⟨B, 3, none⟩ b3).setCell ⟨B, 4, none⟩ b4).heap[B]? = some (.cells #[b0, b1, b2, b3, b4] t (0, 0)) ∧
    ∀ B0, B0 ≤ B → Below B0 w (((((w.setCell ⟨B, 0, none⟩ b0).setCell ⟨B, 1, none⟩ b1).setCell ⟨B, 2, none⟩ b2).setCell ⟨B, 3, none⟩ b3).setCell ⟨B, 4, none⟩ b4) := by
  have e0 : (w.setCell ⟨B, 0, none⟩ b0).heap[B]? = some (.cells #[b0, a1, a2, a3, a4] t (0, 0)) := setY h b0
  have e1 : ((w.setCell ⟨B, 0, none⟩ b0).setCell ⟨B, 1, none⟩ b1).heap[B]? = some (.cells #[b0, b1, a2, a3, a4] t (0, 0)) := setY e0 b1
  have e2 : (((w.setCell ⟨B, 0, none⟩ b0).setCell ⟨B, 1, none⟩ b1).setCell ⟨B, 2, none⟩ b2).heap[B]? = some (.cells #[b0, b1, b2, a3, a4] t (0, 0)) := setY e1 b2
  have e3 : ((((w.setCell ⟨B, 0, none⟩ b0).setCell ⟨B, 1, none⟩ b1).setCell ⟨B, 2, none⟩ b2).setCell ⟨B, 3, none⟩ b3).heap[B]? = some (.cells #[b0, b1, b2, b3, a4] t (0, 0)) := setY e2 b3
  have e4 : (((((w.setCell ⟨B, 0, none⟩ b0).setCell ⟨B, 1, none⟩ b1).setCell ⟨B, 2, none⟩ b2).setCell ⟨B, 3, none⟩ b3).setCell ⟨B, 4, none⟩ b4).heap[B]? = some (.cells #[b0, b1, b2, b3, b4] t (0, 0)) := setY e3 b4
  exact ⟨e4, fun B0 hB => (((((Below.refl B0 w).setCell (p := ⟨B, 0, none⟩) hB b0).setCell (p := ⟨B, 1, none⟩) hB b1).setCell (p := ⟨B, 2, none⟩) hB b2).setCell (p := ⟨B, 3, none⟩) hB b3).setCell (p := ⟨B, 4, none⟩) hB b4⟩
theorem sto5 {P : Program} {w : World} {B : Nat} {t : TypeId} {a0 a1 a2 a3 a4 : Value} (h : w.heap[B]? = some (.cells #[a0, a1, a2, a3, a4] t (0, 0))) {b0 b1 b2 b3 b4 : Value}
    (v0 : b0.oneCell' = true) (v1 : b1.oneCell' = true) (v2 : b2.oneCell' = true) (v3 : b3.oneCell' = true) (v4 : b4.oneCell' = true) : ∃ W1 W2 W3 W4 W5, Sto5 P w W5 B t b0 b1 b2 b3 b4 W1 W2 W3 W4 := by
  have e0 : (w.setCell ⟨B, 0, none⟩ b0).heap[B]? = some (.cells #[b0, a1, a2, a3, a4] t (0, 0)) := setY h b0
  have e1 : ((w.setCell ⟨B, 0, none⟩ b0).setCell ⟨B, 1, none⟩ b1).heap[B]? = some (.cells #[b0, b1, a2, a3, a4] t (0, 0)) := setY e0 b1
  have e2 : (((w.setCell ⟨B, 0, none⟩ b0).setCell ⟨B, 1, none⟩ b1).setCell ⟨B, 2, none⟩ b2).heap[B]? = some (.cells #[b0, b1, b2, a3, a4] t (0, 0)) := setY e1 b2
  have e3 : ((((w.setCell ⟨B, 0, none⟩ b0).setCell ⟨B, 1, none⟩ b1).setCell ⟨B, 2, none⟩ b2).setCell ⟨B, 3, none⟩ b3).heap[B]? = some (.cells #[b0, b1, b2, b3, a4] t (0, 0)) := setY e2 b3
  exact ⟨_, _, _, _, _, store_cell h (by simp) v0, store_cell e0 (by simp) v1, store_cell e1 (by simp) v2, store_cell e2 (by simp) v3, store_cell e3 (by simp) v4, (store5 h b0 b1 b2 b3 b4).1, (store5 h b0 b1 b2 b3 b4).2⟩
structure KeepV (M : Nat) (w : World) (B : Nat) (f : Fv) : Prop where
  h : ∃ F1 F2 F3 F4 F5 C1 C2 C3 C4 C5, w.heap[B]? = some (.cells #[.func (.func F1) #[] C1, .func (.func F2) #[] C2, .func (.func F3) #[] C3, .func (.func F4) #[] C4, .func (.func F5) #[] C5] 205 (0, 0)) ∧
    FitV M w (.func (.func F1) #[] C1) f.f1 ∧ FitV M w (.func (.func F2) #[] C2) f.f2 ∧ FitV M w (.func (.func F3) #[] C3) f.f3 ∧ FitV M w (.func (.func F4) #[] C4) f.f4 ∧ FitV M w (.func (.func F5) #[] C5) f.f5
  ne : B ≠ M
theorem KeepV.lt {M B : Nat} {w : World} {f : Fv} (h : KeepV M w B f) : B < w.heap.size := by
  obtain ⟨_, _, _, _, _, _, _, _, _, _, h, _⟩ := h.h
  exact lt_of_block h
theorem KeepV.grown {M B : Nat} {w w' : World} {f : Fv} (h : KeepV M w B f) (hg : w.grownBy w' (some M)) : KeepV M w' B f := by
  obtain ⟨⟨F1, F2, F3, F4, F5, C1, C2, C3, C4, C5, h0, h1, h2, h3, h4, h5⟩, hn⟩ := h
  exact ⟨⟨F1, F2, F3, F4, F5, C1, C2, C3, C4, C5, (hg.block B (lt_of_block h0) (fun e => hn (Option.some.inj e))).trans h0, h1.grown hg, h2.grown hg, h3.grown hg, h4.grown hg, h5.grown hg⟩, hn⟩
set_option maxRecDepth 100000 in
set_option maxHeartbeats 4000000 in
theorem must_any (F1 F2 F3 F4 F5 : FuncId) (C1 C2 C3 C4 C5 : Array Value) (w : World) :
    Calls Tryz.prog 115 #[.func (.func F1) #[] C1, .func (.func F2) #[] C2, .func (.func F3) #[] C3, .func (.func F4) #[] C4, .func (.func F5) #[] C5] w fun e w' => e = .returned (.func (.func 137) #[] #[.pointer (some ⟨w.heap.size, 0, none⟩)]) ∧
      w'.heap[w.heap.size]? = some (.cells #[.func (.func F1) #[] C1, .func (.func F2) #[] C2, .func (.func F3) #[] C3, .func (.func F4) #[] C4, .func (.func F5) #[] C5] 205 (0, 0)) ∧ Below w.heap.size w w' := by
  have hA := World.alloc_heap_new w (.cells #[.nilFunc, .nilFunc, .nilFunc, .nilFunc, .nilFunc] 205)
  obtain ⟨W1, W2, W3, W4, W5, s1, s2, s3, s4, s5, h5, hb⟩ := sto5 (P := Tryz.prog) hA (b0 := .func (.func F1) #[] C1) (b1 := .func (.func F2) #[] C2) (b2 := .func (.func F3) #[] C3) (b3 := .func (.func F4) #[] C4) (b4 := .func (.func F5) #[] C5) rfl rfl rfl rfl rfl
  have HB := Lib.hid ((show Below w.heap.size w _ from (Below.refl _ w).alloc (Nat.le_refl _) _).trans (hb w.heap.size (Nat.le_refl _)))
  have H5 := Lib.hid h5
  clear hA h5 hb
  go_enter Tryz.func115, Tryz.ntmps115
  go_wp2
  go_ret
  exact ⟨rfl, H5.out, HB.out⟩
end Go.Proofs.YtbafmnafhaoggaaGreatDoor

/-! Package alias: the map of closures that tell what each kind must be; what is found in it. (Printed by wip/gen_ykinds.py.) -/
namespace Go.Proofs.YtbafmnafhaoggaaGreatDoor
open Go Go.RowKit Go.Maps

attribute [local go_sem] Oper.semAt_some

/-- What a closure of the map reads as: the block of what it has captured. -/
def mustV (g : Nat) : Value := .func (.func 137) #[] #[.pointer (some ⟨g, 0, none⟩)]
def mustR (v : Value) : Option (DataW Unit × List MemPlace) := match v with
  | .func (.func f) ⟨[]⟩ ⟨[.pointer (some ⟨g, 0, none⟩)]⟩ => if f = 137 then some (.lit (.int .i64 (g : Int)), []) else none
  | .nilFunc => some (.lit (.int .i64 (-1)), [])
  | _ => none
theorem mustR_func (g : Nat) : mustR (mustV g) = some (.lit (.int .i64 (g : Int)), []) := by simp [mustR, mustV]
theorem mustR_some {v : Value} {g : Nat} {ps : List MemPlace} (h : mustR v = some (.lit (.int .i64 (g : Int)), ps)) : v = mustV g := by
  unfold mustR at h
  split at h
  · split at h
    · rename_i hf
      simp only [Option.some.injEq, Prod.mk.injEq, DataW.lit.injEq, Lit.int.injEq, true_and] at h
      obtain ⟨e, _⟩ := h
      have := Int.ofNat.inj e
      subst this
      subst hf
      rfl
    · cases h
  · simp only [Option.some.injEq, Prod.mk.injEq, DataW.lit.injEq, Lit.int.injEq, true_and] at h
    have := h.1
    omega
  · cases h
theorem mustR_none {v : Value} {ps : List MemPlace} (h : mustR v = some (.lit (.int .i64 (-1)), ps)) : v = .nilFunc := by
  unfold mustR at h
  split at h
  · split at h
    · simp only [Option.some.injEq, Prod.mk.injEq, DataW.lit.injEq, Lit.int.injEq, true_and] at h
      have := h.1
      omega
    · cases h
  · rfl
  · cases h
theorem ownsMap_blockY {P : Program} {k : TypeId} {R : Value → Option (DataW Unit × List MemPlace)} {w w' : World} {b n : Nat} {D : DataW Unit} (h : w.ownsMap P k R b n D) (e : w'.heap[b]? = w.heap[b]?) : w'.ownsMap P k R b n D := by
  obtain ⟨es, clock, hb, r⟩ := h
  exact ⟨es, clock, by rw [e]; exact hb, r⟩
theorem ownsMap_ltY {P : Program} {k : TypeId} {R : Value → Option (DataW Unit × List MemPlace)} {w : World} {b n : Nat} {D : DataW Unit} (h : w.ownsMap P k R b n D) : b < w.heap.size := by
  obtain ⟨es, clock, hb, r⟩ := h
  exact lt_of_block hb
theorem wpList_insert_ownY {H : Type} {P : Program} (w : World) {ops : Array Oper} {rest : List Oper} {o : Oper} {a : Act} {Q : Exit → Act → World → Prop}
    (hg : o.guard = none) (m x v : Operand) (t : TypeId) (hop : o.op = Op.insert t m x v)
    (k e : TypeId) (K : Keyed P k) (ht : P.underlying t = some (.map k e)) (R : Value → Option (DataW H × List MemPlace)) (b n : Nat) (D : DataW H)
    (hm : a.eval m = .map (some b)) (hown : w.ownsMap P k R b n D) (hn : n < maxLen) (key val : Value) (kl : Lit) (hx : a.eval x = key) (hv : a.eval v = val) (hkey : keyOf P k key = some kl)
    (d : DataW H) (ps : List MemPlace) (hval : R val = some (d, ps))
    (hK : ∀ w', w'.ownsMap P k R b (n + 1) (D.put kl d) → w.grownBy w' (some b) → wpList P ops Q rest (a.put o.dst undef) w') :
    wpList P ops Q (o :: rest) a w := by
  refine wpList_plain hg fun K' hK' => ?_
  obtain ⟨w', hrun, r1, r2⟩ := hown.update K ht hn hkey hval
  unfold Oper.wp
  simp [execOp, hop, hm, hx, hv, hrun, Result.andThen]
  exact hK' _ _ (hK w' r1 r2)
theorem keyed_intY : Keyed Tryz.prog 3 := int_keyed Tryz.underlying3
set_option maxRecDepth 100000 in
theorem zero_mustY (w : World) : (zeroValue 60).run Tryz.prog w = .ok .nilFunc w := by rfl
def putY (D : DataW Unit) (k : Int) (g : Nat) : DataW Unit := D.put (.int .i64 k) (.lit (.int .i64 (g : Int)))
def kindsD (g1 g2 g3 g4 g5 g6 g7 : Nat) : DataW Unit := putY (putY (putY (putY (putY (putY (putY (.map []) 1 g1) 2 g2) 3 g3) 4 g4) 5 g5) 6 g6) 7 g7
theorem kindsD_eq (g1 g2 g3 g4 g5 g6 g7 : Nat) : kindsD g1 g2 g3 g4 g5 g6 g7 = .map [(.int .i64 1, .lit (.int .i64 (g1 : Int))), (.int .i64 2, .lit (.int .i64 (g2 : Int))), (.int .i64 3, .lit (.int .i64 (g3 : Int))), (.int .i64 4, .lit (.int .i64 (g4 : Int))), (.int .i64 5, .lit (.int .i64 (g5 : Int))), (.int .i64 6, .lit (.int .i64 (g6 : Int))), (.int .i64 7, .lit (.int .i64 (g7 : Int)))] := rfl
theorem look_in {w : World} {b k : Nat} {g1 g2 g3 g4 g5 g6 g7 : Nat} (h : w.ownsMap Tryz.prog 3 mustR b k (kindsD g1 g2 g3 g4 g5 g6 g7)) {n : Int} (hw : (Lit.int .i64 n).wf = true) {g : Nat}
    (h1 : (kindsD g1 g2 g3 g4 g5 g6 g7).atKey (.int .i64 n) (.lit (.int .i64 (-1))) = .lit (.int .i64 (g : Int))) (h2 : Maps.has (kindsD g1 g2 g3 g4 g5 g6 g7) (.int .i64 n) = true) :
    (Instr.lookup 162 (.map (some b)) (.int .i64 n) true).run Tryz.prog w = .ok (.tuple #[mustV g, .bool true]) w := by
  obtain ⟨v, ps, hrun, hv⟩ := h.look_ok keyed_intY Tryz.underlying162 (zero_mustY w) (show mustR .nilFunc = some (.lit (.int .i64 (-1)), []) from rfl) (keyOf_int_mk Tryz.underlying3 hw)
  rw [hrun, h2]
  rw [h1] at hv
  rw [mustR_some hv]
theorem look_out {w : World} {b k : Nat} {g1 g2 g3 g4 g5 g6 g7 : Nat} (h : w.ownsMap Tryz.prog 3 mustR b k (kindsD g1 g2 g3 g4 g5 g6 g7)) {n : Int} (hw : (Lit.int .i64 n).wf = true) (hn : ¬ (1 ≤ n ∧ n ≤ 7)) :
    (Instr.lookup 162 (.map (some b)) (.int .i64 n) true).run Tryz.prog w = .ok (.tuple #[.nilFunc, .bool false]) w := by
  obtain ⟨v, ps, hrun, hv⟩ := h.look_ok keyed_intY Tryz.underlying162 (zero_mustY w) (show mustR .nilFunc = some (.lit (.int .i64 (-1)), []) from rfl) (keyOf_int_mk Tryz.underlying3 hw)
  have ne : ∀ m : Int, 1 ≤ m → m ≤ 7 → Lit.sameKey (.int .i64 m) (.int .i64 n) = false := fun m a b => by
    unfold Lit.sameKey; rw [decide_eq_false_iff_not]; omega
  have e1 := ne 1 (by decide) (by decide)
  have e2 := ne 2 (by decide) (by decide)
  have e3 := ne 3 (by decide) (by decide)
  have e4 := ne 4 (by decide) (by decide)
  have e5 := ne 5 (by decide) (by decide)
  have e6 := ne 6 (by decide) (by decide)
  have e7 := ne 7 (by decide) (by decide)
  rw [kindsD_eq] at hv hrun
  have ha : (DataW.map [(.int .i64 1, .lit (.int .i64 (g1 : Int))), (.int .i64 2, .lit (.int .i64 (g2 : Int))), (.int .i64 3, .lit (.int .i64 (g3 : Int))), (.int .i64 4, .lit (.int .i64 (g4 : Int))), (.int .i64 5, .lit (.int .i64 (g5 : Int))), (.int .i64 6, .lit (.int .i64 (g6 : Int))), (.int .i64 7, .lit (.int .i64 (g7 : Int)))] : DataW Unit).atKey (.int .i64 n) (.lit (.int .i64 (-1))) = .lit (.int .i64 (-1)) := by simp [DataW.atKey, e1, e2, e3, e4, e5, e6, e7]
  have hh : Maps.has (DataW.map [(.int .i64 1, .lit (.int .i64 (g1 : Int))), (.int .i64 2, .lit (.int .i64 (g2 : Int))), (.int .i64 3, .lit (.int .i64 (g3 : Int))), (.int .i64 4, .lit (.int .i64 (g4 : Int))), (.int .i64 5, .lit (.int .i64 (g5 : Int))), (.int .i64 6, .lit (.int .i64 (g6 : Int))), (.int .i64 7, .lit (.int .i64 (g7 : Int)))] : DataW Unit) (.int .i64 n) = false := by simp [Maps.has, e1, e2, e3, e4, e5, e6, e7]
  rw [ha] at hv
  rw [hrun, hh, mustR_none hv]


set_option maxRecDepth 100000 in
set_option maxHeartbeats 4000000 in
theorem kinds_any (w : World) (hg : GL w) :
    Calls Tryz.prog 97 #[] w fun e w' => e = .returned (.map (some w.heap.size)) ∧ ((∃ g1 g2 g3 g4 g5 g6 g7, w'.ownsMap Tryz.prog 3 mustR w.heap.size 7 (kindsD g1 g2 g3 g4 g5 g6 g7) ∧
      KeepV w.heap.size w' g1 (fvs 1) ∧ KeepV w.heap.size w' g2 (fvs 2) ∧ KeepV w.heap.size w' g3 (fvs 3) ∧ KeepV w.heap.size w' g4 (fvs 4) ∧ KeepV w.heap.size w' g5 (fvs 5) ∧ KeepV w.heap.size w' g6 (fvs 6) ∧ KeepV w.heap.size w' g7 (fvs 7)) ∧ Below w.heap.size w w') := by
  have hgs := hg.size
  obtain ⟨W0, hW0⟩ : ∃ W0, w.alloc (.map #[] 0) = W0 := ⟨_, rfl⟩
  have o0 : W0.ownsMap Tryz.prog 3 mustR w.heap.size 0 (.map []) := by rw [← hW0]; exact World.ownsMap_made w Tryz.prog 3 mustR
  have hb0 : Below w.heap.size w W0 := by rw [← hW0]; exact (Below.refl _ w).alloc (Nat.le_refl _) _
  have HG := Lib.hid hg
  have HB0 := Lib.hid hb0
  have HO0 := Lib.hid o0
  clear hg hb0 o0
  have hmm := @run_makeMap Tryz.prog
  go_enter Tryz.func97, Tryz.ntmps97
  go_wp2_with fail
  clear hW0 hmm
  refine (maybe_any 83 W0).mono ?_
  rintro e w1 ⟨rfl, h1, hb1⟩
  have X1 := Lib.hid (And.intro h1 hb1)
  have HO1 := Lib.hid (ownsMap_blockY HO0.out (hb1.block _ (ownsMap_ltY HO0.out)))
  clear h1 hb1
  go_wp2_with fail
  refine (maybe_any 84 w1).mono ?_
  rintro e w2 ⟨rfl, h2, hb2⟩
  have X2 := Lib.hid (And.intro h2 hb2)
  have HO2 := Lib.hid (ownsMap_blockY HO1.out (hb2.block _ (ownsMap_ltY HO1.out)))
  clear h2 hb2
  go_wp2_with fail
  refine (must_any 116 117 82 140 140 #[] #[] #[] (#[.pointer (some ⟨W0.heap.size, 0, none⟩)]) (#[.pointer (some ⟨w1.heap.size, 0, none⟩)]) w2).mono ?_
  rintro e w3 ⟨rfl, h3, hb3⟩
  have X3 := Lib.hid (And.intro h3 hb3)
  have HO3 := Lib.hid (ownsMap_blockY HO2.out (hb3.block _ (ownsMap_ltY HO2.out)))
  clear h3 hb3
  go_wp2_with (refine wpList_insert_ownY _ rfl _ _ _ 162 rfl 3 60 keyed_intY Tryz.underlying162 mustR w.heap.size 0 _ rfl HO3.out (by decide) (.int .i64 1) (mustV w2.heap.size) (.int .i64 1) rfl rfl (keyOf_int_mk Tryz.underlying3 (by decide)) _ _ (mustR_func _) ?_; intro w4 ho4 hgr4; have HO4 := Lib.hid ho4; have X4 := Lib.hid hgr4; clear ho4 hgr4)
  refine (must_any 82 84 82 117 117 #[] #[] #[] #[] #[] w4).mono ?_
  rintro e w5 ⟨rfl, h5, hb5⟩
  have X5 := Lib.hid (And.intro h5 hb5)
  have HO5 := Lib.hid (ownsMap_blockY HO4.out (hb5.block _ (ownsMap_ltY HO4.out)))
  clear h5 hb5
  go_wp2_with (refine wpList_insert_ownY _ rfl _ _ _ 162 rfl 3 60 keyed_intY Tryz.underlying162 mustR w.heap.size 1 _ rfl HO5.out (by decide) (.int .i64 2) (mustV w4.heap.size) (.int .i64 2) rfl rfl (keyOf_int_mk Tryz.underlying3 (by decide)) _ _ (mustR_func _) ?_; intro w6 ho6 hgr6; have HO6 := Lib.hid ho6; have X6 := Lib.hid hgr6; clear ho6 hgr6)
  refine (maybe_any 83 w6).mono ?_
  rintro e w7 ⟨rfl, h7, hb7⟩
  have X7 := Lib.hid (And.intro h7 hb7)
  have HO7 := Lib.hid (ownsMap_blockY HO6.out (hb7.block _ (ownsMap_ltY HO6.out)))
  clear h7 hb7
  go_wp2_with fail
  refine (maybe_any 84 w7).mono ?_
  rintro e w8 ⟨rfl, h8, hb8⟩
  have X8 := Lib.hid (And.intro h8 hb8)
  have HO8 := Lib.hid (ownsMap_blockY HO7.out (hb8.block _ (ownsMap_ltY HO7.out)))
  clear h8 hb8
  go_wp2_with fail
  refine (must_any 82 117 82 140 140 #[] #[] #[] (#[.pointer (some ⟨w6.heap.size, 0, none⟩)]) (#[.pointer (some ⟨w7.heap.size, 0, none⟩)]) w8).mono ?_
  rintro e w9 ⟨rfl, h9, hb9⟩
  have X9 := Lib.hid (And.intro h9 hb9)
  have HO9 := Lib.hid (ownsMap_blockY HO8.out (hb9.block _ (ownsMap_ltY HO8.out)))
  clear h9 hb9
  go_wp2_with (refine wpList_insert_ownY _ rfl _ _ _ 162 rfl 3 60 keyed_intY Tryz.underlying162 mustR w.heap.size 2 _ rfl HO9.out (by decide) (.int .i64 3) (mustV w8.heap.size) (.int .i64 3) rfl rfl (keyOf_int_mk Tryz.underlying3 (by decide)) _ _ (mustR_func _) ?_; intro w10 ho10 hgr10; have HO10 := Lib.hid ho10; have X10 := Lib.hid hgr10; clear ho10 hgr10)
  refine (must_any 83 117 117 83 117 #[] #[] #[] #[] #[] w10).mono ?_
  rintro e w11 ⟨rfl, h11, hb11⟩
  have X11 := Lib.hid (And.intro h11 hb11)
  have HO11 := Lib.hid (ownsMap_blockY HO10.out (hb11.block _ (ownsMap_ltY HO10.out)))
  clear h11 hb11
  go_wp2_with (refine wpList_insert_ownY _ rfl _ _ _ 162 rfl 3 60 keyed_intY Tryz.underlying162 mustR w.heap.size 3 _ rfl HO11.out (by decide) (.int .i64 4) (mustV w10.heap.size) (.int .i64 4) rfl rfl (keyOf_int_mk Tryz.underlying3 (by decide)) _ _ (mustR_func _) ?_; intro w12 ho12 hgr12; have HO12 := Lib.hid ho12; have X12 := Lib.hid hgr12; clear ho12 hgr12)
  refine (must_any 84 117 117 117 84 #[] #[] #[] #[] #[] w12).mono ?_
  rintro e w13 ⟨rfl, h13, hb13⟩
  have X13 := Lib.hid (And.intro h13 hb13)
  have HO13 := Lib.hid (ownsMap_blockY HO12.out (hb13.block _ (ownsMap_ltY HO12.out)))
  clear h13 hb13
  go_wp2_with (refine wpList_insert_ownY _ rfl _ _ _ 162 rfl 3 60 keyed_intY Tryz.underlying162 mustR w.heap.size 4 _ rfl HO13.out (by decide) (.int .i64 5) (mustV w12.heap.size) (.int .i64 5) rfl rfl (keyOf_int_mk Tryz.underlying3 (by decide)) _ _ (mustR_func _) ?_; intro w14 ho14 hgr14; have HO14 := Lib.hid ho14; have X14 := Lib.hid hgr14; clear ho14 hgr14)
  refine (maybe_any 119 w14).mono ?_
  rintro e w15 ⟨rfl, h15, hb15⟩
  have X15 := Lib.hid (And.intro h15 hb15)
  have HO15 := Lib.hid (ownsMap_blockY HO14.out (hb15.block _ (ownsMap_ltY HO14.out)))
  clear h15 hb15
  go_wp2_with fail
  refine (must_any 119 117 140 117 117 #[] #[] (#[.pointer (some ⟨w14.heap.size, 0, none⟩)]) #[] #[] w15).mono ?_
  rintro e w16 ⟨rfl, h16, hb16⟩
  have X16 := Lib.hid (And.intro h16 hb16)
  have HO16 := Lib.hid (ownsMap_blockY HO15.out (hb16.block _ (ownsMap_ltY HO15.out)))
  clear h16 hb16
  go_wp2_with (refine wpList_insert_ownY _ rfl _ _ _ 162 rfl 3 60 keyed_intY Tryz.underlying162 mustR w.heap.size 5 _ rfl HO16.out (by decide) (.int .i64 6) (mustV w15.heap.size) (.int .i64 6) rfl rfl (keyOf_int_mk Tryz.underlying3 (by decide)) _ _ (mustR_func _) ?_; intro w17 ho17 hgr17; have HO17 := Lib.hid ho17; have X17 := Lib.hid hgr17; clear ho17 hgr17)
  refine (sized_any 2 2 w17).mono ?_
  rintro e w18 ⟨rfl, h18, k18, hb18⟩
  have X18 := Lib.hid (And.intro (And.intro h18 k18) hb18)
  have HO18 := Lib.hid (ownsMap_blockY HO17.out (hb18.block _ (ownsMap_ltY HO17.out)))
  clear h18 k18 hb18
  go_wp2_with fail
  refine (sized_any 3 8 w18).mono ?_
  rintro e w19 ⟨rfl, h19, k19, hb19⟩
  have X19 := Lib.hid (And.intro (And.intro h19 k19) hb19)
  have HO19 := Lib.hid (ownsMap_blockY HO18.out (hb19.block _ (ownsMap_ltY HO18.out)))
  clear h19 k19 hb19
  go_wp2_with fail
  refine (sized_any 3 8 w19).mono ?_
  rintro e w20 ⟨rfl, h20, k20, hb20⟩
  have X20 := Lib.hid (And.intro (And.intro h20 k20) hb20)
  have HO20 := Lib.hid (ownsMap_blockY HO19.out (hb20.block _ (ownsMap_ltY HO19.out)))
  clear h20 k20 hb20
  go_wp2_with fail
  refine (must_any 141 141 141 117 117 (#[.pointer (some ⟨w17.heap.size, 0, none⟩), .pointer (some ⟨w17.heap.size + 1, 0, none⟩)]) (#[.pointer (some ⟨w18.heap.size, 0, none⟩), .pointer (some ⟨w18.heap.size + 1, 0, none⟩)]) (#[.pointer (some ⟨w19.heap.size, 0, none⟩), .pointer (some ⟨w19.heap.size + 1, 0, none⟩)]) #[] #[] w20).mono ?_
  rintro e w21 ⟨rfl, h21, hb21⟩
  have X21 := Lib.hid (And.intro h21 hb21)
  have HO21 := Lib.hid (ownsMap_blockY HO20.out (hb21.block _ (ownsMap_ltY HO20.out)))
  clear h21 hb21
  go_wp2_with (refine wpList_insert_ownY _ rfl _ _ _ 162 rfl 3 60 keyed_intY Tryz.underlying162 mustR w.heap.size 6 _ rfl HO21.out (by decide) (.int .i64 7) (mustV w20.heap.size) (.int .i64 7) rfl rfl (keyOf_int_mk Tryz.underlying3 (by decide)) _ _ (mustR_func _) ?_; intro w22 ho22 hgr22; have HO22 := Lib.hid ho22; have X22 := Lib.hid hgr22; clear ho22 hgr22)
  go_ret
  have q0 : W0.grownBy W0 (some w.heap.size) := World.grownBy.refl W0 _
  have t1 : W0.grownBy w1 (some w.heap.size) := gr_of_below X1.out.2
  have q1 := gr_transY q0 t1
  have t2 : w1.grownBy w2 (some w.heap.size) := gr_of_below X2.out.2
  have q2 := gr_transY q1 t2
  have t3 : w2.grownBy w3 (some w.heap.size) := gr_of_below X3.out.2
  have q3 := gr_transY q2 t3
  have t4 : w3.grownBy w4 (some w.heap.size) := X4.out
  have q4 := gr_transY q3 t4
  have t5 : w4.grownBy w5 (some w.heap.size) := gr_of_below X5.out.2
  have q5 := gr_transY q4 t5
  have t6 : w5.grownBy w6 (some w.heap.size) := X6.out
  have q6 := gr_transY q5 t6
  have t7 : w6.grownBy w7 (some w.heap.size) := gr_of_below X7.out.2
  have q7 := gr_transY q6 t7
  have t8 : w7.grownBy w8 (some w.heap.size) := gr_of_below X8.out.2
  have q8 := gr_transY q7 t8
  have t9 : w8.grownBy w9 (some w.heap.size) := gr_of_below X9.out.2
  have q9 := gr_transY q8 t9
  have t10 : w9.grownBy w10 (some w.heap.size) := X10.out
  have q10 := gr_transY q9 t10
  have t11 : w10.grownBy w11 (some w.heap.size) := gr_of_below X11.out.2
  have q11 := gr_transY q10 t11
  have t12 : w11.grownBy w12 (some w.heap.size) := X12.out
  have q12 := gr_transY q11 t12
  have t13 : w12.grownBy w13 (some w.heap.size) := gr_of_below X13.out.2
  have q13 := gr_transY q12 t13
  have t14 : w13.grownBy w14 (some w.heap.size) := X14.out
  have q14 := gr_transY q13 t14
  have t15 : w14.grownBy w15 (some w.heap.size) := gr_of_below X15.out.2
  have q15 := gr_transY q14 t15
  have t16 : w15.grownBy w16 (some w.heap.size) := gr_of_below X16.out.2
  have q16 := gr_transY q15 t16
  have t17 : w16.grownBy w17 (some w.heap.size) := X17.out
  have q17 := gr_transY q16 t17
  have t18 : w17.grownBy w18 (some w.heap.size) := gr_of_below X18.out.2
  have q18 := gr_transY q17 t18
  have t19 : w18.grownBy w19 (some w.heap.size) := gr_of_below X19.out.2
  have q19 := gr_transY q18 t19
  have t20 : w19.grownBy w20 (some w.heap.size) := gr_of_below X20.out.2
  have q20 := gr_transY q19 t20
  have t21 : w20.grownBy w21 (some w.heap.size) := gr_of_below X21.out.2
  have q21 := gr_transY q20 t21
  have t22 : w21.grownBy w22 (some w.heap.size) := X22.out
  have q22 := gr_transY q21 t22
  have s0 : w.heap.size < W0.heap.size := ownsMap_ltY HO0.out
  have neS : ∀ (Wx : World), W0.grownBy Wx (some w.heap.size) → Wx.heap.size ≠ w.heap.size := fun Wx h => by have := h.size; omega
  have neT : ∀ (Wx : World), W0.grownBy Wx (some w.heap.size) → Wx.heap.size + 1 ≠ w.heap.size := fun Wx h => by have := h.size; omega
  have r22 : w22.grownBy w22 (some w.heap.size) := World.grownBy.refl _ _
  have r21 : w21.grownBy w22 (some w.heap.size) := gr_transY t22 r22
  have r20 : w20.grownBy w22 (some w.heap.size) := gr_transY t21 r21
  have r19 : w19.grownBy w22 (some w.heap.size) := gr_transY t20 r20
  have r18 : w18.grownBy w22 (some w.heap.size) := gr_transY t19 r19
  have r17 : w17.grownBy w22 (some w.heap.size) := gr_transY t18 r18
  have r16 : w16.grownBy w22 (some w.heap.size) := gr_transY t17 r17
  have r15 : w15.grownBy w22 (some w.heap.size) := gr_transY t16 r16
  have r14 : w14.grownBy w22 (some w.heap.size) := gr_transY t15 r15
  have r13 : w13.grownBy w22 (some w.heap.size) := gr_transY t14 r14
  have r12 : w12.grownBy w22 (some w.heap.size) := gr_transY t13 r13
  have r11 : w11.grownBy w22 (some w.heap.size) := gr_transY t12 r12
  have r10 : w10.grownBy w22 (some w.heap.size) := gr_transY t11 r11
  have r9 : w9.grownBy w22 (some w.heap.size) := gr_transY t10 r10
  have r8 : w8.grownBy w22 (some w.heap.size) := gr_transY t9 r9
  have r7 : w7.grownBy w22 (some w.heap.size) := gr_transY t8 r8
  have r6 : w6.grownBy w22 (some w.heap.size) := gr_transY t7 r7
  have r5 : w5.grownBy w22 (some w.heap.size) := gr_transY t6 r6
  have r4 : w4.grownBy w22 (some w.heap.size) := gr_transY t5 r5
  have r3 : w3.grownBy w22 (some w.heap.size) := gr_transY t4 r4
  have r2 : w2.grownBy w22 (some w.heap.size) := gr_transY t3 r3
  have r1 : w1.grownBy w22 (some w.heap.size) := gr_transY t2 r2
  have G3 : GL w3 := HG.out.block ((q3.block _ (Nat.lt_trans hgs s0) (fun e => absurd (Option.some.inj e) (Nat.ne_of_lt hgs))).trans (HB0.out.block _ hgs))
  have K1 : KeepV w.heap.size w22 w2.heap.size (fvs 1) := KeepV.grown ⟨⟨_, _, _, _, _, _, _, _, _, _, X3.out.1, (fit_number _ _ G3 (Nat.ne_of_lt hgs)), (fit_none _ _), (fit_language _ _), ((fit_maybe X1.out.1 (neS _ q0) (fit_script _ _)).grown (gr_transY t2 t3)), ((fit_maybe X2.out.1 (neS _ q1) (fit_region _ _)).grown t3)⟩, neS _ q2⟩ r3
  have K2 : KeepV w.heap.size w22 w4.heap.size (fvs 2) := KeepV.grown ⟨⟨_, _, _, _, _, _, _, _, _, _, X5.out.1, (fit_language _ _), (fit_region _ _), (fit_language _ _), (fit_none _ _), (fit_none _ _)⟩, neS _ q4⟩ r5
  have K3 : KeepV w.heap.size w22 w8.heap.size (fvs 3) := KeepV.grown ⟨⟨_, _, _, _, _, _, _, _, _, _, X9.out.1, (fit_language _ _), (fit_none _ _), (fit_language _ _), ((fit_maybe X7.out.1 (neS _ q6) (fit_script _ _)).grown (gr_transY t8 t9)), ((fit_maybe X8.out.1 (neS _ q7) (fit_region _ _)).grown t9)⟩, neS _ q8⟩ r9
  have K4 : KeepV w.heap.size w22 w10.heap.size (fvs 4) := KeepV.grown ⟨⟨_, _, _, _, _, _, _, _, _, _, X11.out.1, (fit_script _ _), (fit_none _ _), (fit_none _ _), (fit_script _ _), (fit_none _ _)⟩, neS _ q10⟩ r11
  have K5 : KeepV w.heap.size w22 w12.heap.size (fvs 5) := KeepV.grown ⟨⟨_, _, _, _, _, _, _, _, _, _, X13.out.1, (fit_region _ _), (fit_none _ _), (fit_none _ _), (fit_none _ _), (fit_region _ _)⟩, neS _ q12⟩ r13
  have K6 : KeepV w.heap.size w22 w15.heap.size (fvs 6) := KeepV.grown ⟨⟨_, _, _, _, _, _, _, _, _, _, X16.out.1, (fit_variant _ _), (fit_none _ _), ((fit_maybe X15.out.1 (neS _ q14) (fit_variant _ _)).grown t16), (fit_none _ _), (fit_none _ _)⟩, neS _ q15⟩ r16
  have K7 : KeepV w.heap.size w22 w20.heap.size (fvs 7) := KeepV.grown ⟨⟨_, _, _, _, _, _, _, _, _, _, X21.out.1, ((fit_sized (lo := 2) (hi := 2) X18.out.1.1 X18.out.1.2 (neS _ q17) (neT _ q17)).grown (gr_transY (gr_transY t19 t20) t21)), ((fit_sized (lo := 3) (hi := 8) X19.out.1.1 X19.out.1.2 (neS _ q18) (neT _ q18)).grown (gr_transY t20 t21)), ((fit_sized (lo := 3) (hi := 8) X20.out.1.1 X20.out.1.2 (neS _ q19) (neT _ q19)).grown t21), (fit_none _ _), (fit_none _ _)⟩, neS _ q20⟩ r21
  refine ⟨rfl, ⟨_, _, _, _, _, _, _, HO22.out, K1, K2, K3, K4, K5, K6, K7⟩, ?_⟩
  exact ⟨q22.os.trans HB0.out.os, q22.tape.trans HB0.out.tape, q22.output.trans HB0.out.output, Nat.le_trans HB0.out.size q22.size, fun k hk => (q22.block k (Nat.lt_trans hk s0) (fun e => absurd (Option.some.inj e) (Nat.ne_of_lt hk))).trans (HB0.out.block k hk)⟩
end Go.Proofs.YtbafmnafhaoggaaGreatDoor

/-! Package alias: fields, the closure that tells whether an alias is what it must be, Right. (Printed by wip/gen_yright.py.) -/
namespace Go.Proofs.YtbafmnafhaoggaaGreatDoor
open Go Go.RowKit

theorem size5P : (Tryz.prog.info? 164).map (·.size) = some 5 := by kernel_rfl
set_option maxRecDepth 100000 in
set_option maxHeartbeats 1000000 in
theorem fields_any (b : Nat) (w : World) :
    Calls Tryz.prog 98 #[.pointer (some ⟨b, 0, none⟩)] w fun e w' => e = .returned (.agg #[.pointer (some ⟨b, 1, none⟩), .pointer (some ⟨b, 2, none⟩), .pointer (some ⟨b, 3, none⟩), .pointer (some ⟨b, 4, none⟩), .pointer (some ⟨b, 5, none⟩)]) ∧ Below w.heap.size w w' := by
  go_enter Tryz.func98, Tryz.ntmps98
  go_wp2
  go_region
  go_wp2
  refine bodyPost_ret (results_cell_row rfl _ _ w.heap.size 164 _ (0, 0) _ rfl (World.alloc_heap_new w _) Tryz.underlying164 rfl size5P) rfl ?_
  first
  | exact ⟨rfl, Below.drew ((Below.refl _ w).alloc (Nat.le_refl _) _)⟩
  | exact ⟨rfl, (Below.refl _ w).alloc (Nat.le_refl _) _⟩

/-! must's closure. -/
theorem held_shell {P : Program} {md : Region.Mode} {ops : Array Oper} {S : World → Prop} {Q : Exit → Act → World → Prop} {n : Nat} {l : Array Bool} {a : Act} {w : World} {aF : Act} (h1 : ∀ c (a : Act) d v w, Q (.panic c) (a.put d v) w → Q (.panic c) a w) (h2 : ∀ w, S w → Q .normal aF w)
    (h3 : ∀ K : Exit → Act → World → Prop, (∀ c (a : Act) d v w, K (.panic c) (a.put d v) w → K (.panic c) a w) → (∀ w, S w → K .normal aF w) → wpAnyH P md ops K S n l a w) : wpAnyH P md ops Q S n l a w := h3 Q h1 h2
def bLY (f : Fv) (x : Al) : List Bool := [f.f1 x.a && smallS x.a, f.f2 x.b && smallS x.b, f.f3 x.l && smallS x.l, f.f4 x.s && smallS x.s, f.f5 x.r && smallS x.r]
theorem must_all (f : Fv) (x : Al) : mustA f x = (bLY f x).all id := by simp [mustA, bLY]
theorem must_step {f : Fv} {x : Al} {k : Nat} (h : (bLY f x)[k]? = some true) (hp : ((bLY f x).take k).all id = true) : ((bLY f x).take (k + 1)).all id = true := by
  rw [List.take_add_one, h, List.all_append, hp]; rfl
theorem must_false {f : Fv} {x : Al} {k : Nat} (h : (bLY f x)[k]? = some false) : mustA f x = false := by
  rw [must_all]
  cases hh : (bLY f x).all id with
  | false => rfl
  | true =>
    have := List.all_eq_true.1 hh false (List.mem_of_getElem? h)
    cases this
theorem must_full {f : Fv} {x : Al} (h : ((bLY f x).take 5).all id = true) : mustA f x = true := by rw [must_all]; exact h
theorem FitV.call {M : Nat} {w : World} {F : FuncId} {C : Array Value} {p : ByteArray → Bool} (h : FitV M w (.func (.func F) #[] C) p) :
    Enters Tryz.prog F ∧ ∀ s : ByteArray, s.size ≤ 1048576 → ∀ w5, w.grownBy w5 (some M) → Calls Tryz.prog F (#[.string s] ++ C) w5 fun e w' => e = .returned (.bool (p s)) ∧ Below w5.heap.size w5 w' := by
  obtain ⟨F', C', h1, h2, h3⟩ := h
  injection h1 with e1 _ e3
  injection e1 with e1
  subst e1 e3
  exact ⟨h2, h3⟩

theorem index5_0 (b : Nat) (w : World) : (Instr.index 164 (.agg #[.pointer (some ⟨b, 1, none⟩), .pointer (some ⟨b, 2, none⟩), .pointer (some ⟨b, 3, none⟩), .pointer (some ⟨b, 4, none⟩), .pointer (some ⟨b, 5, none⟩)]) (.int .i64 0)).run Tryz.prog w = .ok (.pointer (some ⟨b, 1, none⟩)) w := by kernel_rfl
theorem index5_1 (b : Nat) (w : World) : (Instr.index 164 (.agg #[.pointer (some ⟨b, 1, none⟩), .pointer (some ⟨b, 2, none⟩), .pointer (some ⟨b, 3, none⟩), .pointer (some ⟨b, 4, none⟩), .pointer (some ⟨b, 5, none⟩)]) (.int .i64 1)).run Tryz.prog w = .ok (.pointer (some ⟨b, 2, none⟩)) w := by kernel_rfl
theorem index5_2 (b : Nat) (w : World) : (Instr.index 164 (.agg #[.pointer (some ⟨b, 1, none⟩), .pointer (some ⟨b, 2, none⟩), .pointer (some ⟨b, 3, none⟩), .pointer (some ⟨b, 4, none⟩), .pointer (some ⟨b, 5, none⟩)]) (.int .i64 2)).run Tryz.prog w = .ok (.pointer (some ⟨b, 3, none⟩)) w := by kernel_rfl
theorem index5_3 (b : Nat) (w : World) : (Instr.index 164 (.agg #[.pointer (some ⟨b, 1, none⟩), .pointer (some ⟨b, 2, none⟩), .pointer (some ⟨b, 3, none⟩), .pointer (some ⟨b, 4, none⟩), .pointer (some ⟨b, 5, none⟩)]) (.int .i64 3)).run Tryz.prog w = .ok (.pointer (some ⟨b, 4, none⟩)) w := by kernel_rfl
theorem index5_4 (b : Nat) (w : World) : (Instr.index 164 (.agg #[.pointer (some ⟨b, 1, none⟩), .pointer (some ⟨b, 2, none⟩), .pointer (some ⟨b, 3, none⟩), .pointer (some ⟨b, 4, none⟩), .pointer (some ⟨b, 5, none⟩)]) (.int .i64 4)).run Tryz.prog w = .ok (.pointer (some ⟨b, 5, none⟩)) w := by kernel_rfl
theorem cells6 {W : World} {B : Nat} {a b c d e f : Value} {t : TypeId} (h : W.heap[B]? = some (.cells #[a, b, c, d, e, f] t (0, 0))) :
    W.cell? ⟨B, 0, none⟩ = some a ∧ W.cell? ⟨B, 1, none⟩ = some b ∧ W.cell? ⟨B, 2, none⟩ = some c ∧ W.cell? ⟨B, 3, none⟩ = some d ∧ W.cell? ⟨B, 4, none⟩ = some e ∧ W.cell? ⟨B, 5, none⟩ = some f := by
  simp [World.cell?, h]

set_option maxRecDepth 100000 in
set_option maxHeartbeats 8000000 in
theorem must1_any (x : Al) (w : World) (M B : Nat) (f : Fv) (hK : KeepV M w B f) (z1 : x.a.size ≤ 1048576) (z2 : x.b.size ≤ 1048576) (z3 : x.l.size ≤ 1048576) (z4 : x.s.size ≤ 1048576) (z5 : x.r.size ≤ 1048576) :
    Calls Tryz.prog 137 #[.agg #[.int .i64 x.k, .string x.a, .string x.b, .string x.l, .string x.s, .string x.r], .pointer (some ⟨B, 0, none⟩)] w fun e w' => e = .returned (.bool (mustA f x)) ∧ Below w.heap.size w w' := by
  obtain ⟨⟨F1, F2, F3, F4, F5, C1, C2, C3, C4, C5, h0, f1, f2, f3, f4, f5⟩, hn⟩ := hK
  obtain ⟨W1, hW1⟩ : ∃ W1, w.alloc (.cells #[.int .i64 x.k, .string x.a, .string x.b, .string x.l, .string x.s, .string x.r] 42) = W1 := ⟨_, rfl⟩
  have hb1 : Below w.heap.size w W1 := by rw [← hW1]; exact (Below.refl _ w).alloc (Nat.le_refl _) _
  have hA : W1.heap[w.heap.size]? = some (.cells #[.int .i64 x.k, .string x.a, .string x.b, .string x.l, .string x.s, .string x.r] 42 (0, 0)) := by rw [← hW1]; exact World.alloc_heap_new w _
  have h01 := (hb1.block B (lt_of_block h0)).trans h0
  have hc6 := Lib.hid (fun w' (hb : Below W1.heap.size W1 w') => cells6 ((hb.block _ (lt_of_block hA)).trans hA))
  have hc5 := Lib.hid (fun w' (hb : Below W1.heap.size W1 w') => (cells5 ((hb.block _ (lt_of_block h01)).trans h01)).1)
  have hB0 := Lib.hid (fun w' (hb : Below W1.heap.size W1 w') => hb1.trans (hb.mono hb1.size))
  have c1 := (f1.grown (gr_of_below hb1)).call
  have E1 : ∀ args w, (callFunc F1 args).run Tryz.prog w = .ok (.enter F1 args) w := c1.1
  have HF1 := Lib.hid (fun w' (hb : Below W1.heap.size W1 w') => (c1.2 x.a z1 w' (gr_of_below hb)).mono (R' := fun e w'' => e = .returned (.bool (f.f1 x.a)) ∧ (Below W1.heap.size W1 w'' ∧ w''.cell? ⟨B, 0, none⟩ = some (.func (.func F1) #[] C1) ∧ w''.cell? ⟨w.heap.size, 1, none⟩ = some (.string x.a))) fun e w'' ⟨p, r⟩ => by
    have q := hb.trans (r.mono hb.size)
    exact ⟨p, q, (hc5.out w'' q).1, (hc6.out w'' q).2.1⟩)
  have HS1 := Lib.hid (fun w' (hb : Below W1.heap.size W1 w') => (small_own x.a w' z1).mono (R' := fun e w'' => e = .returned (.bool (smallS x.a)) ∧ (Below W1.heap.size W1 w'' ∧ w''.cell? ⟨B, 0, none⟩ = some (.func (.func F1) #[] C1) ∧ w''.cell? ⟨w.heap.size, 1, none⟩ = some (.string x.a))) fun e w'' ⟨p, r⟩ => by
    have q := hb.trans (r.mono hb.size)
    exact ⟨p, q, (hc5.out w'' q).1, (hc6.out w'' q).2.1⟩)
  have HL1 := Lib.hid (show (bLY f x)[0]? = some (f.f1 x.a && smallS x.a) from rfl)
  clear c1 f1
  have c2 := (f2.grown (gr_of_below hb1)).call
  have E2 : ∀ args w, (callFunc F2 args).run Tryz.prog w = .ok (.enter F2 args) w := c2.1
  have HF2 := Lib.hid (fun w' (hb : Below W1.heap.size W1 w') => (c2.2 x.b z2 w' (gr_of_below hb)).mono (R' := fun e w'' => e = .returned (.bool (f.f2 x.b)) ∧ (Below W1.heap.size W1 w'' ∧ w''.cell? ⟨B, 1, none⟩ = some (.func (.func F2) #[] C2) ∧ w''.cell? ⟨w.heap.size, 2, none⟩ = some (.string x.b))) fun e w'' ⟨p, r⟩ => by
    have q := hb.trans (r.mono hb.size)
    exact ⟨p, q, (hc5.out w'' q).2.1, (hc6.out w'' q).2.2.1⟩)
  have HS2 := Lib.hid (fun w' (hb : Below W1.heap.size W1 w') => (small_own x.b w' z2).mono (R' := fun e w'' => e = .returned (.bool (smallS x.b)) ∧ (Below W1.heap.size W1 w'' ∧ w''.cell? ⟨B, 1, none⟩ = some (.func (.func F2) #[] C2) ∧ w''.cell? ⟨w.heap.size, 2, none⟩ = some (.string x.b))) fun e w'' ⟨p, r⟩ => by
    have q := hb.trans (r.mono hb.size)
    exact ⟨p, q, (hc5.out w'' q).2.1, (hc6.out w'' q).2.2.1⟩)
  have HL2 := Lib.hid (show (bLY f x)[1]? = some (f.f2 x.b && smallS x.b) from rfl)
  clear c2 f2
  have c3 := (f3.grown (gr_of_below hb1)).call
  have E3 : ∀ args w, (callFunc F3 args).run Tryz.prog w = .ok (.enter F3 args) w := c3.1
  have HF3 := Lib.hid (fun w' (hb : Below W1.heap.size W1 w') => (c3.2 x.l z3 w' (gr_of_below hb)).mono (R' := fun e w'' => e = .returned (.bool (f.f3 x.l)) ∧ (Below W1.heap.size W1 w'' ∧ w''.cell? ⟨B, 2, none⟩ = some (.func (.func F3) #[] C3) ∧ w''.cell? ⟨w.heap.size, 3, none⟩ = some (.string x.l))) fun e w'' ⟨p, r⟩ => by
    have q := hb.trans (r.mono hb.size)
    exact ⟨p, q, (hc5.out w'' q).2.2.1, (hc6.out w'' q).2.2.2.1⟩)
  have HS3 := Lib.hid (fun w' (hb : Below W1.heap.size W1 w') => (small_own x.l w' z3).mono (R' := fun e w'' => e = .returned (.bool (smallS x.l)) ∧ (Below W1.heap.size W1 w'' ∧ w''.cell? ⟨B, 2, none⟩ = some (.func (.func F3) #[] C3) ∧ w''.cell? ⟨w.heap.size, 3, none⟩ = some (.string x.l))) fun e w'' ⟨p, r⟩ => by
    have q := hb.trans (r.mono hb.size)
    exact ⟨p, q, (hc5.out w'' q).2.2.1, (hc6.out w'' q).2.2.2.1⟩)
  have HL3 := Lib.hid (show (bLY f x)[2]? = some (f.f3 x.l && smallS x.l) from rfl)
  clear c3 f3
  have c4 := (f4.grown (gr_of_below hb1)).call
  have E4 : ∀ args w, (callFunc F4 args).run Tryz.prog w = .ok (.enter F4 args) w := c4.1
  have HF4 := Lib.hid (fun w' (hb : Below W1.heap.size W1 w') => (c4.2 x.s z4 w' (gr_of_below hb)).mono (R' := fun e w'' => e = .returned (.bool (f.f4 x.s)) ∧ (Below W1.heap.size W1 w'' ∧ w''.cell? ⟨B, 3, none⟩ = some (.func (.func F4) #[] C4) ∧ w''.cell? ⟨w.heap.size, 4, none⟩ = some (.string x.s))) fun e w'' ⟨p, r⟩ => by
    have q := hb.trans (r.mono hb.size)
    exact ⟨p, q, (hc5.out w'' q).2.2.2.1, (hc6.out w'' q).2.2.2.2.1⟩)
  have HS4 := Lib.hid (fun w' (hb : Below W1.heap.size W1 w') => (small_own x.s w' z4).mono (R' := fun e w'' => e = .returned (.bool (smallS x.s)) ∧ (Below W1.heap.size W1 w'' ∧ w''.cell? ⟨B, 3, none⟩ = some (.func (.func F4) #[] C4) ∧ w''.cell? ⟨w.heap.size, 4, none⟩ = some (.string x.s))) fun e w'' ⟨p, r⟩ => by
    have q := hb.trans (r.mono hb.size)
    exact ⟨p, q, (hc5.out w'' q).2.2.2.1, (hc6.out w'' q).2.2.2.2.1⟩)
  have HL4 := Lib.hid (show (bLY f x)[3]? = some (f.f4 x.s && smallS x.s) from rfl)
  clear c4 f4
  have c5 := (f5.grown (gr_of_below hb1)).call
  have E5 : ∀ args w, (callFunc F5 args).run Tryz.prog w = .ok (.enter F5 args) w := c5.1
  have HF5 := Lib.hid (fun w' (hb : Below W1.heap.size W1 w') => (c5.2 x.r z5 w' (gr_of_below hb)).mono (R' := fun e w'' => e = .returned (.bool (f.f5 x.r)) ∧ (Below W1.heap.size W1 w'' ∧ w''.cell? ⟨B, 4, none⟩ = some (.func (.func F5) #[] C5) ∧ w''.cell? ⟨w.heap.size, 5, none⟩ = some (.string x.r))) fun e w'' ⟨p, r⟩ => by
    have q := hb.trans (r.mono hb.size)
    exact ⟨p, q, (hc5.out w'' q).2.2.2.2, (hc6.out w'' q).2.2.2.2.2⟩)
  have HS5 := Lib.hid (fun w' (hb : Below W1.heap.size W1 w') => (small_own x.r w' z5).mono (R' := fun e w'' => e = .returned (.bool (smallS x.r)) ∧ (Below W1.heap.size W1 w'' ∧ w''.cell? ⟨B, 4, none⟩ = some (.func (.func F5) #[] C5) ∧ w''.cell? ⟨w.heap.size, 5, none⟩ = some (.string x.r))) fun e w'' ⟨p, r⟩ => by
    have q := hb.trans (r.mono hb.size)
    exact ⟨p, q, (hc5.out w'' q).2.2.2.2, (hc6.out w'' q).2.2.2.2.2⟩)
  have HL5 := Lib.hid (show (bLY f x)[4]? = some (f.f5 x.r && smallS x.r) from rfl)
  clear c5 f5
  have HN := Lib.hid (fun w' (hb : Below W1.heap.size W1 w') => (fields_any w.heap.size w').mono (R' := fun e w'' => e = .returned (.agg #[.pointer (some ⟨w.heap.size, 1, none⟩), .pointer (some ⟨w.heap.size, 2, none⟩), .pointer (some ⟨w.heap.size, 3, none⟩), .pointer (some ⟨w.heap.size, 4, none⟩), .pointer (some ⟨w.heap.size, 5, none⟩)]) ∧ Below W1.heap.size W1 w'') fun e w'' ⟨p, r⟩ => ⟨p, hb.trans (r.mono hb.size)⟩)
  clear h0 hn hb1 hA h01 z1 z2 z3 z4 z5
  go_enter Tryz.func137, Tryz.ntmps137
  go_upto_region 1 with fail
  clear hW1
  go_wp2_with (go_at_call 98; (with_reducible refine (HN.out _ (Below.refl _ _)).mono ?_); rintro e w2 ⟨rfl, hb2⟩)
  go_loopw [4, 5, 7] (fun _ _ i wr => ∃ k : Nat, k ≤ 5 ∧ i = .int .i64 (k : Int) ∧ ((bLY f x).take k).all id = true ∧ Below W1.heap.size W1 wr) (fun _ _ i _ => 5 - (intOf i).toNat)
  case atStart => exact ⟨0, Nat.zero_le _, rfl, rfl, hb2⟩
  case round =>
    obtain ⟨k, hk, rfl, ha, hR⟩ := hrel
    clear hb2
    have HA := Lib.hid ha
    clear ha
    rcases k with _ | _ | _ | _ | _ | k
    · have hix := index5_0 w.heap.size wr
      cases hp : f.f1 x.a with
      | false =>
        have HM := Lib.hid (must_false (k := 0) (by rw [HL1.out, hp]; rfl))
        rw [hp] at HF1
        clear hp
        go_wp2
        have hd := Below.drew hR
        have d1 := (hc5.out _ hd).1
        have d2 := (hc6.out _ hd).2.1
        refine wp_region_held_drew (S := fun w' => Below W1.heap.size W1 w' ∧ w'.cell? ⟨B, 0, none⟩ = some (.func (.func F1) #[] C1) ∧ w'.cell? ⟨w.heap.size, 1, none⟩ = some (.string x.a)) (by kernel_rfl) ⟨by assumption, by assumption, by assumption⟩ (fun hHeld => ?_)
        apply held_shell
        exact fun _ _ d _ _ h => by cases d <;> exact h
        rotate_left 1
        intro KK hKp hfin
        refine wpAnyH_take (i := 0) (v := .int .i64 0) rfl (by kernel_rfl) (by kernel_rfl) (by kernel_rfl) (fun c a w h => hKp c a _ _ w h) (Or.inl ⟨by kernel_rfl, fun w hSw => by dsimp only at hSw; obtain ⟨-, hs1, hs2⟩ := hSw; go_simp⟩) (by assumption) ?_
        simp only [Act.put, List.getElem_toArray, List.getElem_cons_zero, List.setIfInBounds_toArray, List.set_cons_zero, List.set_cons_succ]
        refine wpAnyH_take (i := 1) (v := .pointer (some ⟨B, 0, none⟩)) rfl (by kernel_rfl) (by kernel_rfl) (by kernel_rfl) (fun c a w h => hKp c a _ _ w h) (Or.inl ⟨by kernel_rfl, fun w hSw => by dsimp only at hSw; obtain ⟨-, hs1, hs2⟩ := hSw; go_simp⟩) (by assumption) ?_
        simp only [Act.put, List.getElem_toArray, List.getElem_cons_zero, List.getElem_cons_succ, List.setIfInBounds_toArray, List.set_cons_zero, List.set_cons_succ]
        refine wpAnyH_take (i := 2) (v := .func (.func F1) #[] C1) rfl (by kernel_rfl) (by kernel_rfl) (by kernel_rfl) (fun c a w h => hKp c a _ _ w h) (Or.inl ⟨by kernel_rfl, fun w hSw => by dsimp only at hSw; obtain ⟨-, hs1, hs2⟩ := hSw; go_simp⟩) (by assumption) ?_
        simp only [Act.put, List.getElem_toArray, List.getElem_cons_zero, List.getElem_cons_succ, List.setIfInBounds_toArray, List.set_cons_zero, List.set_cons_succ]
        refine wpAnyH_take (i := 3) (v := .pointer (some ⟨w.heap.size, 1, none⟩)) rfl (by kernel_rfl) (by kernel_rfl) (by kernel_rfl) (fun c a w h => hKp c a _ _ w h) (Or.inl ⟨by kernel_rfl, fun w hSw => by dsimp only at hSw; obtain ⟨-, hs1, hs2⟩ := hSw; go_simp⟩) (by assumption) ?_
        simp only [Act.put, List.getElem_toArray, List.getElem_cons_zero, List.getElem_cons_succ, List.setIfInBounds_toArray, List.set_cons_zero, List.set_cons_succ]
        refine wpAnyH_take (i := 4) (v := .pointer (some ⟨w.heap.size, 1, none⟩)) rfl (by kernel_rfl) (by kernel_rfl) (by kernel_rfl) (fun c a w h => hKp c a _ _ w h) (Or.inl ⟨by kernel_rfl, fun w hSw => by dsimp only at hSw; obtain ⟨-, hs1, hs2⟩ := hSw; go_simp⟩) (by assumption) ?_
        simp only [Act.put, List.getElem_toArray, List.getElem_cons_zero, List.getElem_cons_succ, List.setIfInBounds_toArray, List.set_cons_zero, List.set_cons_succ]
        refine wpAnyH_take (i := 5) (v := .string x.a) rfl (by kernel_rfl) (by kernel_rfl) (by kernel_rfl) (fun c a w h => hKp c a _ _ w h) (Or.inl ⟨by kernel_rfl, fun w hSw => by dsimp only at hSw; obtain ⟨-, hs1, hs2⟩ := hSw; go_simp⟩) (by assumption) ?_
        simp only [Act.put, List.getElem_toArray, List.getElem_cons_zero, List.getElem_cons_succ, List.setIfInBounds_toArray, List.set_cons_zero, List.set_cons_succ]
        refine wpAnyH_ready (rs := [6]) (by kernel_rfl) (by simp) ?_
        refine AllReadyH.cons rfl (fun Kx hKx => ?_) AllReadyH.nil
        go_simp
        refine (HF1.out _ hHeld.1).mono ?_
        rintro e w5 ⟨rfl, hb5, c5, d5⟩
        refine hKx.out _ _ ⟨hb5, c5, d5⟩ (fun hHeld => ?_)
        clear hKx Kx
        refine wpAnyH_take (i := 7) (v := .bool true) rfl (by kernel_rfl) (by kernel_rfl) (by kernel_rfl) (fun c a w h => hKp c a _ _ w h) (Or.inl ⟨by kernel_rfl, fun w hSw => by dsimp only at hSw; obtain ⟨-, hs1, hs2⟩ := hSw; go_simp⟩) (by assumption) ?_
        simp only [Act.put, List.getElem_toArray, List.getElem_cons_zero, List.getElem_cons_succ, List.setIfInBounds_toArray, List.set_cons_zero, List.set_cons_succ]
        refine wpAnyH_take (i := 8) (v := .bool true) rfl (by kernel_rfl) (by kernel_rfl) (by kernel_rfl) (fun c a w h => hKp c a _ _ w h) (Or.inl ⟨by kernel_rfl, fun w hSw => by dsimp only at hSw; obtain ⟨-, hs1, hs2⟩ := hSw; go_simp⟩) (by assumption) ?_
        simp only [Act.put, List.getElem_toArray, List.getElem_cons_zero, List.getElem_cons_succ, List.setIfInBounds_toArray, List.set_cons_zero, List.set_cons_succ]
        refine wpAnyH_take (i := 9) (v := undef) rfl (by kernel_rfl) (by kernel_rfl) (by kernel_rfl) (fun c a w h => hKp c a _ _ w h) (Or.inr ⟨by kernel_rfl, rfl⟩) (by assumption) ?_
        simp only [Act.put, List.getElem_toArray, List.getElem_cons_zero, List.getElem_cons_succ, List.setIfInBounds_toArray, List.set_cons_zero, List.set_cons_succ]
        refine wpAnyH_take (i := 10) (v := undef) rfl (by kernel_rfl) (by kernel_rfl) (by kernel_rfl) (fun c a w h => hKp c a _ _ w h) (Or.inr ⟨by kernel_rfl, rfl⟩) (by assumption) ?_
        simp only [Act.put, List.getElem_toArray, List.getElem_cons_zero, List.getElem_cons_succ, List.setIfInBounds_toArray, List.set_cons_zero, List.set_cons_succ]
        refine wpAnyH_take (i := 11) (v := undef) rfl (by kernel_rfl) (by kernel_rfl) (by kernel_rfl) (fun c a w h => hKp c a _ _ w h) (Or.inr ⟨by kernel_rfl, rfl⟩) (by assumption) ?_
        simp only [Act.put, List.getElem_toArray, List.getElem_cons_zero, List.getElem_cons_succ, List.setIfInBounds_toArray, List.set_cons_zero, List.set_cons_succ]
        refine wpAnyH_take (i := 12) (v := undef) rfl (by kernel_rfl) (by kernel_rfl) (by kernel_rfl) (fun c a w h => hKp c a _ _ w h) (Or.inr ⟨by kernel_rfl, rfl⟩) (by assumption) ?_
        simp only [Act.put, List.getElem_toArray, List.getElem_cons_zero, List.getElem_cons_succ, List.setIfInBounds_toArray, List.set_cons_zero, List.set_cons_succ]
        refine wpAnyH_take (i := 13) (v := undef) rfl (by kernel_rfl) (by kernel_rfl) (by kernel_rfl) (fun c a w h => hKp c a _ _ w h) (Or.inr ⟨by kernel_rfl, rfl⟩) (by assumption) ?_
        simp only [Act.put, List.getElem_toArray, List.getElem_cons_zero, List.getElem_cons_succ, List.setIfInBounds_toArray, List.set_cons_zero, List.set_cons_succ]
        refine wpAnyH_take (i := 14) (v := .bool true) rfl (by kernel_rfl) (by kernel_rfl) (by kernel_rfl) (fun c a w h => hKp c a _ _ w h) (Or.inl ⟨by kernel_rfl, fun w hSw => by dsimp only at hSw; obtain ⟨-, hs1, hs2⟩ := hSw; go_simp⟩) (by assumption) ?_
        simp only [Act.put, List.getElem_toArray, List.getElem_cons_zero, List.getElem_cons_succ, List.setIfInBounds_toArray, List.set_cons_zero, List.set_cons_succ]
        refine wpAnyH_done (by kernel_rfl) ?_ _
        exact hfin _ hHeld
        rintro w5 ⟨hb5, -, -⟩
        go_wp2
        go_ret
        exact ⟨ret_bool HM.out.symm, hB0.out _ (by assumption)⟩
      | true =>
        cases hs : smallS x.a with
        | false =>
          have HM := Lib.hid (must_false (k := 0) (by rw [HL1.out, hp, hs]; rfl))
          rw [hp] at HF1
          rw [hs] at HS1
          clear hp hs
          go_wp2
          have hd := Below.drew hR
          have d1 := (hc5.out _ hd).1
          have d2 := (hc6.out _ hd).2.1
          go_region_held3 (fun w' => Below W1.heap.size W1 w' ∧ w'.cell? ⟨B, 0, none⟩ = some (.func (.func F1) #[] C1) ∧ w'.cell? ⟨w.heap.size, 1, none⟩ = some (.string x.a)) (first | exact ⟨by assumption, by assumption, by assumption⟩)
            (first | (go_at_call 138; (with_reducible refine (HS1.out _ (by assumption)).mono ?_); rintro e w5 ⟨rfl, hb5, c5, d5⟩) | ((with_reducible refine (HF1.out _ (by assumption)).mono ?_); rintro e w5 ⟨rfl, hb5, c5, d5⟩))
          go_wp2
          go_ret
          exact ⟨ret_bool HM.out.symm, hB0.out _ (by assumption)⟩
        | true =>
          have HM := Lib.hid (must_step (k := 0) (by rw [HL1.out, hp, hs]; rfl) HA.out)
          rw [hp] at HF1
          rw [hs] at HS1
          clear hp hs
          go_wp2
          have hd := Below.drew hR
          have d1 := (hc5.out _ hd).1
          have d2 := (hc6.out _ hd).2.1
          go_region_held3 (fun w' => Below W1.heap.size W1 w' ∧ w'.cell? ⟨B, 0, none⟩ = some (.func (.func F1) #[] C1) ∧ w'.cell? ⟨w.heap.size, 1, none⟩ = some (.string x.a)) (first | exact ⟨by assumption, by assumption, by assumption⟩)
            (first | (go_at_call 138; (with_reducible refine (HS1.out _ (by assumption)).mono ?_); rintro e w5 ⟨rfl, hb5, c5, d5⟩) | ((with_reducible refine (HF1.out _ (by assumption)).mono ?_); rintro e w5 ⟨rfl, hb5, c5, d5⟩))
          go_wp2
          go_roundw
          case rel => exact ⟨1, by omega, rfl, HM.out, by assumption⟩
          case measure => simp [intOf]
    · have hix := index5_1 w.heap.size wr
      cases hp : f.f2 x.b with
      | false =>
        have HM := Lib.hid (must_false (k := 1) (by rw [HL2.out, hp]; rfl))
        rw [hp] at HF2
        clear hp
        go_wp2
        have hd := Below.drew hR
        have d1 := (hc5.out _ hd).2.1
        have d2 := (hc6.out _ hd).2.2.1
        refine wp_region_held_drew (S := fun w' => Below W1.heap.size W1 w' ∧ w'.cell? ⟨B, 1, none⟩ = some (.func (.func F2) #[] C2) ∧ w'.cell? ⟨w.heap.size, 2, none⟩ = some (.string x.b)) (by kernel_rfl) ⟨by assumption, by assumption, by assumption⟩ (fun hHeld => ?_)
        apply held_shell
        exact fun _ _ d _ _ h => by cases d <;> exact h
        rotate_left 1
        intro KK hKp hfin
        refine wpAnyH_take (i := 0) (v := .int .i64 1) rfl (by kernel_rfl) (by kernel_rfl) (by kernel_rfl) (fun c a w h => hKp c a _ _ w h) (Or.inl ⟨by kernel_rfl, fun w hSw => by dsimp only at hSw; obtain ⟨-, hs1, hs2⟩ := hSw; go_simp⟩) (by assumption) ?_
        simp only [Act.put, List.getElem_toArray, List.getElem_cons_zero, List.setIfInBounds_toArray, List.set_cons_zero, List.set_cons_succ]
        refine wpAnyH_take (i := 1) (v := .pointer (some ⟨B, 1, none⟩)) rfl (by kernel_rfl) (by kernel_rfl) (by kernel_rfl) (fun c a w h => hKp c a _ _ w h) (Or.inl ⟨by kernel_rfl, fun w hSw => by dsimp only at hSw; obtain ⟨-, hs1, hs2⟩ := hSw; go_simp⟩) (by assumption) ?_
        simp only [Act.put, List.getElem_toArray, List.getElem_cons_zero, List.getElem_cons_succ, List.setIfInBounds_toArray, List.set_cons_zero, List.set_cons_succ]
        refine wpAnyH_take (i := 2) (v := .func (.func F2) #[] C2) rfl (by kernel_rfl) (by kernel_rfl) (by kernel_rfl) (fun c a w h => hKp c a _ _ w h) (Or.inl ⟨by kernel_rfl, fun w hSw => by dsimp only at hSw; obtain ⟨-, hs1, hs2⟩ := hSw; go_simp⟩) (by assumption) ?_
        simp only [Act.put, List.getElem_toArray, List.getElem_cons_zero, List.getElem_cons_succ, List.setIfInBounds_toArray, List.set_cons_zero, List.set_cons_succ]
        refine wpAnyH_take (i := 3) (v := .pointer (some ⟨w.heap.size, 2, none⟩)) rfl (by kernel_rfl) (by kernel_rfl) (by kernel_rfl) (fun c a w h => hKp c a _ _ w h) (Or.inl ⟨by kernel_rfl, fun w hSw => by dsimp only at hSw; obtain ⟨-, hs1, hs2⟩ := hSw; go_simp⟩) (by assumption) ?_
        simp only [Act.put, List.getElem_toArray, List.getElem_cons_zero, List.getElem_cons_succ, List.setIfInBounds_toArray, List.set_cons_zero, List.set_cons_succ]
        refine wpAnyH_take (i := 4) (v := .pointer (some ⟨w.heap.size, 2, none⟩)) rfl (by kernel_rfl) (by kernel_rfl) (by kernel_rfl) (fun c a w h => hKp c a _ _ w h) (Or.inl ⟨by kernel_rfl, fun w hSw => by dsimp only at hSw; obtain ⟨-, hs1, hs2⟩ := hSw; go_simp⟩) (by assumption) ?_
        simp only [Act.put, List.getElem_toArray, List.getElem_cons_zero, List.getElem_cons_succ, List.setIfInBounds_toArray, List.set_cons_zero, List.set_cons_succ]
        refine wpAnyH_take (i := 5) (v := .string x.b) rfl (by kernel_rfl) (by kernel_rfl) (by kernel_rfl) (fun c a w h => hKp c a _ _ w h) (Or.inl ⟨by kernel_rfl, fun w hSw => by dsimp only at hSw; obtain ⟨-, hs1, hs2⟩ := hSw; go_simp⟩) (by assumption) ?_
        simp only [Act.put, List.getElem_toArray, List.getElem_cons_zero, List.getElem_cons_succ, List.setIfInBounds_toArray, List.set_cons_zero, List.set_cons_succ]
        refine wpAnyH_ready (rs := [6]) (by kernel_rfl) (by simp) ?_
        refine AllReadyH.cons rfl (fun Kx hKx => ?_) AllReadyH.nil
        go_simp
        refine (HF2.out _ hHeld.1).mono ?_
        rintro e w5 ⟨rfl, hb5, c5, d5⟩
        refine hKx.out _ _ ⟨hb5, c5, d5⟩ (fun hHeld => ?_)
        clear hKx Kx
        refine wpAnyH_take (i := 7) (v := .bool true) rfl (by kernel_rfl) (by kernel_rfl) (by kernel_rfl) (fun c a w h => hKp c a _ _ w h) (Or.inl ⟨by kernel_rfl, fun w hSw => by dsimp only at hSw; obtain ⟨-, hs1, hs2⟩ := hSw; go_simp⟩) (by assumption) ?_
        simp only [Act.put, List.getElem_toArray, List.getElem_cons_zero, List.getElem_cons_succ, List.setIfInBounds_toArray, List.set_cons_zero, List.set_cons_succ]
        refine wpAnyH_take (i := 8) (v := .bool true) rfl (by kernel_rfl) (by kernel_rfl) (by kernel_rfl) (fun c a w h => hKp c a _ _ w h) (Or.inl ⟨by kernel_rfl, fun w hSw => by dsimp only at hSw; obtain ⟨-, hs1, hs2⟩ := hSw; go_simp⟩) (by assumption) ?_
        simp only [Act.put, List.getElem_toArray, List.getElem_cons_zero, List.getElem_cons_succ, List.setIfInBounds_toArray, List.set_cons_zero, List.set_cons_succ]
        refine wpAnyH_take (i := 9) (v := undef) rfl (by kernel_rfl) (by kernel_rfl) (by kernel_rfl) (fun c a w h => hKp c a _ _ w h) (Or.inr ⟨by kernel_rfl, rfl⟩) (by assumption) ?_
        simp only [Act.put, List.getElem_toArray, List.getElem_cons_zero, List.getElem_cons_succ, List.setIfInBounds_toArray, List.set_cons_zero, List.set_cons_succ]
        refine wpAnyH_take (i := 10) (v := undef) rfl (by kernel_rfl) (by kernel_rfl) (by kernel_rfl) (fun c a w h => hKp c a _ _ w h) (Or.inr ⟨by kernel_rfl, rfl⟩) (by assumption) ?_
        simp only [Act.put, List.getElem_toArray, List.getElem_cons_zero, List.getElem_cons_succ, List.setIfInBounds_toArray, List.set_cons_zero, List.set_cons_succ]
        refine wpAnyH_take (i := 11) (v := undef) rfl (by kernel_rfl) (by kernel_rfl) (by kernel_rfl) (fun c a w h => hKp c a _ _ w h) (Or.inr ⟨by kernel_rfl, rfl⟩) (by assumption) ?_
        simp only [Act.put, List.getElem_toArray, List.getElem_cons_zero, List.getElem_cons_succ, List.setIfInBounds_toArray, List.set_cons_zero, List.set_cons_succ]
        refine wpAnyH_take (i := 12) (v := undef) rfl (by kernel_rfl) (by kernel_rfl) (by kernel_rfl) (fun c a w h => hKp c a _ _ w h) (Or.inr ⟨by kernel_rfl, rfl⟩) (by assumption) ?_
        simp only [Act.put, List.getElem_toArray, List.getElem_cons_zero, List.getElem_cons_succ, List.setIfInBounds_toArray, List.set_cons_zero, List.set_cons_succ]
        refine wpAnyH_take (i := 13) (v := undef) rfl (by kernel_rfl) (by kernel_rfl) (by kernel_rfl) (fun c a w h => hKp c a _ _ w h) (Or.inr ⟨by kernel_rfl, rfl⟩) (by assumption) ?_
        simp only [Act.put, List.getElem_toArray, List.getElem_cons_zero, List.getElem_cons_succ, List.setIfInBounds_toArray, List.set_cons_zero, List.set_cons_succ]
        refine wpAnyH_take (i := 14) (v := .bool true) rfl (by kernel_rfl) (by kernel_rfl) (by kernel_rfl) (fun c a w h => hKp c a _ _ w h) (Or.inl ⟨by kernel_rfl, fun w hSw => by dsimp only at hSw; obtain ⟨-, hs1, hs2⟩ := hSw; go_simp⟩) (by assumption) ?_
        simp only [Act.put, List.getElem_toArray, List.getElem_cons_zero, List.getElem_cons_succ, List.setIfInBounds_toArray, List.set_cons_zero, List.set_cons_succ]
        refine wpAnyH_done (by kernel_rfl) ?_ _
        exact hfin _ hHeld
        rintro w5 ⟨hb5, -, -⟩
        go_wp2
        go_ret
        exact ⟨ret_bool HM.out.symm, hB0.out _ (by assumption)⟩
      | true =>
        cases hs : smallS x.b with
        | false =>
          have HM := Lib.hid (must_false (k := 1) (by rw [HL2.out, hp, hs]; rfl))
          rw [hp] at HF2
          rw [hs] at HS2
          clear hp hs
          go_wp2
          have hd := Below.drew hR
          have d1 := (hc5.out _ hd).2.1
          have d2 := (hc6.out _ hd).2.2.1
          go_region_held3 (fun w' => Below W1.heap.size W1 w' ∧ w'.cell? ⟨B, 1, none⟩ = some (.func (.func F2) #[] C2) ∧ w'.cell? ⟨w.heap.size, 2, none⟩ = some (.string x.b)) (first | exact ⟨by assumption, by assumption, by assumption⟩)
            (first | (go_at_call 138; (with_reducible refine (HS2.out _ (by assumption)).mono ?_); rintro e w5 ⟨rfl, hb5, c5, d5⟩) | ((with_reducible refine (HF2.out _ (by assumption)).mono ?_); rintro e w5 ⟨rfl, hb5, c5, d5⟩))
          go_wp2
          go_ret
          exact ⟨ret_bool HM.out.symm, hB0.out _ (by assumption)⟩
        | true =>
          have HM := Lib.hid (must_step (k := 1) (by rw [HL2.out, hp, hs]; rfl) HA.out)
          rw [hp] at HF2
          rw [hs] at HS2
          clear hp hs
          go_wp2
          have hd := Below.drew hR
          have d1 := (hc5.out _ hd).2.1
          have d2 := (hc6.out _ hd).2.2.1
          go_region_held3 (fun w' => Below W1.heap.size W1 w' ∧ w'.cell? ⟨B, 1, none⟩ = some (.func (.func F2) #[] C2) ∧ w'.cell? ⟨w.heap.size, 2, none⟩ = some (.string x.b)) (first | exact ⟨by assumption, by assumption, by assumption⟩)
            (first | (go_at_call 138; (with_reducible refine (HS2.out _ (by assumption)).mono ?_); rintro e w5 ⟨rfl, hb5, c5, d5⟩) | ((with_reducible refine (HF2.out _ (by assumption)).mono ?_); rintro e w5 ⟨rfl, hb5, c5, d5⟩))
          go_wp2
          go_roundw
          case rel => exact ⟨2, by omega, rfl, HM.out, by assumption⟩
          case measure => simp [intOf]
    · have hix := index5_2 w.heap.size wr
      cases hp : f.f3 x.l with
      | false =>
        have HM := Lib.hid (must_false (k := 2) (by rw [HL3.out, hp]; rfl))
        rw [hp] at HF3
        clear hp
        go_wp2
        have hd := Below.drew hR
        have d1 := (hc5.out _ hd).2.2.1
        have d2 := (hc6.out _ hd).2.2.2.1
        refine wp_region_held_drew (S := fun w' => Below W1.heap.size W1 w' ∧ w'.cell? ⟨B, 2, none⟩ = some (.func (.func F3) #[] C3) ∧ w'.cell? ⟨w.heap.size, 3, none⟩ = some (.string x.l)) (by kernel_rfl) ⟨by assumption, by assumption, by assumption⟩ (fun hHeld => ?_)
        apply held_shell
        exact fun _ _ d _ _ h => by cases d <;> exact h
        rotate_left 1
        intro KK hKp hfin
        refine wpAnyH_take (i := 0) (v := .int .i64 2) rfl (by kernel_rfl) (by kernel_rfl) (by kernel_rfl) (fun c a w h => hKp c a _ _ w h) (Or.inl ⟨by kernel_rfl, fun w hSw => by dsimp only at hSw; obtain ⟨-, hs1, hs2⟩ := hSw; go_simp⟩) (by assumption) ?_
        simp only [Act.put, List.getElem_toArray, List.getElem_cons_zero, List.setIfInBounds_toArray, List.set_cons_zero, List.set_cons_succ]
        refine wpAnyH_take (i := 1) (v := .pointer (some ⟨B, 2, none⟩)) rfl (by kernel_rfl) (by kernel_rfl) (by kernel_rfl) (fun c a w h => hKp c a _ _ w h) (Or.inl ⟨by kernel_rfl, fun w hSw => by dsimp only at hSw; obtain ⟨-, hs1, hs2⟩ := hSw; go_simp⟩) (by assumption) ?_
        simp only [Act.put, List.getElem_toArray, List.getElem_cons_zero, List.getElem_cons_succ, List.setIfInBounds_toArray, List.set_cons_zero, List.set_cons_succ]
        refine wpAnyH_take (i := 2) (v := .func (.func F3) #[] C3) rfl (by kernel_rfl) (by kernel_rfl) (by kernel_rfl) (fun c a w h => hKp c a _ _ w h) (Or.inl ⟨by kernel_rfl, fun w hSw => by dsimp only at hSw; obtain ⟨-, hs1, hs2⟩ := hSw; go_simp⟩) (by assumption) ?_
        simp only [Act.put, List.getElem_toArray, List.getElem_cons_zero, List.getElem_cons_succ, List.setIfInBounds_toArray, List.set_cons_zero, List.set_cons_succ]
        refine wpAnyH_take (i := 3) (v := .pointer (some ⟨w.heap.size, 3, none⟩)) rfl (by kernel_rfl) (by kernel_rfl) (by kernel_rfl) (fun c a w h => hKp c a _ _ w h) (Or.inl ⟨by kernel_rfl, fun w hSw => by dsimp only at hSw; obtain ⟨-, hs1, hs2⟩ := hSw; go_simp⟩) (by assumption) ?_
        simp only [Act.put, List.getElem_toArray, List.getElem_cons_zero, List.getElem_cons_succ, List.setIfInBounds_toArray, List.set_cons_zero, List.set_cons_succ]
        refine wpAnyH_take (i := 4) (v := .pointer (some ⟨w.heap.size, 3, none⟩)) rfl (by kernel_rfl) (by kernel_rfl) (by kernel_rfl) (fun c a w h => hKp c a _ _ w h) (Or.inl ⟨by kernel_rfl, fun w hSw => by dsimp only at hSw; obtain ⟨-, hs1, hs2⟩ := hSw; go_simp⟩) (by assumption) ?_
        simp only [Act.put, List.getElem_toArray, List.getElem_cons_zero, List.getElem_cons_succ, List.setIfInBounds_toArray, List.set_cons_zero, List.set_cons_succ]
        refine wpAnyH_take (i := 5) (v := .string x.l) rfl (by kernel_rfl) (by kernel_rfl) (by kernel_rfl) (fun c a w h => hKp c a _ _ w h) (Or.inl ⟨by kernel_rfl, fun w hSw => by dsimp only at hSw; obtain ⟨-, hs1, hs2⟩ := hSw; go_simp⟩) (by assumption) ?_
        simp only [Act.put, List.getElem_toArray, List.getElem_cons_zero, List.getElem_cons_succ, List.setIfInBounds_toArray, List.set_cons_zero, List.set_cons_succ]
        refine wpAnyH_ready (rs := [6]) (by kernel_rfl) (by simp) ?_
        refine AllReadyH.cons rfl (fun Kx hKx => ?_) AllReadyH.nil
        go_simp
        refine (HF3.out _ hHeld.1).mono ?_
        rintro e w5 ⟨rfl, hb5, c5, d5⟩
        refine hKx.out _ _ ⟨hb5, c5, d5⟩ (fun hHeld => ?_)
        clear hKx Kx
        refine wpAnyH_take (i := 7) (v := .bool true) rfl (by kernel_rfl) (by kernel_rfl) (by kernel_rfl) (fun c a w h => hKp c a _ _ w h) (Or.inl ⟨by kernel_rfl, fun w hSw => by dsimp only at hSw; obtain ⟨-, hs1, hs2⟩ := hSw; go_simp⟩) (by assumption) ?_
        simp only [Act.put, List.getElem_toArray, List.getElem_cons_zero, List.getElem_cons_succ, List.setIfInBounds_toArray, List.set_cons_zero, List.set_cons_succ]
        refine wpAnyH_take (i := 8) (v := .bool true) rfl (by kernel_rfl) (by kernel_rfl) (by kernel_rfl) (fun c a w h => hKp c a _ _ w h) (Or.inl ⟨by kernel_rfl, fun w hSw => by dsimp only at hSw; obtain ⟨-, hs1, hs2⟩ := hSw; go_simp⟩) (by assumption) ?_
        simp only [Act.put, List.getElem_toArray, List.getElem_cons_zero, List.getElem_cons_succ, List.setIfInBounds_toArray, List.set_cons_zero, List.set_cons_succ]
        refine wpAnyH_take (i := 9) (v := undef) rfl (by kernel_rfl) (by kernel_rfl) (by kernel_rfl) (fun c a w h => hKp c a _ _ w h) (Or.inr ⟨by kernel_rfl, rfl⟩) (by assumption) ?_
        simp only [Act.put, List.getElem_toArray, List.getElem_cons_zero, List.getElem_cons_succ, List.setIfInBounds_toArray, List.set_cons_zero, List.set_cons_succ]
        refine wpAnyH_take (i := 10) (v := undef) rfl (by kernel_rfl) (by kernel_rfl) (by kernel_rfl) (fun c a w h => hKp c a _ _ w h) (Or.inr ⟨by kernel_rfl, rfl⟩) (by assumption) ?_
        simp only [Act.put, List.getElem_toArray, List.getElem_cons_zero, List.getElem_cons_succ, List.setIfInBounds_toArray, List.set_cons_zero, List.set_cons_succ]
        refine wpAnyH_take (i := 11) (v := undef) rfl (by kernel_rfl) (by kernel_rfl) (by kernel_rfl) (fun c a w h => hKp c a _ _ w h) (Or.inr ⟨by kernel_rfl, rfl⟩) (by assumption) ?_
        simp only [Act.put, List.getElem_toArray, List.getElem_cons_zero, List.getElem_cons_succ, List.setIfInBounds_toArray, List.set_cons_zero, List.set_cons_succ]
        refine wpAnyH_take (i := 12) (v := undef) rfl (by kernel_rfl) (by kernel_rfl) (by kernel_rfl) (fun c a w h => hKp c a _ _ w h) (Or.inr ⟨by kernel_rfl, rfl⟩) (by assumption) ?_
        simp only [Act.put, List.getElem_toArray, List.getElem_cons_zero, List.getElem_cons_succ, List.setIfInBounds_toArray, List.set_cons_zero, List.set_cons_succ]
        refine wpAnyH_take (i := 13) (v := undef) rfl (by kernel_rfl) (by kernel_rfl) (by kernel_rfl) (fun c a w h => hKp c a _ _ w h) (Or.inr ⟨by kernel_rfl, rfl⟩) (by assumption) ?_
        simp only [Act.put, List.getElem_toArray, List.getElem_cons_zero, List.getElem_cons_succ, List.setIfInBounds_toArray, List.set_cons_zero, List.set_cons_succ]
        refine wpAnyH_take (i := 14) (v := .bool true) rfl (by kernel_rfl) (by kernel_rfl) (by kernel_rfl) (fun c a w h => hKp c a _ _ w h) (Or.inl ⟨by kernel_rfl, fun w hSw => by dsimp only at hSw; obtain ⟨-, hs1, hs2⟩ := hSw; go_simp⟩) (by assumption) ?_
        simp only [Act.put, List.getElem_toArray, List.getElem_cons_zero, List.getElem_cons_succ, List.setIfInBounds_toArray, List.set_cons_zero, List.set_cons_succ]
        refine wpAnyH_done (by kernel_rfl) ?_ _
        exact hfin _ hHeld
        rintro w5 ⟨hb5, -, -⟩
        go_wp2
        go_ret
        exact ⟨ret_bool HM.out.symm, hB0.out _ (by assumption)⟩
      | true =>
        cases hs : smallS x.l with
        | false =>
          have HM := Lib.hid (must_false (k := 2) (by rw [HL3.out, hp, hs]; rfl))
          rw [hp] at HF3
          rw [hs] at HS3
          clear hp hs
          go_wp2
          have hd := Below.drew hR
          have d1 := (hc5.out _ hd).2.2.1
          have d2 := (hc6.out _ hd).2.2.2.1
          go_region_held3 (fun w' => Below W1.heap.size W1 w' ∧ w'.cell? ⟨B, 2, none⟩ = some (.func (.func F3) #[] C3) ∧ w'.cell? ⟨w.heap.size, 3, none⟩ = some (.string x.l)) (first | exact ⟨by assumption, by assumption, by assumption⟩)
            (first | (go_at_call 138; (with_reducible refine (HS3.out _ (by assumption)).mono ?_); rintro e w5 ⟨rfl, hb5, c5, d5⟩) | ((with_reducible refine (HF3.out _ (by assumption)).mono ?_); rintro e w5 ⟨rfl, hb5, c5, d5⟩))
          go_wp2
          go_ret
          exact ⟨ret_bool HM.out.symm, hB0.out _ (by assumption)⟩
        | true =>
          have HM := Lib.hid (must_step (k := 2) (by rw [HL3.out, hp, hs]; rfl) HA.out)
          rw [hp] at HF3
          rw [hs] at HS3
          clear hp hs
          go_wp2
          have hd := Below.drew hR
          have d1 := (hc5.out _ hd).2.2.1
          have d2 := (hc6.out _ hd).2.2.2.1
          go_region_held3 (fun w' => Below W1.heap.size W1 w' ∧ w'.cell? ⟨B, 2, none⟩ = some (.func (.func F3) #[] C3) ∧ w'.cell? ⟨w.heap.size, 3, none⟩ = some (.string x.l)) (first | exact ⟨by assumption, by assumption, by assumption⟩)
            (first | (go_at_call 138; (with_reducible refine (HS3.out _ (by assumption)).mono ?_); rintro e w5 ⟨rfl, hb5, c5, d5⟩) | ((with_reducible refine (HF3.out _ (by assumption)).mono ?_); rintro e w5 ⟨rfl, hb5, c5, d5⟩))
          go_wp2
          go_roundw
          case rel => exact ⟨3, by omega, rfl, HM.out, by assumption⟩
          case measure => simp [intOf]
    · have hix := index5_3 w.heap.size wr
      cases hp : f.f4 x.s with
      | false =>
        have HM := Lib.hid (must_false (k := 3) (by rw [HL4.out, hp]; rfl))
        rw [hp] at HF4
        clear hp
        go_wp2
        have hd := Below.drew hR
        have d1 := (hc5.out _ hd).2.2.2.1
        have d2 := (hc6.out _ hd).2.2.2.2.1
        refine wp_region_held_drew (S := fun w' => Below W1.heap.size W1 w' ∧ w'.cell? ⟨B, 3, none⟩ = some (.func (.func F4) #[] C4) ∧ w'.cell? ⟨w.heap.size, 4, none⟩ = some (.string x.s)) (by kernel_rfl) ⟨by assumption, by assumption, by assumption⟩ (fun hHeld => ?_)
        apply held_shell
        exact fun _ _ d _ _ h => by cases d <;> exact h
        rotate_left 1
        intro KK hKp hfin
        refine wpAnyH_take (i := 0) (v := .int .i64 3) rfl (by kernel_rfl) (by kernel_rfl) (by kernel_rfl) (fun c a w h => hKp c a _ _ w h) (Or.inl ⟨by kernel_rfl, fun w hSw => by dsimp only at hSw; obtain ⟨-, hs1, hs2⟩ := hSw; go_simp⟩) (by assumption) ?_
        simp only [Act.put, List.getElem_toArray, List.getElem_cons_zero, List.setIfInBounds_toArray, List.set_cons_zero, List.set_cons_succ]
        refine wpAnyH_take (i := 1) (v := .pointer (some ⟨B, 3, none⟩)) rfl (by kernel_rfl) (by kernel_rfl) (by kernel_rfl) (fun c a w h => hKp c a _ _ w h) (Or.inl ⟨by kernel_rfl, fun w hSw => by dsimp only at hSw; obtain ⟨-, hs1, hs2⟩ := hSw; go_simp⟩) (by assumption) ?_
        simp only [Act.put, List.getElem_toArray, List.getElem_cons_zero, List.getElem_cons_succ, List.setIfInBounds_toArray, List.set_cons_zero, List.set_cons_succ]
        refine wpAnyH_take (i := 2) (v := .func (.func F4) #[] C4) rfl (by kernel_rfl) (by kernel_rfl) (by kernel_rfl) (fun c a w h => hKp c a _ _ w h) (Or.inl ⟨by kernel_rfl, fun w hSw => by dsimp only at hSw; obtain ⟨-, hs1, hs2⟩ := hSw; go_simp⟩) (by assumption) ?_
        simp only [Act.put, List.getElem_toArray, List.getElem_cons_zero, List.getElem_cons_succ, List.setIfInBounds_toArray, List.set_cons_zero, List.set_cons_succ]
        refine wpAnyH_take (i := 3) (v := .pointer (some ⟨w.heap.size, 4, none⟩)) rfl (by kernel_rfl) (by kernel_rfl) (by kernel_rfl) (fun c a w h => hKp c a _ _ w h) (Or.inl ⟨by kernel_rfl, fun w hSw => by dsimp only at hSw; obtain ⟨-, hs1, hs2⟩ := hSw; go_simp⟩) (by assumption) ?_
        simp only [Act.put, List.getElem_toArray, List.getElem_cons_zero, List.getElem_cons_succ, List.setIfInBounds_toArray, List.set_cons_zero, List.set_cons_succ]
        refine wpAnyH_take (i := 4) (v := .pointer (some ⟨w.heap.size, 4, none⟩)) rfl (by kernel_rfl) (by kernel_rfl) (by kernel_rfl) (fun c a w h => hKp c a _ _ w h) (Or.inl ⟨by kernel_rfl, fun w hSw => by dsimp only at hSw; obtain ⟨-, hs1, hs2⟩ := hSw; go_simp⟩) (by assumption) ?_
        simp only [Act.put, List.getElem_toArray, List.getElem_cons_zero, List.getElem_cons_succ, List.setIfInBounds_toArray, List.set_cons_zero, List.set_cons_succ]
        refine wpAnyH_take (i := 5) (v := .string x.s) rfl (by kernel_rfl) (by kernel_rfl) (by kernel_rfl) (fun c a w h => hKp c a _ _ w h) (Or.inl ⟨by kernel_rfl, fun w hSw => by dsimp only at hSw; obtain ⟨-, hs1, hs2⟩ := hSw; go_simp⟩) (by assumption) ?_
        simp only [Act.put, List.getElem_toArray, List.getElem_cons_zero, List.getElem_cons_succ, List.setIfInBounds_toArray, List.set_cons_zero, List.set_cons_succ]
        refine wpAnyH_ready (rs := [6]) (by kernel_rfl) (by simp) ?_
        refine AllReadyH.cons rfl (fun Kx hKx => ?_) AllReadyH.nil
        go_simp
        refine (HF4.out _ hHeld.1).mono ?_
        rintro e w5 ⟨rfl, hb5, c5, d5⟩
        refine hKx.out _ _ ⟨hb5, c5, d5⟩ (fun hHeld => ?_)
        clear hKx Kx
        refine wpAnyH_take (i := 7) (v := .bool true) rfl (by kernel_rfl) (by kernel_rfl) (by kernel_rfl) (fun c a w h => hKp c a _ _ w h) (Or.inl ⟨by kernel_rfl, fun w hSw => by dsimp only at hSw; obtain ⟨-, hs1, hs2⟩ := hSw; go_simp⟩) (by assumption) ?_
        simp only [Act.put, List.getElem_toArray, List.getElem_cons_zero, List.getElem_cons_succ, List.setIfInBounds_toArray, List.set_cons_zero, List.set_cons_succ]
        refine wpAnyH_take (i := 8) (v := .bool true) rfl (by kernel_rfl) (by kernel_rfl) (by kernel_rfl) (fun c a w h => hKp c a _ _ w h) (Or.inl ⟨by kernel_rfl, fun w hSw => by dsimp only at hSw; obtain ⟨-, hs1, hs2⟩ := hSw; go_simp⟩) (by assumption) ?_
        simp only [Act.put, List.getElem_toArray, List.getElem_cons_zero, List.getElem_cons_succ, List.setIfInBounds_toArray, List.set_cons_zero, List.set_cons_succ]
        refine wpAnyH_take (i := 9) (v := undef) rfl (by kernel_rfl) (by kernel_rfl) (by kernel_rfl) (fun c a w h => hKp c a _ _ w h) (Or.inr ⟨by kernel_rfl, rfl⟩) (by assumption) ?_
        simp only [Act.put, List.getElem_toArray, List.getElem_cons_zero, List.getElem_cons_succ, List.setIfInBounds_toArray, List.set_cons_zero, List.set_cons_succ]
        refine wpAnyH_take (i := 10) (v := undef) rfl (by kernel_rfl) (by kernel_rfl) (by kernel_rfl) (fun c a w h => hKp c a _ _ w h) (Or.inr ⟨by kernel_rfl, rfl⟩) (by assumption) ?_
        simp only [Act.put, List.getElem_toArray, List.getElem_cons_zero, List.getElem_cons_succ, List.setIfInBounds_toArray, List.set_cons_zero, List.set_cons_succ]
        refine wpAnyH_take (i := 11) (v := undef) rfl (by kernel_rfl) (by kernel_rfl) (by kernel_rfl) (fun c a w h => hKp c a _ _ w h) (Or.inr ⟨by kernel_rfl, rfl⟩) (by assumption) ?_
        simp only [Act.put, List.getElem_toArray, List.getElem_cons_zero, List.getElem_cons_succ, List.setIfInBounds_toArray, List.set_cons_zero, List.set_cons_succ]
        refine wpAnyH_take (i := 12) (v := undef) rfl (by kernel_rfl) (by kernel_rfl) (by kernel_rfl) (fun c a w h => hKp c a _ _ w h) (Or.inr ⟨by kernel_rfl, rfl⟩) (by assumption) ?_
        simp only [Act.put, List.getElem_toArray, List.getElem_cons_zero, List.getElem_cons_succ, List.setIfInBounds_toArray, List.set_cons_zero, List.set_cons_succ]
        refine wpAnyH_take (i := 13) (v := undef) rfl (by kernel_rfl) (by kernel_rfl) (by kernel_rfl) (fun c a w h => hKp c a _ _ w h) (Or.inr ⟨by kernel_rfl, rfl⟩) (by assumption) ?_
        simp only [Act.put, List.getElem_toArray, List.getElem_cons_zero, List.getElem_cons_succ, List.setIfInBounds_toArray, List.set_cons_zero, List.set_cons_succ]
        refine wpAnyH_take (i := 14) (v := .bool true) rfl (by kernel_rfl) (by kernel_rfl) (by kernel_rfl) (fun c a w h => hKp c a _ _ w h) (Or.inl ⟨by kernel_rfl, fun w hSw => by dsimp only at hSw; obtain ⟨-, hs1, hs2⟩ := hSw; go_simp⟩) (by assumption) ?_
        simp only [Act.put, List.getElem_toArray, List.getElem_cons_zero, List.getElem_cons_succ, List.setIfInBounds_toArray, List.set_cons_zero, List.set_cons_succ]
        refine wpAnyH_done (by kernel_rfl) ?_ _
        exact hfin _ hHeld
        rintro w5 ⟨hb5, -, -⟩
        go_wp2
        go_ret
        exact ⟨ret_bool HM.out.symm, hB0.out _ (by assumption)⟩
      | true =>
        cases hs : smallS x.s with
        | false =>
          have HM := Lib.hid (must_false (k := 3) (by rw [HL4.out, hp, hs]; rfl))
          rw [hp] at HF4
          rw [hs] at HS4
          clear hp hs
          go_wp2
          have hd := Below.drew hR
          have d1 := (hc5.out _ hd).2.2.2.1
          have d2 := (hc6.out _ hd).2.2.2.2.1
          go_region_held3 (fun w' => Below W1.heap.size W1 w' ∧ w'.cell? ⟨B, 3, none⟩ = some (.func (.func F4) #[] C4) ∧ w'.cell? ⟨w.heap.size, 4, none⟩ = some (.string x.s)) (first | exact ⟨by assumption, by assumption, by assumption⟩)
            (first | (go_at_call 138; (with_reducible refine (HS4.out _ (by assumption)).mono ?_); rintro e w5 ⟨rfl, hb5, c5, d5⟩) | ((with_reducible refine (HF4.out _ (by assumption)).mono ?_); rintro e w5 ⟨rfl, hb5, c5, d5⟩))
          go_wp2
          go_ret
          exact ⟨ret_bool HM.out.symm, hB0.out _ (by assumption)⟩
        | true =>
          have HM := Lib.hid (must_step (k := 3) (by rw [HL4.out, hp, hs]; rfl) HA.out)
          rw [hp] at HF4
          rw [hs] at HS4
          clear hp hs
          go_wp2
          have hd := Below.drew hR
          have d1 := (hc5.out _ hd).2.2.2.1
          have d2 := (hc6.out _ hd).2.2.2.2.1
          go_region_held3 (fun w' => Below W1.heap.size W1 w' ∧ w'.cell? ⟨B, 3, none⟩ = some (.func (.func F4) #[] C4) ∧ w'.cell? ⟨w.heap.size, 4, none⟩ = some (.string x.s)) (first | exact ⟨by assumption, by assumption, by assumption⟩)
            (first | (go_at_call 138; (with_reducible refine (HS4.out _ (by assumption)).mono ?_); rintro e w5 ⟨rfl, hb5, c5, d5⟩) | ((with_reducible refine (HF4.out _ (by assumption)).mono ?_); rintro e w5 ⟨rfl, hb5, c5, d5⟩))
          go_wp2
          go_roundw
          case rel => exact ⟨4, by omega, rfl, HM.out, by assumption⟩
          case measure => simp [intOf]
    · have hix := index5_4 w.heap.size wr
      cases hp : f.f5 x.r with
      | false =>
        have HM := Lib.hid (must_false (k := 4) (by rw [HL5.out, hp]; rfl))
        rw [hp] at HF5
        clear hp
        go_wp2
        have hd := Below.drew hR
        have d1 := (hc5.out _ hd).2.2.2.2
        have d2 := (hc6.out _ hd).2.2.2.2.2
        refine wp_region_held_drew (S := fun w' => Below W1.heap.size W1 w' ∧ w'.cell? ⟨B, 4, none⟩ = some (.func (.func F5) #[] C5) ∧ w'.cell? ⟨w.heap.size, 5, none⟩ = some (.string x.r)) (by kernel_rfl) ⟨by assumption, by assumption, by assumption⟩ (fun hHeld => ?_)
        apply held_shell
        exact fun _ _ d _ _ h => by cases d <;> exact h
        rotate_left 1
        intro KK hKp hfin
        refine wpAnyH_take (i := 0) (v := .int .i64 4) rfl (by kernel_rfl) (by kernel_rfl) (by kernel_rfl) (fun c a w h => hKp c a _ _ w h) (Or.inl ⟨by kernel_rfl, fun w hSw => by dsimp only at hSw; obtain ⟨-, hs1, hs2⟩ := hSw; go_simp⟩) (by assumption) ?_
        simp only [Act.put, List.getElem_toArray, List.getElem_cons_zero, List.setIfInBounds_toArray, List.set_cons_zero, List.set_cons_succ]
        refine wpAnyH_take (i := 1) (v := .pointer (some ⟨B, 4, none⟩)) rfl (by kernel_rfl) (by kernel_rfl) (by kernel_rfl) (fun c a w h => hKp c a _ _ w h) (Or.inl ⟨by kernel_rfl, fun w hSw => by dsimp only at hSw; obtain ⟨-, hs1, hs2⟩ := hSw; go_simp⟩) (by assumption) ?_
        simp only [Act.put, List.getElem_toArray, List.getElem_cons_zero, List.getElem_cons_succ, List.setIfInBounds_toArray, List.set_cons_zero, List.set_cons_succ]
        refine wpAnyH_take (i := 2) (v := .func (.func F5) #[] C5) rfl (by kernel_rfl) (by kernel_rfl) (by kernel_rfl) (fun c a w h => hKp c a _ _ w h) (Or.inl ⟨by kernel_rfl, fun w hSw => by dsimp only at hSw; obtain ⟨-, hs1, hs2⟩ := hSw; go_simp⟩) (by assumption) ?_
        simp only [Act.put, List.getElem_toArray, List.getElem_cons_zero, List.getElem_cons_succ, List.setIfInBounds_toArray, List.set_cons_zero, List.set_cons_succ]
        refine wpAnyH_take (i := 3) (v := .pointer (some ⟨w.heap.size, 5, none⟩)) rfl (by kernel_rfl) (by kernel_rfl) (by kernel_rfl) (fun c a w h => hKp c a _ _ w h) (Or.inl ⟨by kernel_rfl, fun w hSw => by dsimp only at hSw; obtain ⟨-, hs1, hs2⟩ := hSw; go_simp⟩) (by assumption) ?_
        simp only [Act.put, List.getElem_toArray, List.getElem_cons_zero, List.getElem_cons_succ, List.setIfInBounds_toArray, List.set_cons_zero, List.set_cons_succ]
        refine wpAnyH_take (i := 4) (v := .pointer (some ⟨w.heap.size, 5, none⟩)) rfl (by kernel_rfl) (by kernel_rfl) (by kernel_rfl) (fun c a w h => hKp c a _ _ w h) (Or.inl ⟨by kernel_rfl, fun w hSw => by dsimp only at hSw; obtain ⟨-, hs1, hs2⟩ := hSw; go_simp⟩) (by assumption) ?_
        simp only [Act.put, List.getElem_toArray, List.getElem_cons_zero, List.getElem_cons_succ, List.setIfInBounds_toArray, List.set_cons_zero, List.set_cons_succ]
        refine wpAnyH_take (i := 5) (v := .string x.r) rfl (by kernel_rfl) (by kernel_rfl) (by kernel_rfl) (fun c a w h => hKp c a _ _ w h) (Or.inl ⟨by kernel_rfl, fun w hSw => by dsimp only at hSw; obtain ⟨-, hs1, hs2⟩ := hSw; go_simp⟩) (by assumption) ?_
        simp only [Act.put, List.getElem_toArray, List.getElem_cons_zero, List.getElem_cons_succ, List.setIfInBounds_toArray, List.set_cons_zero, List.set_cons_succ]
        refine wpAnyH_ready (rs := [6]) (by kernel_rfl) (by simp) ?_
        refine AllReadyH.cons rfl (fun Kx hKx => ?_) AllReadyH.nil
        go_simp
        refine (HF5.out _ hHeld.1).mono ?_
        rintro e w5 ⟨rfl, hb5, c5, d5⟩
        refine hKx.out _ _ ⟨hb5, c5, d5⟩ (fun hHeld => ?_)
        clear hKx Kx
        refine wpAnyH_take (i := 7) (v := .bool true) rfl (by kernel_rfl) (by kernel_rfl) (by kernel_rfl) (fun c a w h => hKp c a _ _ w h) (Or.inl ⟨by kernel_rfl, fun w hSw => by dsimp only at hSw; obtain ⟨-, hs1, hs2⟩ := hSw; go_simp⟩) (by assumption) ?_
        simp only [Act.put, List.getElem_toArray, List.getElem_cons_zero, List.getElem_cons_succ, List.setIfInBounds_toArray, List.set_cons_zero, List.set_cons_succ]
        refine wpAnyH_take (i := 8) (v := .bool true) rfl (by kernel_rfl) (by kernel_rfl) (by kernel_rfl) (fun c a w h => hKp c a _ _ w h) (Or.inl ⟨by kernel_rfl, fun w hSw => by dsimp only at hSw; obtain ⟨-, hs1, hs2⟩ := hSw; go_simp⟩) (by assumption) ?_
        simp only [Act.put, List.getElem_toArray, List.getElem_cons_zero, List.getElem_cons_succ, List.setIfInBounds_toArray, List.set_cons_zero, List.set_cons_succ]
        refine wpAnyH_take (i := 9) (v := undef) rfl (by kernel_rfl) (by kernel_rfl) (by kernel_rfl) (fun c a w h => hKp c a _ _ w h) (Or.inr ⟨by kernel_rfl, rfl⟩) (by assumption) ?_
        simp only [Act.put, List.getElem_toArray, List.getElem_cons_zero, List.getElem_cons_succ, List.setIfInBounds_toArray, List.set_cons_zero, List.set_cons_succ]
        refine wpAnyH_take (i := 10) (v := undef) rfl (by kernel_rfl) (by kernel_rfl) (by kernel_rfl) (fun c a w h => hKp c a _ _ w h) (Or.inr ⟨by kernel_rfl, rfl⟩) (by assumption) ?_
        simp only [Act.put, List.getElem_toArray, List.getElem_cons_zero, List.getElem_cons_succ, List.setIfInBounds_toArray, List.set_cons_zero, List.set_cons_succ]
        refine wpAnyH_take (i := 11) (v := undef) rfl (by kernel_rfl) (by kernel_rfl) (by kernel_rfl) (fun c a w h => hKp c a _ _ w h) (Or.inr ⟨by kernel_rfl, rfl⟩) (by assumption) ?_
        simp only [Act.put, List.getElem_toArray, List.getElem_cons_zero, List.getElem_cons_succ, List.setIfInBounds_toArray, List.set_cons_zero, List.set_cons_succ]
        refine wpAnyH_take (i := 12) (v := undef) rfl (by kernel_rfl) (by kernel_rfl) (by kernel_rfl) (fun c a w h => hKp c a _ _ w h) (Or.inr ⟨by kernel_rfl, rfl⟩) (by assumption) ?_
        simp only [Act.put, List.getElem_toArray, List.getElem_cons_zero, List.getElem_cons_succ, List.setIfInBounds_toArray, List.set_cons_zero, List.set_cons_succ]
        refine wpAnyH_take (i := 13) (v := undef) rfl (by kernel_rfl) (by kernel_rfl) (by kernel_rfl) (fun c a w h => hKp c a _ _ w h) (Or.inr ⟨by kernel_rfl, rfl⟩) (by assumption) ?_
        simp only [Act.put, List.getElem_toArray, List.getElem_cons_zero, List.getElem_cons_succ, List.setIfInBounds_toArray, List.set_cons_zero, List.set_cons_succ]
        refine wpAnyH_take (i := 14) (v := .bool true) rfl (by kernel_rfl) (by kernel_rfl) (by kernel_rfl) (fun c a w h => hKp c a _ _ w h) (Or.inl ⟨by kernel_rfl, fun w hSw => by dsimp only at hSw; obtain ⟨-, hs1, hs2⟩ := hSw; go_simp⟩) (by assumption) ?_
        simp only [Act.put, List.getElem_toArray, List.getElem_cons_zero, List.getElem_cons_succ, List.setIfInBounds_toArray, List.set_cons_zero, List.set_cons_succ]
        refine wpAnyH_done (by kernel_rfl) ?_ _
        exact hfin _ hHeld
        rintro w5 ⟨hb5, -, -⟩
        go_wp2
        go_ret
        exact ⟨ret_bool HM.out.symm, hB0.out _ (by assumption)⟩
      | true =>
        cases hs : smallS x.r with
        | false =>
          have HM := Lib.hid (must_false (k := 4) (by rw [HL5.out, hp, hs]; rfl))
          rw [hp] at HF5
          rw [hs] at HS5
          clear hp hs
          go_wp2
          have hd := Below.drew hR
          have d1 := (hc5.out _ hd).2.2.2.2
          have d2 := (hc6.out _ hd).2.2.2.2.2
          go_region_held3 (fun w' => Below W1.heap.size W1 w' ∧ w'.cell? ⟨B, 4, none⟩ = some (.func (.func F5) #[] C5) ∧ w'.cell? ⟨w.heap.size, 5, none⟩ = some (.string x.r)) (first | exact ⟨by assumption, by assumption, by assumption⟩)
            (first | (go_at_call 138; (with_reducible refine (HS5.out _ (by assumption)).mono ?_); rintro e w5 ⟨rfl, hb5, c5, d5⟩) | ((with_reducible refine (HF5.out _ (by assumption)).mono ?_); rintro e w5 ⟨rfl, hb5, c5, d5⟩))
          go_wp2
          go_ret
          exact ⟨ret_bool HM.out.symm, hB0.out _ (by assumption)⟩
        | true =>
          have HM := Lib.hid (must_step (k := 4) (by rw [HL5.out, hp, hs]; rfl) HA.out)
          rw [hp] at HF5
          rw [hs] at HS5
          clear hp hs
          go_wp2
          have hd := Below.drew hR
          have d1 := (hc5.out _ hd).2.2.2.2
          have d2 := (hc6.out _ hd).2.2.2.2.2
          go_region_held3 (fun w' => Below W1.heap.size W1 w' ∧ w'.cell? ⟨B, 4, none⟩ = some (.func (.func F5) #[] C5) ∧ w'.cell? ⟨w.heap.size, 5, none⟩ = some (.string x.r)) (first | exact ⟨by assumption, by assumption, by assumption⟩)
            (first | (go_at_call 138; (with_reducible refine (HS5.out _ (by assumption)).mono ?_); rintro e w5 ⟨rfl, hb5, c5, d5⟩) | ((with_reducible refine (HF5.out _ (by assumption)).mono ?_); rintro e w5 ⟨rfl, hb5, c5, d5⟩))
          go_wp2
          go_roundw
          case rel => exact ⟨5, by omega, rfl, HM.out, by assumption⟩
          case measure => simp [intOf]
    · obtain rfl : k = 0 := by omega
      have HM := Lib.hid (must_full HA.out)
      go_wp2
      go_ret
      exact ⟨ret_bool HM.out.symm, hB0.out _ hR⟩

/-! Right. -/
set_option maxHeartbeats 2000000 in
theorem kinds_in (n : Int) (hw : (Lit.int .i64 n).wf = true) (hn : 1 ≤ n ∧ n ≤ 7) (w : World) (hg : GL w) :
    Calls Tryz.prog 97 #[] w fun e w' => ∃ g, e = .returned (.map (some w.heap.size)) ∧ (Instr.lookup 162 (.map (some w.heap.size)) (.int .i64 n) true).run Tryz.prog w' = .ok (.tuple #[mustV g, .bool true]) w' ∧ KeepV w.heap.size w' g (fvs n.toNat) ∧ Below w.heap.size w w' := by
  refine (kinds_any w hg).mono ?_
  rintro e w' ⟨he, ⟨g1, g2, g3, g4, g5, g6, g7, ho, k1, k2, k3, k4, k5, k6, k7⟩, hb⟩
  have h7 : n = 1 ∨ n = 2 ∨ n = 3 ∨ n = 4 ∨ n = 5 ∨ n = 6 ∨ n = 7 := by omega
  rcases h7 with rfl | rfl | rfl | rfl | rfl | rfl | rfl
  · exact ⟨g1, he, look_in ho hw rfl rfl, k1, hb⟩
  · exact ⟨g2, he, look_in ho hw rfl rfl, k2, hb⟩
  · exact ⟨g3, he, look_in ho hw rfl rfl, k3, hb⟩
  · exact ⟨g4, he, look_in ho hw rfl rfl, k4, hb⟩
  · exact ⟨g5, he, look_in ho hw rfl rfl, k5, hb⟩
  · exact ⟨g6, he, look_in ho hw rfl rfl, k6, hb⟩
  · exact ⟨g7, he, look_in ho hw rfl rfl, k7, hb⟩
set_option maxHeartbeats 2000000 in
theorem kinds_out (n : Int) (hw : (Lit.int .i64 n).wf = true) (hn : ¬ (1 ≤ n ∧ n ≤ 7)) (w : World) (hg : GL w) :
    Calls Tryz.prog 97 #[] w fun e w' => e = .returned (.map (some w.heap.size)) ∧ (Instr.lookup 162 (.map (some w.heap.size)) (.int .i64 n) true).run Tryz.prog w' = .ok (.tuple #[.nilFunc, .bool false]) w' ∧ Below w.heap.size w w' := by
  refine (kinds_any w hg).mono ?_
  rintro e w' ⟨he, ⟨g1, g2, g3, g4, g5, g6, g7, ho, _⟩, hb⟩
  exact ⟨he, look_out ho hw hn, hb⟩

/-- What is asked of an alias that is handed over. -/
structure AlS (x : Al) : Prop where
  k : (Lit.int .i64 x.k).wf = true
  a : x.a.size ≤ 1000
  b : x.b.size ≤ 1000
  l : x.l.size ≤ 1000
  s : x.s.size ≤ 1000
  r : x.r.size ≤ 1000
set_option maxRecDepth 100000 in
set_option maxHeartbeats 4000000 in
theorem right_al (x : Al) (w : World) (hx : AlS x) (hg : GL w) :
    Calls Tryz.prog 76 #[.agg #[.int .i64 x.k, .string x.a, .string x.b, .string x.l, .string x.s, .string x.r]] w fun e w' => e = .returned (.bool (rightA x)) ∧ Below w.heap.size w w' := by
  have hgs := hg.size
  obtain ⟨W1, hW1⟩ : ∃ W1, w.alloc (.cells #[.int .i64 x.k, .string x.a, .string x.b, .string x.l, .string x.s, .string x.r] 42) = W1 := ⟨_, rfl⟩
  have hb1 : Below w.heap.size w W1 := by rw [← hW1]; exact (Below.refl _ w).alloc (Nat.le_refl _) _
  have hA : W1.heap[w.heap.size]? = some (.cells #[.int .i64 x.k, .string x.a, .string x.b, .string x.l, .string x.s, .string x.r] 42 (0, 0)) := by rw [← hW1]; exact World.alloc_heap_new w _
  have hc6 := Lib.hid (fun w' (hb : Below W1.heap.size W1 w') => cells6 ((hb.block _ (lt_of_block hA)).trans hA))
  have hB0 := Lib.hid (fun w' (hb : Below W1.heap.size W1 w') => hb1.trans (hb.mono hb1.size))
  have hG := Lib.hid (fun w' (hb : Below W1.heap.size W1 w') => hg.below (hb1.trans (hb.mono hb1.size)) hgs)
  by_cases hk : 1 ≤ x.k ∧ x.k ≤ 7
  · have HK := Lib.hid (fun w' (hb : Below W1.heap.size W1 w') (m : Nat) (hm : w'.heap.size = m) => (kinds_in x.k hx.k hk w' (hG.out _ hb)).mono (R' := fun e w'' => ∃ g, e = .returned (.map (some m)) ∧ (Instr.lookup 162 (.map (some m)) (.int .i64 x.k) true).run Tryz.prog w'' = .ok (.tuple #[mustV g, .bool true]) w'' ∧ KeepV w'.heap.size w'' g (fvs x.k.toNat) ∧ (Below W1.heap.size W1 w'' ∧ w''.cell? ⟨w.heap.size, 0, none⟩ = some (.int .i64 x.k))) fun e w'' ⟨g, p1, p2, p3, p4⟩ => ⟨g, hm ▸ p1, hm ▸ p2, p3, hb.trans (p4.mono hb.size), (hc6.out _ (hb.trans (p4.mono hb.size))).1⟩)
    have HM := Lib.hid (fun w' M g (hb : Below W1.heap.size W1 w') (hv : KeepV M w' g (fvs x.k.toNat)) => (must1_any x w' M g _ hv (Nat.le_trans hx.a (by decide)) (Nat.le_trans hx.b (by decide)) (Nat.le_trans hx.l (by decide)) (Nat.le_trans hx.s (by decide)) (Nat.le_trans hx.r (by decide))).mono (R' := fun e w'' => e = .returned (.bool (mustA (fvs x.k.toNat) x)) ∧ Below W1.heap.size W1 w'') fun e w'' ⟨p, q⟩ => ⟨p, hb.trans (q.mono hb.size)⟩)
    have HE := Lib.hid (show rightA x = mustA (fvs x.k.toNat) x by unfold rightA; rw [decide_eq_true hk]; rfl)
    have em := Go.Proofs.enters_of (P := Tryz.prog) Tryz.func137 (by kernel_rfl) rfl
    clear hk hx hg hA hb1
    go_enter Tryz.func76, Tryz.ntmps76
    go_upto_region 1 with fail
    clear hW1
    have hd : Below W1.heap.size W1 W1.drew := Below.drew (Below.refl _ _)
    have hds : W1.drew.heap.size = W1.heap.size := rfl
    have d1 := (hc6.out _ hd).1
    go_region_held3 (fun w' => Below W1.heap.size W1 w' ∧ w'.cell? ⟨w.heap.size, 0, none⟩ = some (.int .i64 x.k)) (first | exact ⟨by assumption, by assumption⟩)
      (first | (go_at_call 97; (with_reducible refine (HK.out _ (by assumption) W1.heap.size hds).mono ?_); rintro e w5 ⟨g, rfl, hl5, hk5, hb5, c5⟩))
    unfold mustV at *
    obtain ⟨e0, e1, e2, e3, e4, e5⟩ := hc6.out _ hb5
    go_wp2_with (go_at_call 137; (with_reducible refine (HM.out _ _ _ hb5 hk5).mono ?_); rintro e w6 ⟨rfl, hb6⟩)
    go_ret
    exact ⟨ret_bool HE.out.symm, hB0.out _ hb6⟩
  · have HK := Lib.hid (fun w' (hb : Below W1.heap.size W1 w') (m : Nat) (hm : w'.heap.size = m) => (kinds_out x.k hx.k hk w' (hG.out _ hb)).mono (R' := fun e w'' => e = .returned (.map (some m)) ∧ (Instr.lookup 162 (.map (some m)) (.int .i64 x.k) true).run Tryz.prog w'' = .ok (.tuple #[.nilFunc, .bool false]) w'' ∧ (Below W1.heap.size W1 w'' ∧ w''.cell? ⟨w.heap.size, 0, none⟩ = some (.int .i64 x.k))) fun e w'' ⟨p1, p2, p4⟩ => ⟨hm ▸ p1, hm ▸ p2, hb.trans (p4.mono hb.size), (hc6.out _ (hb.trans (p4.mono hb.size))).1⟩)
    have HE := Lib.hid (show rightA x = false by unfold rightA; rw [decide_eq_false hk]; rfl)
    clear hk hx hg hA hb1
    go_enter Tryz.func76, Tryz.ntmps76
    go_upto_region 1 with fail
    clear hW1
    have hd : Below W1.heap.size W1 W1.drew := Below.drew (Below.refl _ _)
    have hds : W1.drew.heap.size = W1.heap.size := rfl
    have d1 := (hc6.out _ hd).1
    go_region_held3 (fun w' => Below W1.heap.size W1 w' ∧ w'.cell? ⟨w.heap.size, 0, none⟩ = some (.int .i64 x.k)) (first | exact ⟨by assumption, by assumption⟩)
      (first | (go_at_call 97; (with_reducible refine (HK.out _ (by assumption) W1.heap.size hds).mono ?_); rintro e w5 ⟨rfl, hl5, hb5, c5⟩))
    go_wp2
    go_ret
    exact ⟨ret_bool HE.out.symm, hB0.out _ hb5⟩
end Go.Proofs.YtbafmnafhaoggaaGreatDoor

/-! Package alias: packed, unpacked, Encode, Decode, Key. -/
namespace Go.Proofs.YtbafmnafhaoggaaGreatDoor
open Go Go.RowKit

/-! packed. -/
def txt (x : Al) (k : Nat) : ByteArray := (txs x).getD k ⟨#[]⟩
theorem txt_at (x : Al) (k : Nat) (h : k < 5) : (txs x)[k]? = some (txt x k) := by
  unfold txt
  rw [List.getD_eq_getElem?_getD, List.getElem?_eq_getElem (show k < (txs x).length from h)]
  rfl
def okUp (x : Al) (k : Nat) : Bool := ((txs x).take k).all fun t => packT (lowS t)
def okP (x : Al) : Bool := okUp x 5
theorem okUp_succ {x : Al} {k : Nat} (h : k < 5) : okUp x (k + 1) = (okUp x k && packT (lowS (txt x k))) := by
  unfold okUp
  rw [List.take_add_one, txt_at x k h, List.all_append]
  simp
theorem okP_false {x : Al} {k : Nat} (h : k < 5) (hp : packT (lowS (txt x k)) = false) : okP x = false := by
  cases hh : okP x with
  | false => rfl
  | true =>
    have h5 : (txs x).take 5 = txs x := rfl
    unfold okP okUp at hh
    rw [h5] at hh
    have := List.all_eq_true.1 hh (txt x k) (List.mem_of_getElem? (txt_at x k h))
    rw [hp] at this; cases this
theorem okP_right {x : Al} (h : rightA x = true) : okP x = true := by
  have hp := right_packs h
  unfold okP okUp txs
  simp only [List.take_succ_cons, List.take_zero, List.all_cons, List.all_nil, Bool.and_true]
  rw [hp.a.2, hp.b.2, hp.l.2, hp.s.2, hp.r.2, hp.a.1, hp.b.1, hp.l.1, hp.s.1, hp.r.1]
  rfl
structure AlZ (x : Al) : Prop where
  k0 : 0 ≤ x.k
  k9 : x.k ≤ 255
  z : ∀ k, k < 5 → (txt x k).size ≤ 1000
theorem alZ_of {x : Al} (h : AlS x) (hk : 0 ≤ x.k ∧ x.k ≤ 255) : AlZ x := ⟨hk.1, hk.2, fun k hk => by
  have h5 : k = 0 ∨ k = 1 ∨ k = 2 ∨ k = 3 ∨ k = 4 := by omega
  rcases h5 with rfl | rfl | rfl | rfl | rfl
  · exact h.a
  · exact h.b
  · exact h.l
  · exact h.s
  · exact h.r⟩
theorem size_rowUp (x : Al) (k : Nat) (h : k ≤ 5) : (ofL (rowUp x k)).size ≤ 41 := by
  have h5 : k = 0 ∨ k = 1 ∨ k = 2 ∨ k = 3 ∨ k = 4 ∨ k = 5 := by omega
  rw [size_ofL]
  unfold rowUp txs
  rcases h5 with rfl | rfl | rfl | rfl | rfl | rfl <;> simp [length_putL, length_put8]
theorem row_step (x : Al) (k : Nat) (h : k < 5) : ofL (rowUp x k) ++ ofL (putL (packN (txt x k)) 8) = ofL (rowUp x (k + 1)) := by
  rw [ofL_append, rowUp_succ x k _ (txt_at x k h)]
  rfl
theorem ptr_of (n k : Nat) (hk : k < 5) (v : Value) (hv : v = .pointer (some ⟨n, k + 1, none⟩)) (w : World) : (Instr.index 164 (.agg #[.pointer (some ⟨n, 1, none⟩), .pointer (some ⟨n, 2, none⟩), .pointer (some ⟨n, 3, none⟩), .pointer (some ⟨n, 4, none⟩), .pointer (some ⟨n, 5, none⟩)]) (.int .i64 (k : Int))).run Tryz.prog w = .ok v w := by
  subst hv
  have h5 : k = 0 ∨ k = 1 ∨ k = 2 ∨ k = 3 ∨ k = 4 := by omega
  rcases h5 with rfl | rfl | rfl | rfl | rfl
  · exact index5_0 n w
  · exact index5_1 n w
  · exact index5_2 n w
  · exact index5_3 n w
  · exact index5_4 n w
theorem txt_cell {W : World} {B : Nat} {x : Al} {t : TypeId} (h : W.heap[B]? = some (.cells #[.int .i64 x.k, .string x.a, .string x.b, .string x.l, .string x.s, .string x.r] t (0, 0))) (k : Nat) (hk : k < 5) : W.cell? ⟨B, k + 1, none⟩ = some (.string (txt x k)) := by
  obtain ⟨_, c1, c2, c3, c4, c5⟩ := cells6 h
  have h5 : k = 0 ∨ k = 1 ∨ k = 2 ∨ k = 3 ∨ k = 4 := by omega
  rcases h5 with rfl | rfl | rfl | rfl | rfl
  · exact c1
  · exact c2
  · exact c3
  · exact c4
  · exact c5

def packS (x : Al) : ByteArray := if okP x then rowB x else ⟨#[]⟩
theorem put1 (n : Nat) (w : World) : Calls Tryz.prog 55 #[.int .u64 (n : Int), .int .i64 1] w fun e w' => e = .returned (.string (ofL (putL n 1))) ∧ Below w.heap.size w w' := put_any n 1 w (by decide)
set_option maxRecDepth 100000 in
set_option maxHeartbeats 4000000 in
theorem packed_al (x : Al) (w : World) (hz : AlZ x) :
    Calls Tryz.prog 77 #[.agg #[.int .i64 x.k, .string x.a, .string x.b, .string x.l, .string x.s, .string x.r]] w fun e w' => e = .returned (.tuple #[.string (packS x), .bool (okP x)]) ∧ Below w.heap.size w w' := by
  obtain ⟨W1, hW1⟩ : ∃ W1, w.alloc (.cells #[.int .i64 x.k, .string x.a, .string x.b, .string x.l, .string x.s, .string x.r] 42) = W1 := ⟨_, rfl⟩
  have hb1 : Below w.heap.size w W1 := by rw [← hW1]; exact (Below.refl _ w).alloc (Nat.le_refl _) _
  have hA : W1.heap[w.heap.size]? = some (.cells #[.int .i64 x.k, .string x.a, .string x.b, .string x.l, .string x.s, .string x.r] 42 (0, 0)) := by rw [← hW1]; exact World.alloc_heap_new w _
  have hB0 := Lib.hid (fun w' (hb : Below W1.heap.size W1 w') => hb1.trans (hb.mono hb1.size))
  have hC := Lib.hid (fun k (hk : k < 5) w' (hb : Below W1.heap.size W1 w') => txt_cell ((hb.block _ (lt_of_block hA)).trans hA) k hk)
  have hk0 := (cells6 hA).1
  obtain ⟨n, hn⟩ : ∃ n, x.k.toNat = n := ⟨_, rfl⟩
  have hwr : IntKind.u64.wrap x.k = (n : Int) := by
    rw [u64_wrap_id _ hz.k0 (by have := hz.k9; omega), ← hn, Int.toNat_of_nonneg hz.k0]
  have HP1 := Lib.hid (fun w' (hb : Below W1.heap.size W1 w') => (put1 n w').mono (R' := fun e w'' => e = .returned (.string (ofL (putL n 1))) ∧ Below W1.heap.size W1 w'') fun e w'' ⟨p, q⟩ => ⟨p, hb.trans (q.mono hb.size)⟩)
  have HN := Lib.hid (fun w' (hb : Below W1.heap.size W1 w') => (fields_any w.heap.size w').mono (R' := fun e w'' => e = .returned (.agg #[.pointer (some ⟨w.heap.size, 1, none⟩), .pointer (some ⟨w.heap.size, 2, none⟩), .pointer (some ⟨w.heap.size, 3, none⟩), .pointer (some ⟨w.heap.size, 4, none⟩), .pointer (some ⟨w.heap.size, 5, none⟩)]) ∧ Below W1.heap.size W1 w'') fun e w'' ⟨p, r⟩ => ⟨p, hb.trans (r.mono hb.size)⟩)
  have HK := Lib.hid (fun k (hk : k < 5) w' (hb : Below W1.heap.size W1 w') => (pack_any (txt x k) w' (by have := hz.z k hk; omega)).mono (R' := fun e w'' => e = .returned (.tuple #[.int .u64 ((packN (txt x k) : Nat) : Int), .bool (packT (lowS (txt x k)))]) ∧ Below W1.heap.size W1 w'') fun e w'' ⟨p, q⟩ => ⟨p, hb.trans (q.mono hb.size)⟩)
  have H8 := Lib.hid (fun n w' (hb : Below W1.heap.size W1 w') => (put8 n w').mono (R' := fun e w'' => e = .returned (.string (ofL (putL n 8))) ∧ Below W1.heap.size W1 w'') fun e w'' ⟨p, q⟩ => ⟨p, hb.trans (q.mono hb.size)⟩)
  have HZ := Lib.hid (show rowUp x 0 = putL n 1 by rw [rowUp_zero, hn])
  have H5 := Lib.hid (rowUp_five x)
  clear hz hA hb1 hn
  go_enter Tryz.func77, Tryz.ntmps77
  go_upto_region 1 with fail
  clear hW1
  go_wp2_with (first
    | (go_at_call 55; (with_reducible refine (HP1.out _ (Below.refl _ _)).mono ?_); rintro e w2 ⟨rfl, hb2⟩)
    | (go_at_call 98; (with_reducible refine (HN.out _ hb2).mono ?_); rintro e w3 ⟨rfl, hb3⟩; clear hb2))
  clear hk0 hwr
  go_loopw [4, 6, 7, 8, 14] (fun row _ _ _ i wr => ∃ k : Nat, k ≤ 5 ∧ i = .int .i64 (k : Int) ∧ row = .string (ofL (rowUp x k)) ∧ okUp x k = true ∧ Below W1.heap.size W1 wr) (fun _ _ _ _ i _ => 5 - (intOf i).toNat)
  case atStart => exact ⟨0, Nat.zero_le _, rfl, by rw [HZ.out], rfl, hb3⟩
  case round =>
    obtain ⟨k, hk, rfl, rfl, ho, hR⟩ := hrel
    clear hb3
    by_cases hlt : k < 5
    · have hix := ptr_of w.heap.size k hlt _ rfl wr
      have hc := hC.out k hlt wr hR
      have hlt' : (k : Int) < 5 := by omega
      have HKk := Lib.hid (HK.out k hlt)
      have HST := Lib.hid (row_step x k hlt)
      have hsz : (ofL (rowUp x k)).size ≤ 41 := size_rowUp x k hk
      have hs8 : (ofL (putL (packN (txt x k)) 8)).size = 8 := by rw [size_ofL, length_putL]
      have hnf : ¬ (9223372036854775807 < (ofL (rowUp x k)).size + (ofL (putL (packN (txt x k)) 8)).size) := by omega
      cases hp : packT (lowS (txt x k)) with
      | false =>
        have HF := Lib.hid (okP_false hlt hp)
        have HP := Lib.hid (show packS x = ⟨#[]⟩ by unfold packS; rw [HF.out]; rfl)
        rw [hp] at HKk
        clear hp ho HST hsz hs8 hnf
        generalize txt x k = t at *
        go_wp2_with (go_at_call 78; (with_reducible refine (HKk.out _ hR).mono ?_); rintro e w5 ⟨rfl, hb5⟩)
        go_ret2
        rw [HF.out, HP.out]
        exact ⟨rfl, hB0.out _ hb5⟩
      | true =>
        have HO := Lib.hid (show okUp x (k + 1) = true by rw [okUp_succ hlt, ho, hp]; rfl)
        rw [hp] at HKk
        clear hp ho hsz hs8
        generalize txt x k = t at *
        go_wp2_with (first
          | (go_at_call 78; (with_reducible refine (HKk.out _ hR).mono ?_); rintro e w5 ⟨rfl, hb5⟩)
          | (go_at_call 55; (with_reducible refine (H8.out _ _ hb5).mono ?_); rintro e w6 ⟨rfl, hb6⟩))
        go_roundw
        case rel => exact ⟨k + 1, by omega, by go_num, by rw [← HST.out], HO.out, hb6⟩
        case measure => simp [intOf]; omega
    · obtain rfl : k = 5 := by omega
      have HO := Lib.hid (show okP x = true from ho)
      have HP := Lib.hid (show packS x = rowB x by unfold packS; rw [HO.out]; rfl)
      clear ho
      go_wp2
      go_ret2
      rw [HO.out, HP.out, H5.out]
      exact ⟨rfl, hB0.out _ hR⟩
end Go.Proofs.YtbafmnafhaoggaaGreatDoor
