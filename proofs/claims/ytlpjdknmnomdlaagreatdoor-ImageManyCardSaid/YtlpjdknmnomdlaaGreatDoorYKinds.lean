/-
  Package alias: the map of closures that tell what each kind must be; what is found in it. (Printed by wip/gen_ykinds.py.)
-/
import Derived.Test.YtlpjdknmnomdlaaGreatDoorYFits
import Derived.Maps.OwnIn
import Derived.Carry
namespace Go.Proofs.YtlpjdknmnomdlaaGreatDoor
open Go Go.RowKit Go.Maps

attribute [local go_sem] Oper.semAt_some

/-- What a closure of the map reads as: the block of what it has captured. -/
def mustV (g : Nat) : Value := .func (.func 199) #[] #[.pointer (some ⟨g, 0, none⟩)]
def mustR (v : Value) : Option (DataW Unit × List MemPlace) := match v with
  | .func (.func f) ⟨[]⟩ ⟨[.pointer (some ⟨g, 0, none⟩)]⟩ => if f = 199 then some (.lit (.int .i64 (g : Int)), []) else none
  | .nilFunc => some (.lit (.int .i64 (-1)), [])
  | _ => none
theorem mustR_func (g : Nat) : mustR (mustV g) = some (.lit (.int .i64 (g : Int)), []) := by simp [mustR, mustV]
theorem mustR_some {v : Value} {g : Nat} {ps : List MemPlace} (h : mustR v = some (.lit (.int .i64 (g : Int)), ps)) : v = mustV g := by
  unfold mustR at h
  split at h
  · split at h
    · rename_i hf
      simp only [Option.some.injEq, Prod.mk.injEq, DataW.lit.injEq, Lit.int.injEq, true_and] at h
      obtain ⟨e, _⟩ := h
      have := Int.ofNat.inj e
      subst this
      subst hf
      rfl
    · cases h
  · simp only [Option.some.injEq, Prod.mk.injEq, DataW.lit.injEq, Lit.int.injEq, true_and] at h
    have := h.1
    omega
  · cases h
theorem mustR_none {v : Value} {ps : List MemPlace} (h : mustR v = some (.lit (.int .i64 (-1)), ps)) : v = .nilFunc := by
  unfold mustR at h
  split at h
  · split at h
    · simp only [Option.some.injEq, Prod.mk.injEq, DataW.lit.injEq, Lit.int.injEq, true_and] at h
      have := h.1
      omega
    · cases h
  · rfl
  · cases h
theorem ownsMap_blockY {P : Program} {k : TypeId} {R : Value → Option (DataW Unit × List MemPlace)} {w w' : World} {b n : Nat} {D : DataW Unit} (h : w.ownsMap P k R b n D) (e : w'.heap[b]? = w.heap[b]?) : w'.ownsMap P k R b n D := by
  obtain ⟨es, clock, hb, r⟩ := h
  exact ⟨es, clock, by rw [e]; exact hb, r⟩
theorem ownsMap_ltY {P : Program} {k : TypeId} {R : Value → Option (DataW Unit × List MemPlace)} {w : World} {b n : Nat} {D : DataW Unit} (h : w.ownsMap P k R b n D) : b < w.heap.size := by
  obtain ⟨es, clock, hb, r⟩ := h
  exact lt_of_block hb
theorem wpList_insert_ownY {H : Type} {P : Program} (w : World) {ops : Array Oper} {rest : List Oper} {o : Oper} {a : Act} {Q : Exit → Act → World → Prop}
    (hg : o.guard = none) (m x v : Operand) (t : TypeId) (hop : o.op = Op.insert t m x v)
    (k e : TypeId) (K : Keyed P k) (ht : P.underlying t = some (.map k e)) (R : Value → Option (DataW H × List MemPlace)) (b n : Nat) (D : DataW H)
    (hm : a.eval m = .map (some b)) (hown : w.ownsMap P k R b n D) (hn : n < maxLen) (key val : Value) (kl : Lit) (hx : a.eval x = key) (hv : a.eval v = val) (hkey : keyOf P k key = some kl)
    (d : DataW H) (ps : List MemPlace) (hval : R val = some (d, ps))
    (hK : ∀ w', w'.ownsMap P k R b (n + 1) (D.put kl d) → w.grownBy w' (some b) → wpList P ops Q rest (a.put o.dst undef) w') :
    wpList P ops Q (o :: rest) a w := by
  refine wpList_plain hg fun K' hK' => ?_
  obtain ⟨w', hrun, r1, r2⟩ := hown.update K ht hn hkey hval
  unfold Oper.wp
  simp [execOp, hop, hm, hx, hv, hrun, Result.andThen]
  exact hK' _ _ (hK w' r1 r2)
theorem keyed_intY : Keyed Tryz.prog 3 := int_keyed Tryz.underlying3
set_option maxRecDepth 100000 in
theorem zero_mustY (w : World) : (zeroValue 123).run Tryz.prog w = .ok .nilFunc w := by rfl
def putY (D : DataW Unit) (k : Int) (g : Nat) : DataW Unit := D.put (.int .i64 k) (.lit (.int .i64 (g : Int)))
def kindsD (g1 g2 g3 g4 g5 g6 g7 : Nat) : DataW Unit := putY (putY (putY (putY (putY (putY (putY (.map []) 1 g1) 2 g2) 3 g3) 4 g4) 5 g5) 6 g6) 7 g7
theorem kindsD_eq (g1 g2 g3 g4 g5 g6 g7 : Nat) : kindsD g1 g2 g3 g4 g5 g6 g7 = .map [(.int .i64 1, .lit (.int .i64 (g1 : Int))), (.int .i64 2, .lit (.int .i64 (g2 : Int))), (.int .i64 3, .lit (.int .i64 (g3 : Int))), (.int .i64 4, .lit (.int .i64 (g4 : Int))), (.int .i64 5, .lit (.int .i64 (g5 : Int))), (.int .i64 6, .lit (.int .i64 (g6 : Int))), (.int .i64 7, .lit (.int .i64 (g7 : Int)))] := rfl
theorem look_in {w : World} {b k : Nat} {g1 g2 g3 g4 g5 g6 g7 : Nat} (h : w.ownsMap Tryz.prog 3 mustR b k (kindsD g1 g2 g3 g4 g5 g6 g7)) {n : Int} (hw : (Lit.int .i64 n).wf = true) {g : Nat}
    (h1 : (kindsD g1 g2 g3 g4 g5 g6 g7).atKey (.int .i64 n) (.lit (.int .i64 (-1))) = .lit (.int .i64 (g : Int))) (h2 : Maps.has (kindsD g1 g2 g3 g4 g5 g6 g7) (.int .i64 n) = true) :
    (Instr.lookup 230 (.map (some b)) (.int .i64 n) true).run Tryz.prog w = .ok (.tuple #[mustV g, .bool true]) w := by
  obtain ⟨v, ps, hrun, hv⟩ := h.look_ok keyed_intY Tryz.underlying230 (zero_mustY w) (show mustR .nilFunc = some (.lit (.int .i64 (-1)), []) from rfl) (keyOf_int_mk Tryz.underlying3 hw)
  rw [hrun, h2]
  rw [h1] at hv
  rw [mustR_some hv]
theorem look_out {w : World} {b k : Nat} {g1 g2 g3 g4 g5 g6 g7 : Nat} (h : w.ownsMap Tryz.prog 3 mustR b k (kindsD g1 g2 g3 g4 g5 g6 g7)) {n : Int} (hw : (Lit.int .i64 n).wf = true) (hn : ¬ (1 ≤ n ∧ n ≤ 7)) :
    (Instr.lookup 230 (.map (some b)) (.int .i64 n) true).run Tryz.prog w = .ok (.tuple #[.nilFunc, .bool false]) w := by
  obtain ⟨v, ps, hrun, hv⟩ := h.look_ok keyed_intY Tryz.underlying230 (zero_mustY w) (show mustR .nilFunc = some (.lit (.int .i64 (-1)), []) from rfl) (keyOf_int_mk Tryz.underlying3 hw)
  have ne : ∀ m : Int, 1 ≤ m → m ≤ 7 → Lit.sameKey (.int .i64 m) (.int .i64 n) = false := fun m a b => by
    unfold Lit.sameKey; rw [decide_eq_false_iff_not]; omega
  have e1 := ne 1 (by decide) (by decide)
  have e2 := ne 2 (by decide) (by decide)
  have e3 := ne 3 (by decide) (by decide)
  have e4 := ne 4 (by decide) (by decide)
  have e5 := ne 5 (by decide) (by decide)
  have e6 := ne 6 (by decide) (by decide)
  have e7 := ne 7 (by decide) (by decide)
  rw [kindsD_eq] at hv hrun
  have ha : (DataW.map [(.int .i64 1, .lit (.int .i64 (g1 : Int))), (.int .i64 2, .lit (.int .i64 (g2 : Int))), (.int .i64 3, .lit (.int .i64 (g3 : Int))), (.int .i64 4, .lit (.int .i64 (g4 : Int))), (.int .i64 5, .lit (.int .i64 (g5 : Int))), (.int .i64 6, .lit (.int .i64 (g6 : Int))), (.int .i64 7, .lit (.int .i64 (g7 : Int)))] : DataW Unit).atKey (.int .i64 n) (.lit (.int .i64 (-1))) = .lit (.int .i64 (-1)) := by simp [DataW.atKey, e1, e2, e3, e4, e5, e6, e7]
  have hh : Maps.has (DataW.map [(.int .i64 1, .lit (.int .i64 (g1 : Int))), (.int .i64 2, .lit (.int .i64 (g2 : Int))), (.int .i64 3, .lit (.int .i64 (g3 : Int))), (.int .i64 4, .lit (.int .i64 (g4 : Int))), (.int .i64 5, .lit (.int .i64 (g5 : Int))), (.int .i64 6, .lit (.int .i64 (g6 : Int))), (.int .i64 7, .lit (.int .i64 (g7 : Int)))] : DataW Unit) (.int .i64 n) = false := by simp [Maps.has, e1, e2, e3, e4, e5, e6, e7]
  rw [ha] at hv
  rw [hrun, hh, mustR_none hv]


set_option maxRecDepth 100000 in
set_option maxHeartbeats 4000000 in
theorem kinds_any (w : World) (hg : GL w) :
    Calls Tryz.prog 166 #[] w fun e w' => e = .returned (.map (some w.heap.size)) ∧ ((∃ g1 g2 g3 g4 g5 g6 g7, w'.ownsMap Tryz.prog 3 mustR w.heap.size 7 (kindsD g1 g2 g3 g4 g5 g6 g7) ∧
      KeepV w.heap.size w' g1 (fvs 1) ∧ KeepV w.heap.size w' g2 (fvs 2) ∧ KeepV w.heap.size w' g3 (fvs 3) ∧ KeepV w.heap.size w' g4 (fvs 4) ∧ KeepV w.heap.size w' g5 (fvs 5) ∧ KeepV w.heap.size w' g6 (fvs 6) ∧ KeepV w.heap.size w' g7 (fvs 7)) ∧ Below w.heap.size w w') := by
  have hgs := hg.size
  obtain ⟨W0, hW0⟩ : ∃ W0, w.alloc (.map #[] 0) = W0 := ⟨_, rfl⟩
  have o0 : W0.ownsMap Tryz.prog 3 mustR w.heap.size 0 (.map []) := by rw [← hW0]; exact World.ownsMap_made w Tryz.prog 3 mustR
  have hb0 : Below w.heap.size w W0 := by rw [← hW0]; exact (Below.refl _ w).alloc (Nat.le_refl _) _
  have HG := Lib.hid hg
  have HB0 := Lib.hid hb0
  have HO0 := Lib.hid o0
  clear hg hb0 o0
  have hmm := @run_makeMap Tryz.prog
  go_enter Tryz.func166, Tryz.ntmps166
  go_wp2_with fail
  clear hW0 hmm
  refine (maybe_any 30 W0).mono ?_
  rintro e w1 ⟨rfl, h1, hb1⟩
  have X1 := Lib.hid (And.intro h1 hb1)
  have HO1 := Lib.hid (ownsMap_blockY HO0.out (hb1.block _ (ownsMap_ltY HO0.out)))
  clear h1 hb1
  go_wp2_with fail
  refine (maybe_any 31 w1).mono ?_
  rintro e w2 ⟨rfl, h2, hb2⟩
  have X2 := Lib.hid (And.intro h2 hb2)
  have HO2 := Lib.hid (ownsMap_blockY HO1.out (hb2.block _ (ownsMap_ltY HO1.out)))
  clear h2 hb2
  go_wp2_with fail
  refine (must_any 183 184 29 202 202 #[] #[] #[] (#[.pointer (some ⟨W0.heap.size, 0, none⟩)]) (#[.pointer (some ⟨w1.heap.size, 0, none⟩)]) w2).mono ?_
  rintro e w3 ⟨rfl, h3, hb3⟩
  have X3 := Lib.hid (And.intro h3 hb3)
  have HO3 := Lib.hid (ownsMap_blockY HO2.out (hb3.block _ (ownsMap_ltY HO2.out)))
  clear h3 hb3
  go_wp2_with (refine wpList_insert_ownY _ rfl _ _ _ 230 rfl 3 123 keyed_intY Tryz.underlying230 mustR w.heap.size 0 _ rfl HO3.out (by decide) (.int .i64 1) (mustV w2.heap.size) (.int .i64 1) rfl rfl (keyOf_int_mk Tryz.underlying3 (by decide)) _ _ (mustR_func _) ?_; intro w4 ho4 hgr4; have HO4 := Lib.hid ho4; have X4 := Lib.hid hgr4; clear ho4 hgr4)
  refine (must_any 29 31 29 184 184 #[] #[] #[] #[] #[] w4).mono ?_
  rintro e w5 ⟨rfl, h5, hb5⟩
  have X5 := Lib.hid (And.intro h5 hb5)
  have HO5 := Lib.hid (ownsMap_blockY HO4.out (hb5.block _ (ownsMap_ltY HO4.out)))
  clear h5 hb5
  go_wp2_with (refine wpList_insert_ownY _ rfl _ _ _ 230 rfl 3 123 keyed_intY Tryz.underlying230 mustR w.heap.size 1 _ rfl HO5.out (by decide) (.int .i64 2) (mustV w4.heap.size) (.int .i64 2) rfl rfl (keyOf_int_mk Tryz.underlying3 (by decide)) _ _ (mustR_func _) ?_; intro w6 ho6 hgr6; have HO6 := Lib.hid ho6; have X6 := Lib.hid hgr6; clear ho6 hgr6)
  refine (maybe_any 30 w6).mono ?_
  rintro e w7 ⟨rfl, h7, hb7⟩
  have X7 := Lib.hid (And.intro h7 hb7)
  have HO7 := Lib.hid (ownsMap_blockY HO6.out (hb7.block _ (ownsMap_ltY HO6.out)))
  clear h7 hb7
  go_wp2_with fail
  refine (maybe_any 31 w7).mono ?_
  rintro e w8 ⟨rfl, h8, hb8⟩
  have X8 := Lib.hid (And.intro h8 hb8)
  have HO8 := Lib.hid (ownsMap_blockY HO7.out (hb8.block _ (ownsMap_ltY HO7.out)))
  clear h8 hb8
  go_wp2_with fail
  refine (must_any 29 184 29 202 202 #[] #[] #[] (#[.pointer (some ⟨w6.heap.size, 0, none⟩)]) (#[.pointer (some ⟨w7.heap.size, 0, none⟩)]) w8).mono ?_
  rintro e w9 ⟨rfl, h9, hb9⟩
  have X9 := Lib.hid (And.intro h9 hb9)
  have HO9 := Lib.hid (ownsMap_blockY HO8.out (hb9.block _ (ownsMap_ltY HO8.out)))
  clear h9 hb9
  go_wp2_with (refine wpList_insert_ownY _ rfl _ _ _ 230 rfl 3 123 keyed_intY Tryz.underlying230 mustR w.heap.size 2 _ rfl HO9.out (by decide) (.int .i64 3) (mustV w8.heap.size) (.int .i64 3) rfl rfl (keyOf_int_mk Tryz.underlying3 (by decide)) _ _ (mustR_func _) ?_; intro w10 ho10 hgr10; have HO10 := Lib.hid ho10; have X10 := Lib.hid hgr10; clear ho10 hgr10)
  refine (must_any 30 184 184 30 184 #[] #[] #[] #[] #[] w10).mono ?_
  rintro e w11 ⟨rfl, h11, hb11⟩
  have X11 := Lib.hid (And.intro h11 hb11)
  have HO11 := Lib.hid (ownsMap_blockY HO10.out (hb11.block _ (ownsMap_ltY HO10.out)))
  clear h11 hb11
  go_wp2_with (refine wpList_insert_ownY _ rfl _ _ _ 230 rfl 3 123 keyed_intY Tryz.underlying230 mustR w.heap.size 3 _ rfl HO11.out (by decide) (.int .i64 4) (mustV w10.heap.size) (.int .i64 4) rfl rfl (keyOf_int_mk Tryz.underlying3 (by decide)) _ _ (mustR_func _) ?_; intro w12 ho12 hgr12; have HO12 := Lib.hid ho12; have X12 := Lib.hid hgr12; clear ho12 hgr12)
  refine (must_any 31 184 184 184 31 #[] #[] #[] #[] #[] w12).mono ?_
  rintro e w13 ⟨rfl, h13, hb13⟩
  have X13 := Lib.hid (And.intro h13 hb13)
  have HO13 := Lib.hid (ownsMap_blockY HO12.out (hb13.block _ (ownsMap_ltY HO12.out)))
  clear h13 hb13
  go_wp2_with (refine wpList_insert_ownY _ rfl _ _ _ 230 rfl 3 123 keyed_intY Tryz.underlying230 mustR w.heap.size 4 _ rfl HO13.out (by decide) (.int .i64 5) (mustV w12.heap.size) (.int .i64 5) rfl rfl (keyOf_int_mk Tryz.underlying3 (by decide)) _ _ (mustR_func _) ?_; intro w14 ho14 hgr14; have HO14 := Lib.hid ho14; have X14 := Lib.hid hgr14; clear ho14 hgr14)
  refine (maybe_any 186 w14).mono ?_
  rintro e w15 ⟨rfl, h15, hb15⟩
  have X15 := Lib.hid (And.intro h15 hb15)
  have HO15 := Lib.hid (ownsMap_blockY HO14.out (hb15.block _ (ownsMap_ltY HO14.out)))
  clear h15 hb15
  go_wp2_with fail
  refine (must_any 186 184 202 184 184 #[] #[] (#[.pointer (some ⟨w14.heap.size, 0, none⟩)]) #[] #[] w15).mono ?_
  rintro e w16 ⟨rfl, h16, hb16⟩
  have X16 := Lib.hid (And.intro h16 hb16)
  have HO16 := Lib.hid (ownsMap_blockY HO15.out (hb16.block _ (ownsMap_ltY HO15.out)))
  clear h16 hb16
  go_wp2_with (refine wpList_insert_ownY _ rfl _ _ _ 230 rfl 3 123 keyed_intY Tryz.underlying230 mustR w.heap.size 5 _ rfl HO16.out (by decide) (.int .i64 6) (mustV w15.heap.size) (.int .i64 6) rfl rfl (keyOf_int_mk Tryz.underlying3 (by decide)) _ _ (mustR_func _) ?_; intro w17 ho17 hgr17; have HO17 := Lib.hid ho17; have X17 := Lib.hid hgr17; clear ho17 hgr17)
  refine (sized_any 2 2 w17).mono ?_
  rintro e w18 ⟨rfl, h18, k18, hb18⟩
  have X18 := Lib.hid (And.intro (And.intro h18 k18) hb18)
  have HO18 := Lib.hid (ownsMap_blockY HO17.out (hb18.block _ (ownsMap_ltY HO17.out)))
  clear h18 k18 hb18
  go_wp2_with fail
  refine (sized_any 3 8 w18).mono ?_
  rintro e w19 ⟨rfl, h19, k19, hb19⟩
  have X19 := Lib.hid (And.intro (And.intro h19 k19) hb19)
  have HO19 := Lib.hid (ownsMap_blockY HO18.out (hb19.block _ (ownsMap_ltY HO18.out)))
  clear h19 k19 hb19
  go_wp2_with fail
  refine (sized_any 3 8 w19).mono ?_
  rintro e w20 ⟨rfl, h20, k20, hb20⟩
  have X20 := Lib.hid (And.intro (And.intro h20 k20) hb20)
  have HO20 := Lib.hid (ownsMap_blockY HO19.out (hb20.block _ (ownsMap_ltY HO19.out)))
  clear h20 k20 hb20
  go_wp2_with fail
  refine (must_any 203 203 203 184 184 (#[.pointer (some ⟨w17.heap.size, 0, none⟩), .pointer (some ⟨w17.heap.size + 1, 0, none⟩)]) (#[.pointer (some ⟨w18.heap.size, 0, none⟩), .pointer (some ⟨w18.heap.size + 1, 0, none⟩)]) (#[.pointer (some ⟨w19.heap.size, 0, none⟩), .pointer (some ⟨w19.heap.size + 1, 0, none⟩)]) #[] #[] w20).mono ?_
  rintro e w21 ⟨rfl, h21, hb21⟩
  have X21 := Lib.hid (And.intro h21 hb21)
  have HO21 := Lib.hid (ownsMap_blockY HO20.out (hb21.block _ (ownsMap_ltY HO20.out)))
  clear h21 hb21
  go_wp2_with (refine wpList_insert_ownY _ rfl _ _ _ 230 rfl 3 123 keyed_intY Tryz.underlying230 mustR w.heap.size 6 _ rfl HO21.out (by decide) (.int .i64 7) (mustV w20.heap.size) (.int .i64 7) rfl rfl (keyOf_int_mk Tryz.underlying3 (by decide)) _ _ (mustR_func _) ?_; intro w22 ho22 hgr22; have HO22 := Lib.hid ho22; have X22 := Lib.hid hgr22; clear ho22 hgr22)
  go_ret
  have q0 : W0.grownBy W0 (some w.heap.size) := World.grownBy.refl W0 _
  have t1 : W0.grownBy w1 (some w.heap.size) := gr_of_below X1.out.2
  have q1 := gr_transY q0 t1
  have t2 : w1.grownBy w2 (some w.heap.size) := gr_of_below X2.out.2
  have q2 := gr_transY q1 t2
  have t3 : w2.grownBy w3 (some w.heap.size) := gr_of_below X3.out.2
  have q3 := gr_transY q2 t3
  have t4 : w3.grownBy w4 (some w.heap.size) := X4.out
  have q4 := gr_transY q3 t4
  have t5 : w4.grownBy w5 (some w.heap.size) := gr_of_below X5.out.2
  have q5 := gr_transY q4 t5
  have t6 : w5.grownBy w6 (some w.heap.size) := X6.out
  have q6 := gr_transY q5 t6
  have t7 : w6.grownBy w7 (some w.heap.size) := gr_of_below X7.out.2
  have q7 := gr_transY q6 t7
  have t8 : w7.grownBy w8 (some w.heap.size) := gr_of_below X8.out.2
  have q8 := gr_transY q7 t8
  have t9 : w8.grownBy w9 (some w.heap.size) := gr_of_below X9.out.2
  have q9 := gr_transY q8 t9
  have t10 : w9.grownBy w10 (some w.heap.size) := X10.out
  have q10 := gr_transY q9 t10
  have t11 : w10.grownBy w11 (some w.heap.size) := gr_of_below X11.out.2
  have q11 := gr_transY q10 t11
  have t12 : w11.grownBy w12 (some w.heap.size) := X12.out
  have q12 := gr_transY q11 t12
  have t13 : w12.grownBy w13 (some w.heap.size) := gr_of_below X13.out.2
  have q13 := gr_transY q12 t13
  have t14 : w13.grownBy w14 (some w.heap.size) := X14.out
  have q14 := gr_transY q13 t14
  have t15 : w14.grownBy w15 (some w.heap.size) := gr_of_below X15.out.2
  have q15 := gr_transY q14 t15
  have t16 : w15.grownBy w16 (some w.heap.size) := gr_of_below X16.out.2
  have q16 := gr_transY q15 t16
  have t17 : w16.grownBy w17 (some w.heap.size) := X17.out
  have q17 := gr_transY q16 t17
  have t18 : w17.grownBy w18 (some w.heap.size) := gr_of_below X18.out.2
  have q18 := gr_transY q17 t18
  have t19 : w18.grownBy w19 (some w.heap.size) := gr_of_below X19.out.2
  have q19 := gr_transY q18 t19
  have t20 : w19.grownBy w20 (some w.heap.size) := gr_of_below X20.out.2
  have q20 := gr_transY q19 t20
  have t21 : w20.grownBy w21 (some w.heap.size) := gr_of_below X21.out.2
  have q21 := gr_transY q20 t21
  have t22 : w21.grownBy w22 (some w.heap.size) := X22.out
  have q22 := gr_transY q21 t22
  have s0 : w.heap.size < W0.heap.size := ownsMap_ltY HO0.out
  have neS : ∀ (Wx : World), W0.grownBy Wx (some w.heap.size) → Wx.heap.size ≠ w.heap.size := fun Wx h => by have := h.size; omega
  have neT : ∀ (Wx : World), W0.grownBy Wx (some w.heap.size) → Wx.heap.size + 1 ≠ w.heap.size := fun Wx h => by have := h.size; omega
  have r22 : w22.grownBy w22 (some w.heap.size) := World.grownBy.refl _ _
  have r21 : w21.grownBy w22 (some w.heap.size) := gr_transY t22 r22
  have r20 : w20.grownBy w22 (some w.heap.size) := gr_transY t21 r21
  have r19 : w19.grownBy w22 (some w.heap.size) := gr_transY t20 r20
  have r18 : w18.grownBy w22 (some w.heap.size) := gr_transY t19 r19
  have r17 : w17.grownBy w22 (some w.heap.size) := gr_transY t18 r18
  have r16 : w16.grownBy w22 (some w.heap.size) := gr_transY t17 r17
  have r15 : w15.grownBy w22 (some w.heap.size) := gr_transY t16 r16
  have r14 : w14.grownBy w22 (some w.heap.size) := gr_transY t15 r15
  have r13 : w13.grownBy w22 (some w.heap.size) := gr_transY t14 r14
  have r12 : w12.grownBy w22 (some w.heap.size) := gr_transY t13 r13
  have r11 : w11.grownBy w22 (some w.heap.size) := gr_transY t12 r12
  have r10 : w10.grownBy w22 (some w.heap.size) := gr_transY t11 r11
  have r9 : w9.grownBy w22 (some w.heap.size) := gr_transY t10 r10
  have r8 : w8.grownBy w22 (some w.heap.size) := gr_transY t9 r9
  have r7 : w7.grownBy w22 (some w.heap.size) := gr_transY t8 r8
  have r6 : w6.grownBy w22 (some w.heap.size) := gr_transY t7 r7
  have r5 : w5.grownBy w22 (some w.heap.size) := gr_transY t6 r6
  have r4 : w4.grownBy w22 (some w.heap.size) := gr_transY t5 r5
  have r3 : w3.grownBy w22 (some w.heap.size) := gr_transY t4 r4
  have r2 : w2.grownBy w22 (some w.heap.size) := gr_transY t3 r3
  have r1 : w1.grownBy w22 (some w.heap.size) := gr_transY t2 r2
  have G3 : GL w3 := HG.out.block ((q3.block _ (Nat.lt_trans hgs s0) (fun e => absurd (Option.some.inj e) (Nat.ne_of_lt hgs))).trans (HB0.out.block _ hgs))
  have K1 : KeepV w.heap.size w22 w2.heap.size (fvs 1) := KeepV.grown ⟨⟨_, _, _, _, _, _, _, _, _, _, X3.out.1, (fit_number _ _ G3 (Nat.ne_of_lt hgs)), (fit_none _ _), (fit_language _ _), ((fit_maybe X1.out.1 (neS _ q0) (fit_script _ _)).grown (gr_transY t2 t3)), ((fit_maybe X2.out.1 (neS _ q1) (fit_region _ _)).grown t3)⟩, neS _ q2⟩ r3
  have K2 : KeepV w.heap.size w22 w4.heap.size (fvs 2) := KeepV.grown ⟨⟨_, _, _, _, _, _, _, _, _, _, X5.out.1, (fit_language _ _), (fit_region _ _), (fit_language _ _), (fit_none _ _), (fit_none _ _)⟩, neS _ q4⟩ r5
  have K3 : KeepV w.heap.size w22 w8.heap.size (fvs 3) := KeepV.grown ⟨⟨_, _, _, _, _, _, _, _, _, _, X9.out.1, (fit_language _ _), (fit_none _ _), (fit_language _ _), ((fit_maybe X7.out.1 (neS _ q6) (fit_script _ _)).grown (gr_transY t8 t9)), ((fit_maybe X8.out.1 (neS _ q7) (fit_region _ _)).grown t9)⟩, neS _ q8⟩ r9
  have K4 : KeepV w.heap.size w22 w10.heap.size (fvs 4) := KeepV.grown ⟨⟨_, _, _, _, _, _, _, _, _, _, X11.out.1, (fit_script _ _), (fit_none _ _), (fit_none _ _), (fit_script _ _), (fit_none _ _)⟩, neS _ q10⟩ r11
  have K5 : KeepV w.heap.size w22 w12.heap.size (fvs 5) := KeepV.grown ⟨⟨_, _, _, _, _, _, _, _, _, _, X13.out.1, (fit_region _ _), (fit_none _ _), (fit_none _ _), (fit_none _ _), (fit_region _ _)⟩, neS _ q12⟩ r13
  have K6 : KeepV w.heap.size w22 w15.heap.size (fvs 6) := KeepV.grown ⟨⟨_, _, _, _, _, _, _, _, _, _, X16.out.1, (fit_variant _ _), (fit_none _ _), ((fit_maybe X15.out.1 (neS _ q14) (fit_variant _ _)).grown t16), (fit_none _ _), (fit_none _ _)⟩, neS _ q15⟩ r16
  have K7 : KeepV w.heap.size w22 w20.heap.size (fvs 7) := KeepV.grown ⟨⟨_, _, _, _, _, _, _, _, _, _, X21.out.1, ((fit_sized (lo := 2) (hi := 2) X18.out.1.1 X18.out.1.2 (neS _ q17) (neT _ q17)).grown (gr_transY (gr_transY t19 t20) t21)), ((fit_sized (lo := 3) (hi := 8) X19.out.1.1 X19.out.1.2 (neS _ q18) (neT _ q18)).grown (gr_transY t20 t21)), ((fit_sized (lo := 3) (hi := 8) X20.out.1.1 X20.out.1.2 (neS _ q19) (neT _ q19)).grown t21), (fit_none _ _), (fit_none _ _)⟩, neS _ q20⟩ r21
  refine ⟨rfl, ⟨_, _, _, _, _, _, _, HO22.out, K1, K2, K3, K4, K5, K6, K7⟩, ?_⟩
  exact ⟨q22.os.trans HB0.out.os, q22.tape.trans HB0.out.tape, q22.output.trans HB0.out.output, Nat.le_trans HB0.out.size q22.size, fun k hk => (q22.block k (Nat.lt_trans hk s0) (fun e => absurd (Option.some.inj e) (Nat.ne_of_lt hk))).trans (HB0.out.block k hk)⟩
end Go.Proofs.YtlpjdknmnomdlaaGreatDoor
