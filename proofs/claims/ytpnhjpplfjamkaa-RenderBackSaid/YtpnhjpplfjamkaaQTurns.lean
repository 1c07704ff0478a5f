/-
  Package render: the map of functions.
-/
import Derived.Test.YtpnhjpplfjamkaaQMath
import Derived.Maps.OwnIn
import Derived.Carry
namespace Go.Proofs.Ytpnhjpplfjamkaa
open Go Go.RowKit Go.Maps

attribute [local go_sem] Oper.semAt_some

/-- What a function of a map reads as: its number. -/
def funR (v : Value) : Option (DataW Unit × List MemPlace) := match v with
  | .func (.func f) a b => if a.size = 0 ∧ b.size = 0 then some (.lit (.int .i64 (f : Int)), []) else none
  | .nilFunc => some (.lit (.int .i64 (-1)), [])
  | _ => none
theorem funR_func (f : Nat) : funR (.func (.func f) #[] #[]) = some (.lit (.int .i64 (f : Int)), []) := by simp [funR]
theorem funR_some {v : Value} {f : Nat} {ps : List MemPlace} (h : funR v = some (.lit (.int .i64 (f : Int)), ps)) : v = .func (.func f) #[] #[] := by
  unfold funR at h
  split at h
  · rename_i g a b
    split at h
    · rename_i hz
      simp only [Option.some.injEq, Prod.mk.injEq, DataW.lit.injEq, Lit.int.injEq, true_and] at h
      obtain ⟨e, _⟩ := h
      have : g = f := Int.ofNat.inj e
      subst this
      rw [Array.size_eq_zero_iff, Array.size_eq_zero_iff] at hz
      rw [hz.1, hz.2]
    · cases h
  · simp only [Option.some.injEq, Prod.mk.injEq, DataW.lit.injEq, Lit.int.injEq, true_and] at h
    have := h.1
    omega
  · cases h
theorem funR_none {v : Value} {ps : List MemPlace} (h : funR v = some (.lit (.int .i64 (-1)), ps)) : v = .nilFunc := by
  unfold funR at h
  split at h
  · split at h
    · simp only [Option.some.injEq, Prod.mk.injEq, DataW.lit.injEq, Lit.int.injEq, true_and] at h
      have := h.1
      omega
    · cases h
  · rfl
  · cases h
theorem wpList_insert_own {H : Type} {P : Program} (w : World) {ops : Array Oper} {rest : List Oper} {o : Oper} {a : Act} {Q : Exit → Act → World → Prop}
    (hg : o.guard = none) (m x v : Operand) (t : TypeId) (hop : o.op = Op.insert t m x v)
    (k e : TypeId) (K : Keyed P k) (ht : P.underlying t = some (.map k e)) (R : Value → Option (DataW H × List MemPlace)) (b n : Nat) (D : DataW H)
    (hm : a.eval m = .map (some b)) (hown : w.ownsMap P k R b n D) (hn : n < maxLen) (key val : Value) (kl : Lit) (hx : a.eval x = key) (hv : a.eval v = val) (hkey : keyOf P k key = some kl)
    (d : DataW H) (ps : List MemPlace) (hval : R val = some (d, ps))
    (hK : ∀ w', w'.ownsMap P k R b (n + 1) (D.put kl d) → w.grownBy w' (some b) → wpList P ops Q rest (a.put o.dst undef) w') :
    wpList P ops Q (o :: rest) a w := by
  refine wpList_plain hg fun K' hK' => ?_
  obtain ⟨w', hrun, r1, r2⟩ := hown.update K ht hn hkey hval
  unfold Oper.wp
  simp [execOp, hop, hm, hx, hv, hrun, Result.andThen]
  exact hK' _ _ (hK w' r1 r2)

def fUp : Nat := 54
def fTitle : Nat := 55
def turnsD : DataW Unit := ((DataW.map []).put (.int .i64 2) (.lit (.int .i64 (fUp : Int)))).put (.int .i64 4) (.lit (.int .i64 (fTitle : Int)))
theorem keyed_int : Keyed Try.prog 3 := int_keyed Try.underlying3
theorem turnsD_eq : turnsD = .map [(.int .i64 2, .lit (.int .i64 (fUp : Int))), (.int .i64 4, .lit (.int .i64 (fTitle : Int)))] := rfl
theorem turns_none {n : Nat} (h2 : n ≠ 2) (h4 : n ≠ 4) : turnsD.atKey (.int .i64 (n : Int)) (.lit (.int .i64 (-1))) = .lit (.int .i64 (-1)) ∧ Maps.has turnsD (.int .i64 (n : Int)) = false := by
  have e2 : Lit.sameKey (.int .i64 2) (.int .i64 (n : Int)) = false := by unfold Lit.sameKey; rw [decide_eq_false_iff_not]; omega
  have e4 : Lit.sameKey (.int .i64 4) (.int .i64 (n : Int)) = false := by unfold Lit.sameKey; rw [decide_eq_false_iff_not]; omega
  rw [turnsD_eq]
  constructor
  · simp [DataW.atKey, e2, e4]
  · simp [Maps.has, e2, e4]
theorem turns_up : turnsD.atKey (.int .i64 2) (.lit (.int .i64 (-1))) = .lit (.int .i64 (fUp : Int)) ∧ Maps.has turnsD (.int .i64 2) = true := ⟨rfl, rfl⟩
theorem turns_title : turnsD.atKey (.int .i64 4) (.lit (.int .i64 (-1))) = .lit (.int .i64 (fTitle : Int)) ∧ Maps.has turnsD (.int .i64 4) = true := ⟨rfl, rfl⟩
theorem wf_size {n : Nat} (h : n ≤ 1048576) : (Lit.int .i64 (n : Int)).wf = true := by
  unfold Lit.wf
  rw [Bool.and_eq_true, decide_eq_true_iff, decide_eq_true_iff]
  have h1 : IntKind.min .i64 = -9223372036854775808 := by decide
  have h2 : IntKind.max .i64 = 9223372036854775807 := by decide
  omega
theorem zero_fn (w : World) : (zeroValue 38).run Try.prog w = .ok .nilFunc w := by rfl
theorem ownsMap_block {P : Program} {k : TypeId} {R : Value → Option (DataW Unit × List MemPlace)} {w w' : World} {b n : Nat} {D : DataW Unit} (h : w.ownsMap P k R b n D) (e : w'.heap[b]? = w.heap[b]?) : w'.ownsMap P k R b n D := by
  obtain ⟨es, clock, hb, r⟩ := h
  exact ⟨es, clock, by rw [e]; exact hb, r⟩
/-- What a look-up at a size gives. -/
def turnV (n : Nat) : Value := if n = 2 then .func (.func fUp) #[] #[] else if n = 4 then .func (.func fTitle) #[] #[] else .nilFunc
def turnB (n : Nat) : Bool := decide (n = 2 ∨ n = 4)
theorem look_turn {w : World} {b k : Nat} (h : w.ownsMap Try.prog 3 funR b k turnsD) {n : Nat} (hn : n ≤ 1048576) : (Instr.lookup 62 (.map (some b)) (.int .i64 (n : Int)) true).run Try.prog w = .ok (.tuple #[turnV n, .bool (turnB n)]) w := by
  obtain ⟨v, ps, hrun, hv⟩ := h.look_ok keyed_int Try.underlying62 (zero_fn w) (show funR .nilFunc = some (.lit (.int .i64 (-1)), []) from rfl) (keyOf_int_mk Try.underlying3 (wf_size hn))
  rw [hrun]
  unfold turnV turnB
  by_cases h2 : n = 2
  · subst h2
    rw [show ((2 : Nat) : Int) = 2 from rfl] at hv
    rw [show ((2 : Nat) : Int) = 2 from rfl, turns_up.2]
    rw [turns_up.1] at hv
    rw [funR_some hv]; rfl
  · by_cases h4 : n = 4
    · subst h4
      rw [show ((4 : Nat) : Int) = 4 from rfl] at hv
      rw [show ((4 : Nat) : Int) = 4 from rfl, turns_title.2]
      rw [turns_title.1] at hv
      rw [funR_some hv]; rfl
    · obtain ⟨h5, h6⟩ := turns_none h2 h4
      rw [h5] at hv
      rw [h6, funR_none hv, if_neg h2, if_neg h4, decide_eq_false (by omega)]

set_option maxRecDepth 100000 in
theorem turns_any (w : World) :
    Calls Try.prog 41 #[] w fun e w' => e = .returned (.map (some w.heap.size)) ∧ w'.ownsMap Try.prog 3 funR w.heap.size 2 turnsD ∧ Below w.heap.size w w' ∧ w.heap.size < w'.heap.size := by
  have hmm := @run_makeMap Try.prog
  have h0 := World.ownsMap_made w Try.prog 3 funR
  have hb0 : w.grownBy (w.alloc (.map #[] 0)) (some w.heap.size) := World.grownBy_alloc w _ _
  go_enter Try.func41, Try.ntmps41
  go_wp2_with (first
    | (refine wpList_insert_own _ rfl _ _ _ 62 rfl 3 38 keyed_int Try.underlying62 funR w.heap.size 0 _ rfl h0 (by decide) (.int .i64 2) (.func (.func fUp) #[] #[]) (.int .i64 2) rfl rfl (keyOf_int_mk Try.underlying3 (by decide)) _ _ (funR_func fUp) ?_; intro w1 h1 hg1; clear h0)
    | (refine wpList_insert_own _ rfl _ _ _ 62 rfl 3 38 keyed_int Try.underlying62 funR w.heap.size 1 _ rfl h1 (by decide) (.int .i64 4) (.func (.func fTitle) #[] #[]) (.int .i64 4) rfl rfl (keyOf_int_mk Try.underlying3 (by decide)) _ _ (funR_func fTitle) ?_; intro w2 h2 hg2; clear h1))
  go_ret
  have hz : w.heap.size < (w.alloc (.map #[] 0)).heap.size := by simp
  have hs1 := hg1.size
  have hs2 := hg2.size
  refine ⟨rfl, h2, ?_, by omega⟩
  have b0 : Below w.heap.size w (w.alloc (.map #[] 0)) := (Below.refl _ w).alloc (Nat.le_refl _) _
  exact (b0.grown hg1 (by omega) (fun r e => by injection e with e; omega)).grown hg2 (by omega) (fun r e => by injection e with e; omega)
end Go.Proofs.Ytpnhjpplfjamkaa
