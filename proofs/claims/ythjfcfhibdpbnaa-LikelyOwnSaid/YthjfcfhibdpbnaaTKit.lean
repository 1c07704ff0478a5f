/-
  Likely subtags: helpers: cells of blocks, arrays of three texts as keys, maps of these to numbers, slices.Index and slices.Contains at them.
-/
import Derived.Test.YthjfcfhibdpbnaaTMath
import Derived.Test.YthjfcfhibdpbnaaBase
import Derived.Test.YthjfcfhibdpbnaaSeqs
import Derived.Lib.Hide
import Derived.OwnWalk
import Derived.OneCell
import Derived.Laws.Rows
import Derived.Laws.OwnMore
import Derived.Maps.Own
import Derived.Maps.OwnOps
import Derived.Maps.OwnSet
import Derived.Maps.Views
import Derived.ChangeKeysEq
import Derived.Laws.StructEq
import Derived.Deep.CutRange
import Derived.DeepKeys4
import Derived.StringKeys
import Derived.WalkSpells
import Derived.WalkLawsBesides
import Derived.RangeFuncRecord
import Derived.KernelRfl
namespace Go.Proofs.Ythjfcfhibdpbnaa
open Go Go.RowKit Go.Maps

theorem lt_blockT {w : World} {k : Nat} {o : Obj} (h : w.heap[k]? = some o) : k < w.heap.size := (Array.getElem?_eq_some_iff.1 h).1
theorem cell_rowT {w : World} {B : Nat} {cs : Array Value} {t : TypeId} (i : Nat) {v : Value} (h : w.heap[B]? = some (.cells cs t (0, 0))) (hv : cs[i]? = some v) : w.cell? ⟨B, i, none⟩ = some v := by
  simp [World.cell?, h, hv]
theorem cells3T {W : World} {B : Nat} {a b c : Value} {t : TypeId} (h : W.heap[B]? = some (.cells #[a, b, c] t (0, 0))) : W.cell? ⟨B, 0, none⟩ = some a ∧ W.cell? ⟨B, 1, none⟩ = some b ∧ W.cell? ⟨B, 2, none⟩ = some c :=
  ⟨cell_rowT 0 h rfl, cell_rowT 1 h rfl, cell_rowT 2 h rfl⟩
theorem below_drewT {B : Nat} {a w : World} (h : Below B a w) (n : Nat) : Below B a (w.drewN n) := ⟨h.os, h.tape, h.output, h.size, h.block⟩
theorem same_boolT (s t : ByteArray) : (s.toList == t.toList) = decide (s = t) := by
  by_cases h : s = t
  · subst h; rw [decide_eq_true rfl]; exact beq_self_eq_true _
  · rw [decide_eq_false h, beq_eq_false_iff_ne]
    intro e
    apply h
    rw [ByteArray.toList_eq, ByteArray.toList_eq] at e
    exact ByteArray.ext (Array.toList_inj.1 e)
set_option maxRecDepth 100000 in
theorem strInfoT : (Try.prog.info? 9).map (fun i => (i.zero, i.size, i.bytes)) = some (some (.string ByteArray.empty), 1, 16) := by kernel_rfl
set_option maxRecDepth 100000 in
theorem eqgT : Try.prog.eqGuardType Try.prog.depth 62 = false := by kernel_rfl
set_option maxRecDepth 100000 in
set_option maxHeartbeats 2000000 in
theorem eq_threeT (a b c x y z : ByteArray) (w : World) : (Op.equalIn 10000 62 (.agg #[.string a, .string b, .string c]) (.agg #[.string x, .string y, .string z])).run Try.prog w = .ok (decide ((a, b, c) = (x, y, z))) w := by
  obtain ⟨i0, hi, hz0, hz1, hz2⟩ := info_parts strInfoT
  have hc : Try.prog.cellsOf 9 = 1 := by kernel_rfl
  rw [show (10000 : Nat) = 9999 + 1 from rfl, run_equalIn_array w 9999 _ _ Try.underlying62 hi, hc, show List.range 3 = [0, 1, 2] from rfl]
  have e1 := same_boolT a x
  have e2 := same_boolT b y
  have e3 := same_boolT c z
  clear hi hz0 hz1 hz2 hc
  by_cases h1 : a = x
  · rw [decide_eq_true h1] at e1
    by_cases h2 : b = y
    · rw [decide_eq_true h2] at e2
      by_cases h3 : c = z
      · rw [decide_eq_true h3] at e3
        have HD := Lib.hid (show decide ((a, b, c) = (x, y, z)) = true by rw [h1, h2, h3]; simp)
        rw [HD.out]
        clear HD h1 h2 h3
        simp only [Op.eqItems]
        go_simp
      · rw [decide_eq_false h3] at e3
        have HD := Lib.hid (show decide ((a, b, c) = (x, y, z)) = false by rw [decide_eq_false_iff_not]; intro h; injection h with _ h; injection h with _ h; exact h3 h)
        rw [HD.out]
        clear HD h1 h2 h3
        simp only [Op.eqItems]
        go_simp
    · rw [decide_eq_false h2] at e2
      have HD := Lib.hid (show decide ((a, b, c) = (x, y, z)) = false by rw [decide_eq_false_iff_not]; intro h; injection h with _ h; injection h with h _; exact h2 h)
      rw [HD.out]
      clear HD h1 h2 e3
      simp only [Op.eqItems]
      go_simp
  · rw [decide_eq_false h1] at e1
    have HD := Lib.hid (show decide ((a, b, c) = (x, y, z)) = false by rw [decide_eq_false_iff_not]; intro h; injection h with h _; exact h1 h)
    rw [HD.out]
    clear HD h1 e2 e3
    simp only [Op.eqItems]
    go_simp

/-! Keys of three texts. -/
theorem length_leT : ∀ (w n : Nat), (bytesLE w n).length = w
  | 0, _ => rfl
  | w + 1, n => by unfold bytesLE; rw [List.length_cons, length_leT w]
theorem le_injT : ∀ (w : Nat) {n m : Nat}, n < 256 ^ w → m < 256 ^ w → bytesLE w n = bytesLE w m → n = m
  | 0, n, m, hn, hm, _ => by rw [Nat.pow_zero] at hn hm; omega
  | w + 1, n, m, hn, hm, h => by
    unfold bytesLE at h
    injection h with h1 h2
    have e1 : n % 256 = m % 256 := by
      have := congrArg UInt8.toNat h1
      rw [UInt8.toNat_ofNat', UInt8.toNat_ofNat'] at this
      omega
    have e2 : n / 256 = m / 256 := le_injT w (by rw [Nat.pow_succ] at hn; omega) (by rw [Nat.pow_succ] at hm; omega) h2
    omega
theorem be_injT {w n m : Nat} (hn : n < 256 ^ w) (hm : m < 256 ^ w) (h : bytesBE w n = bytesBE w m) : n = m := by
  unfold bytesBE at h
  exact le_injT w hn hm (List.reverse_inj.1 h)
theorem length_beT (w n : Nat) : (bytesBE w n).length = w := by unfold bytesBE; rw [List.length_reverse, length_leT]
def kLT (p : KT) : Lit := .string (keyBytes [.string p.1.data.toList, .string p.2.1.data.toList, .string p.2.2.data.toList])
theorem kLT_lit (p : KT) : WideAt.IsKeyLit (kLT p) := by simp [kLT, WideAt.IsKeyLit]
theorem keyBytes_threeT (a b c : List UInt8) : keyBytes [.string a, .string b, .string c] = bytesBE 8 a.length ++ (a ++ (bytesBE 8 b.length ++ (b ++ (bytesBE 8 c.length ++ c)))) := by
  simp [keyBytes, Lit.keyBytes, List.append_assoc]
theorem kLT_inj {p q : KT} (h1 : KST p) (h2 : KST q) (h : kLT p = kLT q) : p = q := by
  unfold KST at h1 h2
  unfold kLT at h
  injection h with h
  rw [keyBytes_threeT, keyBytes_threeT] at h
  have hb : 1048576 < 256 ^ 8 := by decide
  have l : ∀ s : ByteArray, s.data.toList.length = s.size := fun s => by rw [Array.length_toList]; rfl
  obtain ⟨e1, h⟩ := List.append_inj h (by rw [length_beT, length_beT])
  have e1 := be_injT (by rw [l]; omega) (by rw [l]; omega) e1
  obtain ⟨e2, h⟩ := List.append_inj h e1
  obtain ⟨e3, h⟩ := List.append_inj h (by rw [length_beT, length_beT])
  have e3 := be_injT (by rw [l]; omega) (by rw [l]; omega) e3
  obtain ⟨e4, h⟩ := List.append_inj h e3
  obtain ⟨_, e6⟩ := List.append_inj h (by rw [length_beT, length_beT])
  obtain ⟨p1, p2, p3⟩ := p
  obtain ⟨q1, q2, q3⟩ := q
  have d1 : p1 = q1 := ofL_ext e2
  have d2 : p2 = q2 := ofL_ext e4
  have d3 : p3 = q3 := ofL_ext e6
  rw [d1, d2, d3]
set_option maxRecDepth 100000 in
theorem laidT : laidOutB Try.prog = true := by kernel_rfl
set_option maxRecDepth 100000 in
theorem arrKeyedT : Keyed Try.prog 62 := Keyed.of_law (deep_law_laid laidT (m := 2) (by omega) (of_decide_eq_true (by kernel_rfl)) (by kernel_rfl) (by kernel_rfl))
set_option maxRecDepth 100000 in
theorem arrTypeT : Try.prog.keyType 62 = true := by kernel_rfl
set_option maxRecDepth 100000 in
theorem cellsArrT : Try.prog.cellsOf 62 = 3 := by kernel_rfl
set_option maxRecDepth 100000 in
theorem cellsStrT : Try.prog.cellsOf 9 = 1 := by kernel_rfl
set_option maxRecDepth 100000 in
theorem typesT : ∃ m, Try.prog.types.size + 1 = m + 2 := ⟨Try.prog.types.size - 1, by have : 1 ≤ Try.prog.types.size := of_decide_eq_true (by kernel_rfl); omega⟩
set_option maxRecDepth 100000 in
theorem keyArrT {a b c : ByteArray} (h : KST (a, b, c)) : keyOf Try.prog 62 (.agg #[.string a, .string b, .string c]) = some (kLT (a, b, c)) := by
  have hu := Try.underlying62
  have hs := Try.underlying9
  have ha : a.size ≤ maxLen := Nat.le_trans h.1 (by decide)
  have hb : b.size ≤ maxLen := Nat.le_trans h.2.1 (by decide)
  have hc : c.size ≤ maxLen := Nat.le_trans h.2.2 (by decide)
  obtain ⟨m, hm⟩ := typesT
  have hf : (Value.agg #[.string a, .string b, .string c]).formed Try.prog 62 = true := by simp [Value.formed, hu, cellsArrT]
  unfold keyOf
  rw [hu]
  simp only [arrTypeT, hf, hm, Bool.and_self, if_true]
  have r3 : List.range 3 = [0, 1, 2] := rfl
  simp [Program.keyLits, hu, hs, cellsArrT, cellsStrT, Value.cells, r3, ha, hb, hc, kLT]

/-! Maps of keys to numbers, of the call's own. -/
set_option maxRecDepth 100000 in
theorem zero_intT (w : World) : (zeroValue 3).run Try.prog w = .ok (.int .i64 0) w := by rfl
def PlcO (W : World) (M n : Nat) (A : List KT) (f : KT → Nat) : Prop :=
  ∃ D, W.ownsMap Try.prog 62 (plainElem (H := Unit) Try.prog 3) M n D ∧ ∀ k, KST k → Maps.has D (kLT k) = hasD A k ∧ D.atKey (kLT k) (.lit (.int .i64 0)) = .lit (.int .i64 (if hasD A k = true then (f k : Int) else 0))
theorem PlcO.block {W W' : World} {M n : Nat} {A : List KT} {f : KT → Nat} (h : PlcO W M n A f) (e : W'.heap[M]? = W.heap[M]?) : PlcO W' M n A f := by
  obtain ⟨D, ⟨es, clock, hb, r⟩, h2⟩ := h
  exact ⟨D, ⟨es, clock, by rw [e]; exact hb, r⟩, h2⟩
theorem PlcO.lt {W : World} {M n : Nat} {A : List KT} {f : KT → Nat} (h : PlcO W M n A f) : M < W.heap.size := by
  obtain ⟨D, h1, _⟩ := h
  exact h1.lt
theorem PlcO.isMap {W : World} {M n : Nat} {A : List KT} {f : KT → Nat} (h : PlcO W M n A f) : ∃ es c, W.heap[M]? = some (.map es c) := by
  obtain ⟨D, ⟨es, c, hb, _⟩, _⟩ := h
  exact ⟨es, c, hb⟩
theorem PlcO.below {W W' : World} {M n : Nat} {A : List KT} {f : KT → Nat} (h : PlcO W M n A f) (hb : Below W.heap.size W W') : PlcO W' M n A f := h.block (hb.block _ h.lt)
theorem PlcO.start (w : World) (f : KT → Nat) : PlcO (w.alloc (.map #[] 0)) w.heap.size 0 [] f :=
  ⟨_, World.ownsMap_made w _ _ _, fun _ _ => ⟨rfl, rfl⟩⟩
theorem PlcO.congr {W : World} {M n : Nat} {A B : List KT} {f g : KT → Nat} (h : PlcO W M n A f) (hA : ∀ k, hasD A k = hasD B k) (hf : ∀ k, hasD A k = true → f k = g k) : PlcO W M n B g := by
  obtain ⟨D, h1, h2⟩ := h
  refine ⟨D, h1, fun k hk => ?_⟩
  obtain ⟨e1, e2⟩ := h2 k hk
  refine ⟨by rw [e1, hA k], ?_⟩
  rw [e2, ← hA k]
  by_cases hc : hasD A k = true
  · rw [if_pos hc, if_pos hc, hf k hc]
  · rw [if_neg hc, if_neg hc]
theorem PlcO.mono {W : World} {M n n' : Nat} {A : List KT} {f : KT → Nat} (h : PlcO W M n A f) (hn : n ≤ n') : PlcO W M n' A f := by
  obtain ⟨D, h1, h2⟩ := h
  exact ⟨D, h1.mono hn, h2⟩
set_option maxRecDepth 100000 in
theorem PlcO.look {W : World} {M n : Nat} {A : List KT} {f : KT → Nat} (h : PlcO W M n A f) {a b c : ByteArray} (hk : KST (a, b, c)) :
    (Instr.lookup 105 (.map (some M)) (.agg #[.string a, .string b, .string c]) false).run Try.prog W = .ok (.int .i64 (if hasD A (a, b, c) = true then (f (a, b, c) : Int) else 0)) W := by
  obtain ⟨D, h1, h2⟩ := h
  obtain ⟨z, hrun, hat, _⟩ := h1.lookup_int arrKeyedT Try.underlying105 Try.underlying3 (zero_intT W) (keyArrT hk)
  have e := (h2 _ hk).2
  rw [hat] at e
  injection e with e
  injection e with _ e
  rw [hrun, e]
set_option maxRecDepth 100000 in
theorem PlcO.look2 {W : World} {M n : Nat} {A : List KT} {f : KT → Nat} (h : PlcO W M n A f) {a b c : ByteArray} (hk : KST (a, b, c)) :
    (Instr.lookup 105 (.map (some M)) (.agg #[.string a, .string b, .string c]) true).run Try.prog W = .ok (.tuple #[.int .i64 (if hasD A (a, b, c) = true then (f (a, b, c) : Int) else 0), .bool (hasD A (a, b, c))]) W := by
  obtain ⟨D, h1, h2⟩ := h
  obtain ⟨v, ps, hrun, hv⟩ := h1.look_ok arrKeyedT Try.underlying105 (zero_intT W) (plainElem_int Try.underlying3 (a := 0) (by decide)) (keyArrT hk)
  obtain ⟨z, rfl, hc, _⟩ := plainElem_int_inv Try.underlying3 hv
  have e := (h2 _ hk).2
  have e1 := congrArg Prod.fst hc
  rw [e] at e1
  injection e1 with e1
  injection e1 with _ e1
  rw [hrun, (h2 _ hk).1, e1]
theorem wf_natT {v : Nat} (h : v ≤ 1000000) : (Lit.int .i64 (v : Int)).wf = true := by
  unfold Lit.wf
  rw [Bool.and_eq_true, decide_eq_true_iff, decide_eq_true_iff]
  have h1 : IntKind.min .i64 = -9223372036854775808 := by decide
  have h2 : IntKind.max .i64 = 9223372036854775807 := by decide
  rw [h1, h2]
  omega
set_option maxRecDepth 100000 in
theorem PlcO.put {W : World} {M n : Nat} {A : List KT} {f : KT → Nat} (h : PlcO W M n A f) (hn : n ≤ 1000000) {p q r : ByteArray} (hk : KST (p, q, r)) (u : Nat) (hu : u ≤ 1000000) :
    ∃ w', (Instr.mapUpdate 105 (.map (some M)) (.agg #[.string p, .string q, .string r]) (.int .i64 (u : Int))).run Try.prog W = .ok () w' ∧ PlcO w' M (n + 1) (A ++ [(p, q, r)]) (fun j => if j = (p, q, r) then u else f j) ∧ W.grownBy w' (some M) := by
  obtain ⟨D, h1, h2⟩ := h
  obtain ⟨w', hrun, h3, h4⟩ := h1.update arrKeyedT Try.underlying105 (by unfold maxLen; omega) (keyArrT hk) (plainElem_int (H := Unit) Try.underlying3 (wf_natT hu))
  refine ⟨w', hrun, ⟨_, h3, fun k hks => ?_⟩, h4⟩
  have hD := (h1.tidy arrKeyedT).isMap
  have ha : hasD (A ++ [(p, q, r)]) k = (hasD A k || decide ((p, q, r) = k)) := by simp [hasD, List.any_append]
  by_cases hkk : k = (p, q, r)
  · subst hkk
    rw [ha]
    refine ⟨?_, ?_⟩
    · rw [has_put_same hD (kLT_lit _)]; simp
    · rw [atKey_put_same hD (kLT_lit _)]; simp
  · have hne : kLT k ≠ kLT (p, q, r) := fun e => hkk (kLT_inj hks hk e)
    have hd : decide ((p, q, r) = k) = false := decide_eq_false fun e => hkk e.symm
    rw [ha, hd, Bool.or_false]
    refine ⟨?_, ?_⟩
    · rw [has_put_other hne]; exact (h2 k hks).1
    · rw [atKey_put_other hne, (h2 k hks).2]
      simp only [if_neg hkk]
end Go.Proofs.Ythjfcfhibdpbnaa
