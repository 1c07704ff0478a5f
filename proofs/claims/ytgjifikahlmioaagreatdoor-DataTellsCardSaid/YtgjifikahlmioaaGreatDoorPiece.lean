/-
  A function that holds a label, inside a fence: the scope is passed where no goto leaves it. No program is named here. strings.IndexByte and strings.LastIndexByte of the mark; package split: single, Trim. Package split: single, Trim. Package split: Each and its iterator. Package split: Split. The document's Same: are two rows of texts the same? Package split: Check; what Kind, Place and Whats tell of its error. The statements' own (layer 4): awake and short. What the laws of layer 4 share: contracts that go on from the start of the law.
-/
import Derived.TacticsIn
import Derived.WalkMore
import Derived.Test.YtgjifikahlmioaaGreatDoorSeqs
import Derived.Test.YtgjifikahlmioaaGreatDoorBMaths
import Derived.Test.YtgjifikahlmioaaGreatDoorBase
import Derived.Lib.Walk
import Derived.Lib.Strings
import Derived.BigGuard
import Derived.BigQuiet
import Derived.Deep.QuietTactic
import Derived.OwnWalkIn
import Derived.OneCell
import Derived.TacticsInMore
import Derived.LoopNIn
import Derived.LoopIn
import Derived.Test.YtgjifikahlmioaaGreatDoorFault
/-! A function that holds a label, inside a fence: the scope is passed where no goto leaves it. No program is named here. -/
namespace Go.Proofs.YtgjifikahlmioaaGreatDoor
open Go

variable {F : Fence} {n : Nat} {P : Program} {b : Frame} {a : Act} {k : List Go.Item} {cs : List Frame} {w : World} {Q : Exit → Act → World → Prop}

theorem stepR_scope {c : Code} : step P (lone (b.atR a (.code (.scope c) :: k)) cs w) = .next (lone (b.atR a (.code c :: .inScope c :: k)) cs w) :=
  step_lone_go (by simp [stepG, stepG.exec, Frame.atR])
theorem stepR_inScope {c : Code} : step P (lone (b.atR a (.inScope c :: k)) cs w) = .next (lone (b.atR a k) cs w) :=
  step_lone_go (by simp [stepG, stepG.exec, Frame.atR])

theorem wpIn_scope_straight {c : Code} (h : c.wpIn F n P (Exit.noGoto Q) a w) : (Code.scope c).wpIn F n P Q a w := by
  intro b k cs hro hb hr
  have h0 : (lone (b.atR a (.code (.scope c) :: k)) cs w).fenced P F := fenced_calm hb hr rfl
  obtain ⟨e, a₁, w₁, hq, harr⟩ := h b (.inScope c :: k) cs hro hb hr
  cases e with
  | normal => exact ⟨.normal, a₁, w₁, hq, .head h0 stepR_scope (StepsIn.trans harr (.one (fenced_calm hb hr rfl) stepR_inScope))⟩
  | exit id =>
    have hx : exitTo id (.inScope c :: k) = exitTo id k := by simp [exitTo]
    exact ⟨.exit id, a₁, w₁, hq, fun k' hk => .head h0 stepR_scope (harr.1 k' (by rw [hx]; exact hk)),
      fun hr' hk => let ⟨k₁, h1, h2⟩ := harr.2 hr' (by rw [hx]; exact hk); ⟨k₁, h1, .head h0 stepR_scope h2⟩⟩
  | goto l => exact hq.elim
  | ret => exact ⟨_, a₁, w₁, hq, .of_steps (.one h0 stepR_scope) harr⟩
  | panic ch => exact ⟨_, a₁, w₁, hq, .of_steps (.one h0 stepR_scope) harr⟩
  | outgrown => exact ⟨_, a₁, w₁, hq, .of_steps (.one h0 stepR_scope) harr⟩
end Go.Proofs.YtgjifikahlmioaaGreatDoor

/-! strings.IndexByte and strings.LastIndexByte of the mark; package split: single, Trim. -/
namespace Go.Proofs.YtgjifikahlmioaaGreatDoor
open Go Go.RowKit

theorem bs_get (s : ByteArray) (k : Nat) (h : k < s.size) : (bs s)[k]? = some s[k] := by
  show s.data.toList[k]? = _
  rw [Array.getElem?_toList]
  exact Array.getElem?_eq_getElem h
end Go.Proofs.YtgjifikahlmioaaGreatDoor

/-! Package split: single, Trim. -/
namespace Go.Proofs.YtgjifikahlmioaaGreatDoor
open Go Go.RowKit

theorem single_last2 {s : ByteArray} (h : singleL (bs s)) : ∃ m, s.size = m + 2 ∧ (bs s)[m]? = some 45 ∧ ∃ c, (bs s)[m + 1]? = some c ∧ c ≠ 45 := by
  obtain ⟨a, c, e, hc⟩ := h
  refine ⟨a.length, ?_, ?_, c, ?_, hc⟩
  · rw [← size_bs, e]; simp
  · rw [e]; simp
  · rw [e, show a ++ [45, c] = (a ++ [45]) ++ [c] by simp, List.getElem?_append_right (by simp)]; simp
theorem single_of2 {s : ByteArray} {m : Nat} (h : s.size = m + 2) (h1 : (bs s)[m]? = some 45) {c : UInt8} (h2 : (bs s)[m + 1]? = some c) (hc : c ≠ 45) : singleL (bs s) := by
  refine ⟨(bs s).take m, c, ?_, hc⟩
  have hl : (bs s).length = m + 2 := by rw [size_bs]; exact h
  obtain ⟨q1, e1⟩ := List.getElem?_eq_some_iff.1 h1
  obtain ⟨q2, e2⟩ := List.getElem?_eq_some_iff.1 h2
  conv => lhs; rw [← List.take_append_drop m (bs s)]
  rw [List.drop_eq_getElem_cons q1, List.drop_eq_getElem_cons q2, e1, e2, List.drop_of_length_le (by omega)]

theorem mark_true {c : UInt8} (h : c = 45) : ((c.toNat : Int) == 45) = true ∧ ((c.toNat : Int) != 45) = false := by rw [h]; exact ⟨rfl, rfl⟩
theorem mark_false {c : UInt8} (h : c ≠ 45) : ((c.toNat : Int) == 45) = false ∧ ((c.toNat : Int) != 45) = true := by
  have e : ((c.toNat : Int) == 45) = false := by
    rw [beq_eq_false_iff_ne]
    exact fun e => h (UInt8.toNat_inj.1 (by have : c.toNat = 45 := by omega
                                            simpa using this))
  exact ⟨e, by rw [bne, e]; rfl⟩

theorem take_extract (s : ByteArray) (e : Nat) : s.extract 0 e = ofL ((bs s).take e) := by
  apply ofL_ext
  rw [bs_ofL]
  show (s.extract 0 e).data.toList = _
  rw [Lib.extract_data]
  simp
theorem trimS_none {s : ByteArray} (h : (45 : UInt8) ∉ bs s) : trimS s = ⟨#[]⟩ := by unfold trimS; rw [trimL_none h]; rfl
end Go.Proofs.YtgjifikahlmioaaGreatDoor

/-! Package split: Each and its iterator. -/
namespace Go.Proofs.YtgjifikahlmioaaGreatDoor
open Go Go.RowKit

attribute [local go_sem] Oper.semAt_some

theorem drop_extract (s : ByteArray) (a : Nat) : s.extract a s.size = ofL ((bs s).drop a) := by
  apply ofL_ext
  rw [bs_ofL, bs_extract, List.take_of_length_le]
  rw [List.length_drop, size_bs]
  exact Nat.le_refl _
/-- One round of Each: the last piece, or one piece more. -/
theorem each_step (s : ByteArray) (a : Nat) (ha : a ≤ s.size) :
    (Lib.indexByte (bs (s.extract a s.size)) 45 = -1 ∧ placed a (spl ((bs s).drop a)) = [(a, s.extract a s.size)]) ∨
    ∃ m : Nat, Lib.indexByte (bs (s.extract a s.size)) 45 = (m : Int) ∧ a + m + 1 ≤ s.size ∧ placed a (spl ((bs s).drop a)) = (a, s.extract a (a + m)) :: placed (a + m + 1) (spl ((bs s).drop (a + m + 1))) := by
  rw [drop_extract, bs_ofL]
  rcases idx_cases ((bs s).drop a) with ⟨h1, h2⟩ | ⟨p, r, h1, h2, h3⟩
  · refine .inl ⟨h1, ?_⟩
    rw [spl_plain h2]; rfl
  · refine .inr ⟨p.length, h1, ?_, ?_⟩
    · have := congrArg List.length h2
      rw [List.length_drop, size_bs] at this
      simp at this; omega
    · have hr : (bs s).drop (a + p.length + 1) = r := by
        have e := congrArg (List.drop (p.length + 1)) h2
        rw [List.drop_drop, ← Nat.add_assoc] at e
        rw [e, show p ++ 45 :: r = (p ++ [45]) ++ r by simp, List.drop_left' (by simp)]
      have hp : s.extract a (a + p.length) = ofL p := by
        apply ofL_ext
        rw [bs_ofL, bs_extract, h2, show a + p.length - a = p.length by omega, List.take_left]
      rw [hr, hp]
      conv => lhs; rw [h2, spl_app, spl_plain h3]
      rfl

theorem slice_mid (s : ByteArray) (a m : Nat) (h : a + m ≤ s.size) (w : World) :
    (Instr.slice 9 (.string s) (some (.int .i64 (a : Int))) (some (.int .i64 ((a : Int) + (m : Int)))) none).run Tryz.prog w = .ok (.string (s.extract a (a + m))) w := by
  rw [run_slice_string w 9 s .i64 .i64 (a : Int) ((a : Int) + (m : Int)) Tryz.underlying9 (by omega) (by omega) (by omega), show ((a : Int) + (m : Int)).toNat = a + m by omega, Int.toNat_natCast]

end Go.Proofs.YtgjifikahlmioaaGreatDoor

/-! Package split: Split. -/
namespace Go.Proofs.YtgjifikahlmioaaGreatDoor
open Go Go.RowKit

attribute [local go_sem] Oper.semAt_some

def strs (l : List ByteArray) : List Value := l.map Value.string
theorem strs_length (l : List ByteArray) : (strs l).length = l.length := List.length_map ..

/-- The blocks that a round leaves alone: those below a call's start, and the iterator's own box. -/
def qOf (n b : Nat) (k : Nat) : Prop := k < n ∨ k = b

def SpI (w : World) (pre : List (Nat × ByteArray)) (W : World) : Prop :=
  ∃ v, W.heap[w.heap.size]? = some (.cells #[v] 67 (0, 0)) ∧ W.ownsRow (w.heap.size + 2) 9 1 v pre.length (strs (pre.map (·.2))) ∧ Below w.heap.size w W ∧ w.heap.size + 2 ≤ W.heap.size

theorem sp_app {hi : Nat} {w W3 w1 : World} {j : Nat} {v v' s : Value} {xs ys : List Value}
    (hR : W3.heap[w.heap.size]? = some (.cells #[v] 67 (0, 0))) (hown : W3.ownsRow (w.heap.size + 2) 9 1 v j xs) (hB : Below w.heap.size w W3) (hsz : w.heap.size + 2 ≤ W3.heap.size)
    (hown1 : w1.ownsRow (w.heap.size + 2) 9 1 v' (j + 1) ys) (hgrow : (W3.alloc (.cells #[s] 9)).grownBy w1 v.ownBlock) :
    ∃ g' cap', v' = .slice (some ⟨g', 0, none⟩) (j + 1) cap' ∧ w.heap.size + 2 ≤ g' ∧ w1.cell? ⟨w.heap.size, 0, none⟩ = some v ∧ w1.frozen? ⟨w.heap.size, 0, none⟩ = false ∧ KeepQ (qOf w.heap.size (w.heap.size + 1)) hi frS W3 w1 ∧
      Hid (Below w.heap.size w w1 ∧ w.heap.size + 2 ≤ w1.heap.size ∧ w1.heap[w.heap.size]? = some (.cells #[v] 67 (0, 0))) := by
  have hgs := hgrow.size
  have hsd : (W3.alloc (.cells #[s] 9)).heap.size = W3.heap.size + 1 := by simp
  have hne : ∀ r, v.ownBlock = some r → w.heap.size + 2 ≤ r := fun r e => (hown.lt r e).1
  have hblk : ∀ k, k < W3.heap.size → (W3.alloc (.cells #[s] 9)).heap[k]? = W3.heap[k]? := fun k hk => Below.heap_alloc W3 _ k hk
  have hR1' : w1.heap[w.heap.size]? = some (.cells #[v] 67 (0, 0)) := (hgrow.block _ (by omega) (fun e => by have := hne _ e.symm; omega)).trans ((hblk _ (by omega)).trans hR)
  have hB1 : Below w.heap.size w w1 := (hB.alloc hB.size _).grown hgrow (by omega) (fun r e => by have := hne r e; omega)
  obtain ⟨g', cap', rfl⟩ := ownsRow_succ hown1
  refine ⟨g', cap', rfl, (hown1.lt g' rfl).1, cell_of_one hR1', free_of_one hR1', ?_, hB1, by omega, hR1'⟩
  refine (KeepQ.of_below (A := W3) ((Below.refl _ W3).alloc (Nat.le_refl _) _)).trans (KeepQ.grown hgrow (fun r e => ?_))
  have hr := hne r e
  refine ⟨fun h => by unfold qOf at h; omega, .inr ?_⟩
  rcases hown.2 with ⟨rfl, _⟩ | ⟨g, cap, cur, rfl, _, hb, _⟩
  · cases e
  · cases e
    exact ⟨_, (hblk g (Array.getElem?_eq_some_iff.1 hb).1).trans hb, by simp [frS]⟩

end Go.Proofs.YtgjifikahlmioaaGreatDoor

/-! The document's Same: are two rows of texts the same? -/
namespace Go.Proofs.YtgjifikahlmioaaGreatDoor
open Go Go.RowKit

theorem own_lower {w : World} {base base' : Nat} {e : TypeId} {size : Nat} {v : Value} {n : Nat} {xs : List Value} (h : w.ownsRow base e size v n xs) (hb : base' ≤ base) : w.ownsRow base' e size v n xs := by
  obtain ⟨h1, h2⟩ := h
  refine ⟨h1, ?_⟩
  rcases h2 with h2 | ⟨g, cap, cur, a, b, c⟩
  · exact .inl h2
  · exact .inr ⟨g, cap, cur, a, by omega, c⟩
theorem own_below {w w' : World} {base : Nat} {e : TypeId} {size : Nat} {v : Value} {n : Nat} {xs : List Value} (h : w.ownsRow base e size v n xs) (hb : Below w.heap.size w w') : w'.ownsRow base e size v n xs :=
  h.kept (grown_of_below hb) (by cases hv : v.ownBlock <;> simp)
theorem strs_get {l : List ByteArray} {k : Nat} {p : ByteArray} (h : l[k]? = some p) : (strs l)[k]? = some (.string p) := by
  unfold strs; rw [List.getElem?_map, h]; rfl
theorem own_cell {w : World} {base g cap n : Nat} {l : List ByteArray} (h : w.ownsRow base 9 1 (.slice (some ⟨g, 0, none⟩) n cap) n (strs l)) : ∀ i p, l[i]? = some p → w.cell? ⟨g, i, none⟩ = some (.string p) := fun i p hp => by
  have hl : l.length = n := by have := h.1; rw [strs_length] at this; omega
  have hi := (List.getElem?_eq_some_iff.1 hp).1
  exact (h.cellAt i (by omega)).trans (strs_get hp)

theorem toList_ne {p q : ByteArray} (h : ¬ p = q) : (p.toList == q.toList) = false := by
  rw [beq_eq_false_iff_ne, ByteArray.toList_eq, ByteArray.toList_eq]
  exact fun e => h (ofL_ext e)
theorem take_eq_succ {l1 l2 : List ByteArray} {k : Nat} (h : l1.take k = l2.take k) (h1 : k < l1.length) (h2 : k < l2.length) (e : l1[k] = l2[k]) : l1.take (k + 1) = l2.take (k + 1) := by
  rw [List.take_succ_eq_append_getElem h1, List.take_succ_eq_append_getElem h2, h, e]

end Go.Proofs.YtgjifikahlmioaaGreatDoor

/-! Package split: Check; what Kind, Place and Whats tell of its error. -/
namespace Go.Proofs.YtgjifikahlmioaaGreatDoor
open Go Go.RowKit

attribute [local go_sem] Oper.semAt_some

theorem badOf_append (a b : List (Nat × ByteArray)) : badOf (a ++ b) = if badOf a = none then badOf b else badOf a := by
  induction a with
  | nil => simp [badOf]
  | cons x r ih =>
    rw [List.cons_append]
    by_cases h : okS x.2 = true
    · simp only [badOf, h, if_true]; exact ih
    · simp [badOf, h]

def CkI (w : World) (pre : List (Nat × ByteArray)) (W : World) : Prop :=
  badOf pre = none ∧ W.heap[w.heap.size]? = some (.cells #[.int .i64 0] 42 (0, 0)) ∧ W.heap[w.heap.size + 1]? = some (.cells #[.int .i64 0] 3 (0, 0)) ∧ Below w.heap.size w W
def CkX (w : World) (c : Code) (pre : List (Nat × ByteArray)) (W : World) : Prop :=
  c = .exit 0 ∧ (∃ a : Nat, (∀ rest, badOf (pre ++ rest) = some a) ∧ W.heap[w.heap.size]? = some (.cells #[.int .i64 10] 42 (0, 0)) ∧ W.heap[w.heap.size + 1]? = some (.cells #[.int .i64 (a : Int)] 3 (0, 0))) ∧ Below w.heap.size w W

/-- What Check tells of a text: nothing, or a fault in a block of its own. -/
def ErrIs (W : World) (s : ByteArray) (v : Value) : Prop :=
  (chkS s = none ∧ v = .nilIface) ∨ ∃ a b : Nat, chkS s = some a ∧ v = .iface 104 (.pointer (some ⟨b, 0, none⟩)) ∧ W.heap[b]? = some (faultObj a ⟨#[115, 117, 98, 116, 97, 103]⟩ (.iface 42 (.int .i64 10)))
theorem ErrIs.below {W W' : World} {s : ByteArray} {v : Value} (h : ErrIs W s v) (hb : Below W.heap.size W W') : ErrIs W' s v := by
  rcases h with h | ⟨a, b, h1, h2, h3⟩
  · exact .inl h
  · exact .inr ⟨a, b, h1, h2, (hb.block b (Array.getElem?_eq_some_iff.1 h3).1).trans h3⟩

theorem ck_exit {w W3 : World} {k j : Int} {hi : Nat} {fr : Obj → Bool} {a : Nat} {pre : List (Nat × ByteArray)} (h0 : W3.heap[w.heap.size]? = some (.cells #[.int .i64 k] 42 (0, 0))) (h1 : W3.heap[w.heap.size + 1]? = some (.cells #[.int .i64 j] 3 (0, 0)))
    (hB : Below w.heap.size w W3) (hhi : w.heap.size + 2 ≤ hi) (hbad : ∀ rest, badOf (pre ++ rest) = some a) :
    KeepQ (qOf w.heap.size (w.heap.size + 2)) hi fr W3 ((W3.setCell ⟨w.heap.size, 0, none⟩ (.int .i64 10)).setCell ⟨w.heap.size + 1, 0, none⟩ (.int .i64 (a : Int))) ∧
      CkX w (.exit 0) pre ((W3.setCell ⟨w.heap.size, 0, none⟩ (.int .i64 10)).setCell ⟨w.heap.size + 1, 0, none⟩ (.int .i64 (a : Int))) := by
  have e1 : (W3.setCell ⟨w.heap.size, 0, none⟩ (.int .i64 10)).heap[w.heap.size + 1]? = some (.cells #[.int .i64 j] 3 (0, 0)) := (Below.heap_setCell _ _ _ _ (by show w.heap.size + 1 ≠ w.heap.size; omega)).trans h1
  refine ⟨(KeepQ.setCell _ _ _ _ (p := ⟨w.heap.size, 0, none⟩) _ (by unfold qOf; show ¬ (w.heap.size < w.heap.size ∨ w.heap.size = w.heap.size + 2); omega) (by show w.heap.size < hi; omega)).trans
      (KeepQ.setCell _ _ _ _ (p := ⟨w.heap.size + 1, 0, none⟩) _ (by unfold qOf; show ¬ (w.heap.size + 1 < w.heap.size ∨ w.heap.size + 1 = w.heap.size + 2); omega) (by show w.heap.size + 1 < hi; omega)), rfl, ⟨a, hbad, ?_, one_setCell e1⟩, ?_⟩
  · exact (Below.heap_setCell _ _ _ _ (by show w.heap.size ≠ w.heap.size + 1; omega)).trans (one_setCell h0)
  · exact (hB.setCell (p := ⟨w.heap.size, 0, none⟩) (Nat.le_refl _) _).setCell (p := ⟨w.heap.size + 1, 0, none⟩) (by show w.heap.size ≤ w.heap.size + 1; omega) _

/- What is told of it. -/
def SUB : ByteArray := ⟨#[115, 117, 98, 116, 97, 103]⟩
def kindE (s : ByteArray) : Int := if (chkS s).isNone then 0 else 10
def placeE (s : ByteArray) : Int := match chkS s with
  | none => -1
  | some a => a
theorem chain_of {W : World} {a b : Nat} (h : W.heap[b]? = some (faultObj a ⟨#[115, 117, 98, 116, 97, 103]⟩ (.iface 42 (.int .i64 10)))) :
    Chain W (b + 1) (.iface 104 (.pointer (some ⟨b, 0, none⟩))) [.fault b a ⟨#[115, 117, 98, 116, 97, 103]⟩, .num 10] :=
  ⟨rfl, Nat.lt_succ_self _, _, h, rfl, rfl⟩
theorem kind_err {s : ByteArray} {v : Value} (w : World) (h : ErrIs w s v) (hg : TypeLaid w) :
    Calls Tryz.prog 11 #[v] w fun e w' => e = .returned (.int .i64 (kindE s)) ∧ Below w.heap.size w w' := by
  rcases h with ⟨h, rfl⟩ | ⟨a, b, h, rfl, hb⟩
  · unfold kindE; rw [h]; exact kind_nil w
  · unfold kindE; rw [h]; exact kind_chain w (by simp) (lt_of_block hb) (chain_of hb) hg
theorem place_err {s : ByteArray} {v : Value} (w : World) (h : ErrIs w s v) :
    Calls Tryz.prog 27 #[v] w fun e w' => e = .returned (.int .i64 (placeE s)) ∧ Below w.heap.size w w' := by
  rcases h with ⟨h, rfl⟩ | ⟨a, b, h, rfl, hb⟩
  · unfold placeE; rw [h]; exact place_chain (xs := []) (n₀ := 0) w (by decide) (Nat.zero_le _) rfl
  · unfold placeE; rw [h]; exact place_chain w (by simp) (lt_of_block hb) (chain_of hb)
theorem whats_err {s : ByteArray} {v : Value} {a : Nat} (w : World) (h : ErrIs w s v) (ha : chkS s = some a) :
    Calls Tryz.prog 26 #[v] w fun e w' => ∃ u, e = .returned u ∧ w'.ownsRow (w.heap.size + 2) 9 1 u 1 [.string SUB] ∧ Below w.heap.size w w' := by
  rcases h with ⟨h, _⟩ | ⟨a', b, _, rfl, hb⟩
  · rw [h] at ha; cases ha
  · exact whats_chain w (by simp) (lt_of_block hb) (chain_of hb)
end Go.Proofs.YtgjifikahlmioaaGreatDoor

/-! The statements' own (layer 4): awake and short. -/
namespace Go.Proofs.YtgjifikahlmioaaGreatDoor
open Go Go.RowKit

/-- A text cut to 60 bytes. -/
def cut60 (s : ByteArray) : ByteArray := if 60 < s.size then s.extract 0 60 else s
theorem size_cut60 (s : ByteArray) : (cut60 s).size ≤ 60 := by
  unfold cut60; split
  · rw [ByteArray.size_extract]; omega
  · omega
theorem ex_chk : chkS ⟨#[101, 110, 45, 45, 117, 115]⟩ = some 3 := by decide +kernel
theorem ex_trim : trimS ⟨#[122, 104, 45, 72, 97, 110, 116, 45, 67, 78, 45, 120, 45, 112, 114, 105, 118, 97, 116, 101, 49]⟩ = ⟨#[122, 104, 45, 72, 97, 110, 116, 45, 67, 78]⟩ := by decide +kernel

end Go.Proofs.YtgjifikahlmioaaGreatDoor

/-! What the laws of layer 4 share: contracts that go on from the start of the law. -/
namespace Go.Proofs.YtgjifikahlmioaaGreatDoor
open Go Go.RowKit

/-- Where a piece stands. -/
theorem placed_at (s : ByteArray) : ∀ (n a : Nat), s.size - a = n → a ≤ s.size → ∀ y ∈ placed a (spl ((bs s).drop a)), y.1 + y.2.size ≤ s.size ∧ s.extract y.1 (y.1 + y.2.size) = y.2 := by
  intro n
  induction n using Nat.strongRecOn with
  | _ n ih =>
    intro a hn ha y hy
    rcases each_step s a ha with ⟨_, h2⟩ | ⟨m, _, h3, h2⟩
    · rw [h2] at hy
      obtain rfl := List.mem_singleton.1 hy
      have e : (s.extract a s.size).size = s.size - a := by rw [ByteArray.size_extract]; omega
      refine ⟨by simp only [e]; omega, ?_⟩
      simp only [e]
      rw [show a + (s.size - a) = s.size by omega]
    · rw [h2] at hy
      rcases List.mem_cons.1 hy with rfl | hy
      · have e : (s.extract a (a + m)).size = m := by rw [ByteArray.size_extract]; omega
        refine ⟨by simp only [e]; omega, ?_⟩
        simp only [e]
      · exact ih (s.size - (a + m + 1)) (by omega) (a + m + 1) rfl (by omega) y hy
theorem pieces_at {s : ByteArray} {y : Nat × ByteArray} (h : y ∈ pieces s) : y.1 + y.2.size ≤ s.size ∧ s.extract y.1 (y.1 + y.2.size) = y.2 :=
  placed_at s s.size 0 rfl (Nat.zero_le _) y h
theorem prefix_get {s : ByteArray} {pre : List (Nat × ByteArray)} {y : Nat × ByteArray} (h : pre ++ [y] <+: pieces s) : (pieces s)[pre.length]? = some y ∧ (splS s)[pre.length]? = some y.2 ∧ y ∈ pieces s ∧ pre.length + 1 ≤ (splS s).length := by
  have h1 : (pieces s)[pre.length]? = some y := by
    obtain ⟨r, hr⟩ := h
    rw [← hr, List.append_assoc, List.getElem?_append_right (Nat.le_refl _)]; simp
  refine ⟨h1, ?_, h.subset (by simp), ?_⟩
  · rw [← pieces_map, List.getElem?_map, h1]; rfl
  · have := h.length_le
    rw [pieces_length] at this
    simpa using this

theorem bs_glue (a b : ByteArray) : bs (a ++ ⟨#[45]⟩ ++ b) = bs a ++ 45 :: bs b := by
  simp [bs, ByteArray.data_append]
theorem size_glue (a b : ByteArray) : (a ++ ⟨#[45]⟩ ++ b).size = a.size + 1 + b.size := by
  rw [← size_bs, bs_glue, List.length_append, List.length_cons, size_bs, size_bs]; omega
theorem splS_glue (a b : ByteArray) : splS (a ++ ⟨#[45]⟩ ++ b) = splS a ++ splS b := by
  unfold splS; rw [bs_glue, spl_app, List.map_append]
theorem strs_one (l : List ByteArray) : ∀ u ∈ strs l, u.oneCell' = true := by
  intro u hu
  obtain ⟨p, _, rfl⟩ := List.mem_map.1 hu
  rfl
theorem strs_append (a b : List ByteArray) : strs (a ++ b) = strs a ++ strs b := List.map_append ..

end Go.Proofs.YtgjifikahlmioaaGreatDoor
