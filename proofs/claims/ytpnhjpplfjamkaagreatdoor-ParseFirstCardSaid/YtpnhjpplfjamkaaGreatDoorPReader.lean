/-
  Package parse: the reader, as it lies in memory; what takes in a piece. Package parse: the reader takes in a piece: the kinds that cannot end the reading. Package parse: the reader takes in a piece: the kinds that grow a row, and those that can end the reading. Package parse: the reader takes in a piece: the kinds that can end the reading. Package parse: the reader takes in a piece: an extension goes on. Package parse: the reader takes in a piece: an extension goes on (the walk).
-/
import Derived.Test.YtpnhjpplfjamkaaGreatDoorPMath
import Derived.Test.YtpnhjpplfjamkaaGreatDoorNRules
import Derived.Test.YtpnhjpplfjamkaaGreatDoorPieceR
import Derived.Deep.AppendLies
import Derived.Maps.OwnOps
import Derived.WalkLawsBesides
import Derived.Test.YtpnhjpplfjamkaaGreatDoorKinds
import Derived.Test.YtpnhjpplfjamkaaGreatDoorMClone
import Derived.Deep.RegionLaw
import Derived.Deep.Cut
/-! Package parse: the reader, as it lies in memory; what takes in a piece. -/
namespace Go.Proofs.YtpnhjpplfjamkaaGreatDoor
open Go Go.RowKit Go.Maps

/-! A look-up in a map of bools that the call itself has made. -/
theorem plainElem_bool_inv {H : Type} {P : Program} {e : TypeId} (he : P.underlying e = some .bool) {v : Value} {z : DataW H × List MemPlace} (h : plainElem P e v = some z) : ∃ b, v = .bool b ∧ z = (.lit (.bool b), []) := by
  unfold plainElem at h
  rw [he] at h
  cases v <;> simp at h
  exact ⟨_, rfl, h.symm⟩
theorem wpList_lookup_own_bool {H : Type} {P : Program} (w : World) {ops : Array Oper} {rest : List Oper} {o : Oper} {a : Act} {Q : Exit → Act → World → Prop}
    (hg : o.guard = none) (m x : Operand) (t : TypeId) (hop : o.op = Op.lookup t m x false)
    (k e : TypeId) (K : Keyed P k) (ht : P.underlying t = some (.map k e)) (he : P.underlying e = some .bool) (hz : (zeroValue e).run P w = .ok (.bool false) w) (b n : Nat) (D : DataW H)
    (hm : a.eval m = .map (some b)) (hown : w.ownsMap P k (plainElem P e) b n D) (key : Value) (kl : Lit) (hx : a.eval x = key) (hkey : keyOf P k key = some kl)
    (hK : ∀ c : Bool, D.atKey kl (.lit (.bool false)) = .lit (.bool c) → wpList P ops Q rest (a.put o.dst (.bool c)) w) :
    wpList P ops Q (o :: rest) a w := by
  refine wpList_plain hg fun K' hK' => ?_
  obtain ⟨v, ps, hrun, hv⟩ := hown.lookup K ht hz (plainElem_bool he false) hkey
  obtain ⟨c, rfl, hc⟩ := plainElem_bool_inv he hv
  simp only [Prod.mk.injEq] at hc
  unfold Oper.wp
  simp [execOp, hop, hm, hx, hrun, Result.andThen]
  exact hK' _ _ (hK c hc.1)

/-! Rows that share no memory. -/
def Far (a b : Value) : Prop := ∀ g, a.ownBlock = some g → b.ownBlock = some g → False
theorem Far.symm {a b : Value} (h : Far a b) : Far b a := fun g h1 h2 => h g h2 h1
def OwnAll (w : World) (N : Nat) (L : List (Value × List ByteArray)) : Prop := (∀ x ∈ L, w.ownsRow N 9 1 x.1 x.2.length (strs x.2)) ∧ L.Pairwise fun a b => Far a.1 b.1
theorem OwnAll.kept {w w' : World} {N : Nat} {L : List (Value × List ByteArray)} {row : Option Nat} (h : OwnAll w N L) (hg : w.grownBy w' row) (hr : ∀ x ∈ L, ∀ g, x.1.ownBlock = some g → row ≠ some g) : OwnAll w' N L :=
  ⟨fun x hx => (h.1 x hx).kept hg (by
    cases hv : x.1.ownBlock with
    | none => exact .inl rfl
    | some g => exact .inr fun e => hr x hx g hv e.symm), h.2⟩
theorem OwnAll.append {w w' : World} {N : Nat} {A C : List (Value × List ByteArray)} {v v' : Value} {l l' : List ByteArray} (h : OwnAll w N (A ++ (v, l) :: C)) (hown : w'.ownsRow N 9 1 v' l'.length (strs l')) (hg : w.grownBy w' v.ownBlock)
    (hl : ∀ g, v'.ownBlock = some g → v.ownBlock = some g ∨ w.heap.size ≤ g) : OwnAll w' N (A ++ (v', l') :: C) := by
  obtain ⟨h1, h2⟩ := h
  rw [List.pairwise_append, List.pairwise_cons] at h2
  obtain ⟨pA, ⟨pv, pC⟩, pAC⟩ := h2
  have far : ∀ x ∈ A ++ C, Far v x.1 := fun x hx => by
    rcases List.mem_append.1 hx with hx | hx
    · exact (pAC x hx (v, l) List.mem_cons_self).symm
    · exact pv x hx
  have old : ∀ x ∈ A ++ C, w.ownsRow N 9 1 x.1 x.2.length (strs x.2) := fun x hx => h1 x (by
    rcases List.mem_append.1 hx with hx | hx
    · exact List.mem_append_left _ hx
    · exact List.mem_append_right _ (List.mem_cons_of_mem _ hx))
  have new : ∀ x ∈ A ++ C, Far v' x.1 := fun x hx g e1 e2 => by
    rcases hl g e1 with h | h
    · exact far x hx g h e2
    · have := (old x hx).lt g e2; omega
  refine ⟨fun x hx => ?_, ?_⟩
  · rcases List.mem_append.1 hx with hx | hx
    · exact (old x (List.mem_append_left _ hx)).kept hg (by
        cases hv : x.1.ownBlock with
        | none => exact .inl rfl
        | some g => exact .inr fun e => far x (List.mem_append_left _ hx) g e.symm hv)
    · rcases List.mem_cons.1 hx with rfl | hx
      · exact hown
      · exact (old x (List.mem_append_right _ hx)).kept hg (by
          cases hv : x.1.ownBlock with
          | none => exact .inl rfl
          | some g => exact .inr fun e => far x (List.mem_append_right _ hx) g e.symm hv)
  · rw [List.pairwise_append, List.pairwise_cons]
    refine ⟨pA, ⟨fun x hx => new x (List.mem_append_right _ hx), pC⟩, fun a ha b hb => ?_⟩
    rcases List.mem_cons.1 hb with rfl | hb
    · exact (new a (List.mem_append_left _ ha)).symm
    · exact pAC a ha b (List.mem_cons_of_mem _ hb)

/-! What a call may turn: the reader's own cells, its map, rows of its own. -/
def frR : Obj → Bool
  | .cells _ t _ => decide (t = 9) || decide (t = 51)
  | _ => false
structure Foot (N B M : Nat) (w w' : World) : Prop where
  os : w'.os = w.os
  tape : w'.tape = w.tape
  output : w'.output = w.output
  size : w.heap.size ≤ w'.heap.size
  blk : ∀ k o, w.heap[k]? = some o → k ≠ B → k ≠ M → (k < N ∨ frR o = false) → w'.heap[k]? = some o
section
variable {N B M : Nat} {w w' w2 : World}
theorem Foot.refl (N B M : Nat) (w : World) : Foot N B M w w := ⟨rfl, rfl, rfl, Nat.le_refl _, fun _ _ h _ _ _ => h⟩
theorem Foot.trans (h : Foot N B M w w') (k : Foot N B M w' w2) : Foot N B M w w2 := ⟨k.os.trans h.os, k.tape.trans h.tape, k.output.trans h.output, Nat.le_trans h.size k.size, fun i o h1 h2 h3 h4 => k.blk i o (h.blk i o h1 h2 h3 h4) h2 h3 h4⟩
theorem Foot.grown {row : Option Nat} (hg : w.grownBy w' row) (hr : ∀ k, row = some k → k = B ∨ k = M ∨ (N ≤ k ∧ ∀ o, w.heap[k]? = some o → frR o = true)) : Foot N B M w w' :=
  ⟨hg.os, hg.tape, hg.output, hg.size, fun k o h1 h2 h3 h4 => (hg.block k (Array.getElem?_eq_some_iff.1 h1).1 (fun e => by
    rcases hr k e.symm with h | h | ⟨h5, h6⟩
    · exact h2 h
    · exact h3 h
    · rcases h4 with h4 | h4
      · omega
      · rw [h6 o h1] at h4; cases h4)).trans h1⟩
theorem Foot.of (hb : Below w.heap.size w w') : Foot N B M w w' := Foot.grown (row := none) ⟨hb.os, hb.tape, hb.output, hb.size, fun k hk _ => hb.block k hk⟩ (fun k e => by cases e)
theorem Foot.put (hg : w.grownBy w' (some B)) : Foot N B M w w' := Foot.grown hg (fun k e => by injection e with e; exact .inl e.symm)
theorem Foot.note (hg : w.grownBy w' (some M)) : Foot N B M w w' := Foot.grown hg (fun k e => by injection e with e; exact .inr (.inl e.symm))
theorem Foot.alloc (N B M : Nat) (w : World) (o : Obj) : Foot N B M w (w.alloc o) := Foot.of ((Below.refl _ w).alloc (Nat.le_refl _) o)
theorem Foot.drew (N B M : Nat) (w : World) : Foot N B M w w.drew := Foot.of (Below.drew (Below.refl _ w))
theorem own_free {e : TypeId} {sz n : Nat} {v : Value} {xs : List Value} (hown : w.ownsRow N e sz v n xs) (he : e = 9 ∨ e = 51) : ∀ k, v.ownBlock = some k → N ≤ k ∧ ∀ o, w.heap[k]? = some o → frR o = true := by
  intro k hk
  refine ⟨(hown.lt k hk).1, fun o ho => ?_⟩
  rcases hown.2 with ⟨rfl, _⟩ | ⟨g, c, cur, rfl, _, hg, _⟩
  · cases hk
  · have e : g = k := by simpa [Value.ownBlock] using hk
    subst e
    rw [hg] at ho
    injection ho with ho
    subst ho
    rcases he with rfl | rfl <;> rfl
theorem Foot.row {e : TypeId} {sz n : Nat} {v : Value} {xs : List Value} (hown : w.ownsRow N e sz v n xs) (he : e = 9 ∨ e = 51) (hg : w.grownBy w' v.ownBlock) : Foot N B M w w' :=
  Foot.grown hg (fun k hk => .inr (.inr (own_free hown he k hk)))
end

/-! The reader in memory. -/
def rdCs (st : PSt) (ve vv vx vp : Value) (M : Nat) : Array Value := #[.string st.T.lang, ve, .string st.T.script, .string st.T.region, vv, vx, vp, .string ByteArray.empty, .int .i64 (st.last : Int), .int .i64 (st.stage : Int), .string st.key, .bool st.must, .map (some M)]
def rdRows (st : PSt) (ve vv vp : Value) (us : List Value) : List (Value × List ByteArray) := [(ve, st.T.extl), (vv, st.T.vars), (vp, st.T.priv)] ++ us.zip (st.T.exts.map (·.2))
structure RdIs (w : World) (N B M : Nat) (st : PSt) (ve vv vx vp : Value) (us : List Value) : Prop where
  hb : w.heap[B]? = some (.cells (rdCs st ve vv vx vp M) 73 (0, 0))
  nh : N ≤ w.heap.size
  r : OwnAll w N (rdRows st ve vv vp us)
  x : w.ownsRow N 51 2 vx st.T.exts.length (extCells st.T.exts us)
  ul : us.length = st.T.exts.length
  m : ∃ n, n ≤ st.seen.length ∧ w.ownsMap Tryz.prog 9 (plainElem (H := Unit) Tryz.prog 4) M n (setD st.seen)
def Rd (w : World) (N B M : Nat) (st : PSt) : Prop := ∃ ve vv vx vp us, RdIs w N B M st ve vv vx vp us
/-- Small enough for whatever is added. -/
def RdSmall (st : PSt) : Prop := st.T.extl.length ≤ 4194304 ∧ st.T.vars.length ≤ 4194304 ∧ st.T.exts.length ≤ 4194304 ∧ st.T.priv.length ≤ 4194304 ∧ st.seen.length ≤ 4194304 ∧ ∀ x ∈ st.T.exts, x.2.length ≤ 4194304
theorem rd_cell {w : World} {B : Nat} {cs : Array Value} {t : TypeId} (k : Nat) (h : w.heap[B]? = some (.cells cs t (0, 0))) {v : Value} (hk : cs[k]? = some v) : w.cell? ⟨B, k, none⟩ = some v := by
  simp [World.cell?, h, hk]
theorem own_not_rd {w : World} {base B : Nat} {e : TypeId} {sz : Nat} {v : Value} {n : Nat} {xs : List Value} {cs : Array Value} (h : w.ownsRow base e sz v n xs) (he : e ≠ 73) (hB : w.heap[B]? = some (.cells cs 73 (0, 0))) : v.ownBlock ≠ some B := by
  rcases h.2 with ⟨rfl, _⟩ | ⟨g, c, cur, rfl, _, hg, _⟩
  · simp [Value.ownBlock]
  · intro e
    have e : g = B := by simpa [Value.ownBlock] using e
    subst e
    rw [hB] at hg
    simp at hg
    exact he hg.2.symm
theorem own_not_map {w : World} {base M : Nat} {e : TypeId} {sz n : Nat} {v : Value} {k : Nat} {xs : List Value} {t : TypeId} {R : Value → Option (DataW Unit × List MemPlace)} {D : DataW Unit} (h : w.ownsRow base e sz v n xs) (hm : w.ownsMap Tryz.prog t R M k D) : v.ownBlock ≠ some M := by
  obtain ⟨es, clock, hb, _⟩ := hm
  rcases h.2 with ⟨rfl, _⟩ | ⟨g, c, cur, rfl, _, hg, _⟩
  · simp [Value.ownBlock]
  · intro e
    have e : g = M := by simpa [Value.ownBlock] using e
    subst e
    rw [hb] at hg
    simp at hg
theorem rd_not_map {w : World} {B M : Nat} {cs : Array Value} {k : Nat} {t ty : TypeId} {R : Value → Option (DataW Unit × List MemPlace)} {D : DataW Unit} (hB : w.heap[B]? = some (.cells cs ty (0, 0))) (hm : w.ownsMap Tryz.prog t R M k D) : B ≠ M := by
  obtain ⟨es, clock, hb, _⟩ := hm
  rintro rfl
  rw [hb] at hB
  simp at hB
section
variable {w w' : World} {N B M : Nat} {st : PSt} {ve vv vx vp : Value} {us : List Value}
theorem RdIs.grown (h : RdIs w N B M st ve vv vx vp us) (hg : w.grownBy w' none) : RdIs w' N B M st ve vv vx vp us := by
  obtain ⟨n, hn, hm⟩ := h.m
  refine ⟨(hg.block B (lt_of_heap h.hb) (by simp)).trans h.hb, Nat.le_trans h.nh hg.size, h.r.kept hg (fun x hx g e1 e2 => by cases e2), h.x.kept hg ?_, h.ul, n, hn, hm.kept hg (by simp)⟩
  cases hv : vx.ownBlock with
  | none => exact .inl rfl
  | some g => exact .inr (by simp)
theorem RdIs.below (h : RdIs w N B M st ve vv vx vp us) (hb : Below w.heap.size w w') : RdIs w' N B M st ve vv vx vp us :=
  h.grown ⟨hb.os, hb.tape, hb.output, hb.size, fun k hk _ => hb.block k hk⟩
/-- The reader's own cells alone are turned. -/
theorem RdIs.put (h : RdIs w N B M st ve vv vx vp us) (hg : w.grownBy w' (some B)) {st' : PSt} (hb : w'.heap[B]? = some (.cells (rdCs st' ve vv vx vp M) 73 (0, 0)))
    (h1 : st'.T.extl = st.T.extl) (h2 : st'.T.vars = st.T.vars) (h3 : st'.T.priv = st.T.priv) (h4 : st'.T.exts = st.T.exts) (h5 : st'.seen = st.seen) : RdIs w' N B M st' ve vv vx vp us := by
  obtain ⟨n, hn, hm⟩ := h.m
  refine ⟨hb, Nat.le_trans h.nh hg.size, ?_, ?_, by rw [h4]; exact h.ul, n, by rw [h5]; exact hn, ?_⟩
  · unfold rdRows
    rw [h1, h2, h3, h4]
    exact h.r.kept hg fun x hx g e1 e2 => own_not_rd (h.r.1 x hx) (by decide) h.hb (by rw [e1]; exact e2.symm ▸ rfl)
  · rw [h4]
    refine h.x.kept hg (.inr ?_)
    exact own_not_rd h.x (by decide) h.hb
  · rw [h5]
    exact hm.kept hg (by intro e; exact rd_not_map h.hb hm (by injection e with e; exact e.symm))
end
end Go.Proofs.YtpnhjpplfjamkaaGreatDoor

/-! Package parse: the reader takes in a piece: the kinds that cannot end the reading. -/
namespace Go.Proofs.YtpnhjpplfjamkaaGreatDoor
open Go Go.RowKit Go.Maps

section
variable {w w' : World} {N B M : Nat} {st : PSt} {ve vv vx vp : Value} {us : List Value}
theorem RdIs.rd (h : RdIs w N B M st ve vv vx vp us) : Rd w N B M st := ⟨_, _, _, _, _, h⟩
end

/-! What a kind of piece makes of the reader. -/
def isMark (st : PSt) (p : ByteArray) : Bool := decide (st.must = false ∧ p = sX)
def markP (st : PSt) (p : ByteArray) : PSt := if isMark st p = true then { st with must := true, stage := 6 } else st
def langP (st : PSt) (p : ByteArray) : PSt := if languageS p = true then { st with T := { st.T with lang := p }, stage := if p.size ≤ 3 then 1 else 2 } else st
def scrP (st : PSt) (p : ByteArray) : PSt := if scriptS p = true then { st with T := { st.T with script := p }, stage := 3 } else st
def regP (st : PSt) (p : ByteArray) : PSt := if regionS p = true then { st with T := { st.T with region := p }, stage := 4 } else st
theorem errNil {W : World} {p : ByteArray} {v : Value} (h : ErrIs W p v) (hc : chkS p = none) : v = .nilIface := by
  rcases h with ⟨_, h⟩ | ⟨a, b, h, _⟩
  · exact h
  · rw [hc] at h; cases h
theorem errSome {W : World} {p : ByteArray} {v : Value} (h : ErrIs W p v) (hc : chkS p = some 0) : ∃ b, v = .iface 82 (.pointer (some ⟨b, 0, none⟩)) := by
  rcases h with ⟨h, _⟩ | ⟨a, b, _, h, _⟩
  · rw [hc] at h; cases h
  · exact ⟨b, h⟩
set_option maxRecDepth 100000 in
theorem subtagP_own (p : ByteArray) (w : World) (hs : p.size ≤ 1048576) (hp : pieces p = [(0, p)]) :
    Calls Tryz.prog 101 #[.string p] w fun e w' => e = .returned (.bool (okS p)) ∧ Below w.heap.size w w' := by
  have H := Lib.hid (check_any p w hs)
  have hc : chkS p = if okS p = true then none else some 0 := by unfold chkS; rw [hp]; unfold badOf; split <;> simp_all [badOf]
  cases ho : okS p with
  | true =>
    have HC := Lib.hid (show chkS p = none by rw [hc, if_pos ho])
    clear hc
    go_enter Tryz.func101, Tryz.ntmps101
    go_wp2_with (go_at_call 116; (with_reducible refine H.out.mono ?_); rintro e w1 ⟨v, rfl, hv, hb⟩; obtain rfl := errNil hv HC.out; clear hv)
    go_ret
    exact ⟨rfl, hb⟩
  | false =>
    have HC := Lib.hid (show chkS p = some 0 by rw [hc, if_neg (by rw [ho]; decide)])
    clear hc
    go_enter Tryz.func101, Tryz.ntmps101
    go_wp2_with (go_at_call 116; (with_reducible refine H.out.mono ?_); rintro e w1 ⟨v, rfl, hv, hb⟩; obtain ⟨b, rfl⟩ := errSome hv HC.out; clear hv)
    go_ret
    exact ⟨rfl, hb⟩

set_option maxRecDepth 100000 in
theorem markP_own {w : World} {N B M : Nat} {st : PSt} {ve vv vx vp : Value} {us : List Value} (h : RdIs w N B M st ve vv vx vp us) (p : ByteArray) :
    Calls Tryz.prog 85 #[.pointer (some ⟨B, 0, none⟩), .string p] w fun e w' => e = .returned (.bool (isMark st p)) ∧ Foot N B M w w' ∧ Rd w' N B M (markP st p) := by
  have HR := Lib.hid h
  have hB := h.hb
  have c9 : w.cell? ⟨B, 9, none⟩ = some (.int .i64 (st.stage : Int)) := rd_cell 9 hB rfl
  have c11 : w.cell? ⟨B, 11, none⟩ = some (.bool st.must) := rd_cell 11 hB rfl
  have f9 := cells_frozen 9 hB
  have f11 := cells_frozen 11 hB
  have HB := Lib.hid hB
  clear h hB
  cases hm : st.must with
  | true =>
    rw [hm] at c11
    have HE := Lib.hid (show isMark st p = false by unfold isMark; rw [hm]; simp)
    clear hm
    go_enter Tryz.func85, Tryz.ntmps85
    go_wp2
    go_ret
    refine ⟨ret_bool HE.out.symm, Foot.refl _ _ _ _, ?_⟩
    unfold markP
    rw [if_neg (by rw [HE.out]; decide)]
    exact HR.out.rd
  | false =>
    rw [hm] at c11
    by_cases hx : p = sX
    · have HE := Lib.hid (show isMark st sX = true by unfold isMark; rw [hm]; simp)
      subst hx
      clear hm
      go_enter Tryz.func85, Tryz.ntmps85
      have hxx : sX = (⟨#[120]⟩ : ByteArray) := rfl
      go_wp2
      go_ret
      clear hxx
      have h1 := cells_set HB.out (k := 11) (.bool true)
      have h2 := cells_set h1 (k := 9) (.int .i64 6)
      have hg := grown_setF (grown_setF (World.grownBy.refl w (some B)) 11 (.bool true)) 9 (.int .i64 6)
      refine ⟨ret_bool HE.out.symm, Foot.put hg, ?_⟩
      unfold markP
      rw [if_pos (show isMark st _ = true from HE.out)]
      exact (HR.out.put hg (st' := { st with must := true, stage := 6 }) h2 rfl rfl rfl rfl rfl).rd
    · have hx' : (p.toList == [120]) = false := by
        have := toList_ne hx
        rwa [show sX.toList = [120] by unfold sX; rw [ByteArray.toList_eq]] at this
      have HE := Lib.hid (show isMark st p = false by unfold isMark; simp [hx])
      clear hx hm
      go_enter Tryz.func85, Tryz.ntmps85
      go_wp2
      go_ret
      refine ⟨ret_bool HE.out.symm, Foot.refl _ _ _ _, ?_⟩
      unfold markP
      rw [if_neg (by rw [HE.out]; decide)]
      exact HR.out.rd

set_option maxRecDepth 100000 in
theorem languageP_own {w : World} {N B M : Nat} {st : PSt} {ve vv vx vp : Value} {us : List Value} (h : RdIs w N B M st ve vv vx vp us) (p : ByteArray) (hp : p.size ≤ 1048576) :
    Calls Tryz.prog 86 #[.pointer (some ⟨B, 0, none⟩), .string p] w fun e w' => e = .returned (.bool (languageS p)) ∧ Foot N B M w w' ∧ Rd w' N B M (langP st p) := by
  have HR := Lib.hid h
  have L := Lib.hid (language_own p w (by unfold maxLen; omega))
  clear h
  cases hl : languageS p with
  | false =>
    have HL := Lib.hid hl
    rw [hl] at L
    clear hl
    go_enter Tryz.func86, Tryz.ntmps86
    go_wp2_with (go_at_call 100; (with_reducible refine L.out.mono ?_); rintro e w1 ⟨rfl, hb⟩)
    go_ret
    refine ⟨rfl, Foot.of hb, ?_⟩
    unfold langP
    rw [if_neg (by rw [HL.out]; decide)]
    exact (HR.out.below hb).rd
  | true =>
    have HL := Lib.hid hl
    rw [hl] at L
    clear hl
    by_cases h3 : p.size ≤ 3
    · have h3' : (p.size : Int) ≤ 3 := by omega
      have H3 := Lib.hid h3
      clear h3
      go_enter Tryz.func86, Tryz.ntmps86
      go_wp2_with (go_at_call 100; (with_reducible refine L.out.mono ?_); rintro e w1 ⟨rfl, hb⟩; have HB := Lib.hid (HR.out.below hb).hb; have c0 : w1.cell? ⟨B, 0, none⟩ = some (.string st.T.lang) := rd_cell 0 HB.out rfl; have c9 : w1.cell? ⟨B, 9, none⟩ = some (.int .i64 (st.stage : Int)) := rd_cell 9 HB.out rfl; have f0 := cells_frozen 0 HB.out; have f9 := cells_frozen 9 HB.out)
      go_ret
      have h1 := cells_set HB.out (k := 0) (.string p)
      have h2 := cells_set h1 (k := 9) (.int .i64 2)
      have h3 := cells_set h2 (k := 9) (.int .i64 1)
      have hg := grown_setF (grown_setF (grown_setF (World.grownBy.refl w1 (some B)) 0 (.string p)) 9 (.int .i64 2)) 9 (.int .i64 1)
      refine ⟨rfl, (Foot.of hb).trans (Foot.put hg), ?_⟩
      unfold langP
      rw [if_pos HL.out, if_pos H3.out]
      exact ((HR.out.below hb).put hg (st' := { st with T := { st.T with lang := p }, stage := 1 }) h3 rfl rfl rfl rfl rfl).rd
    · have h3' : ¬ (p.size : Int) ≤ 3 := by omega
      have H3 := Lib.hid h3
      clear h3
      go_enter Tryz.func86, Tryz.ntmps86
      go_wp2_with (go_at_call 100; (with_reducible refine L.out.mono ?_); rintro e w1 ⟨rfl, hb⟩; have HB := Lib.hid (HR.out.below hb).hb; have c0 : w1.cell? ⟨B, 0, none⟩ = some (.string st.T.lang) := rd_cell 0 HB.out rfl; have c9 : w1.cell? ⟨B, 9, none⟩ = some (.int .i64 (st.stage : Int)) := rd_cell 9 HB.out rfl; have f0 := cells_frozen 0 HB.out; have f9 := cells_frozen 9 HB.out)
      go_ret
      have h1 := cells_set HB.out (k := 0) (.string p)
      have h2 := cells_set h1 (k := 9) (.int .i64 2)
      have hg := grown_setF (grown_setF (World.grownBy.refl w1 (some B)) 0 (.string p)) 9 (.int .i64 2)
      refine ⟨rfl, (Foot.of hb).trans (Foot.put hg), ?_⟩
      unfold langP
      rw [if_pos HL.out, if_neg H3.out]
      exact ((HR.out.below hb).put hg (st' := { st with T := { st.T with lang := p }, stage := 2 }) h2 rfl rfl rfl rfl rfl).rd

set_option maxRecDepth 100000 in
theorem scriptP_own {w : World} {N B M : Nat} {st : PSt} {ve vv vx vp : Value} {us : List Value} (h : RdIs w N B M st ve vv vx vp us) (p : ByteArray) (hp : p.size ≤ 1048576) :
    Calls Tryz.prog 103 #[.pointer (some ⟨B, 0, none⟩), .string p] w fun e w' => e = .returned (.bool (scriptS p)) ∧ Foot N B M w w' ∧ Rd w' N B M (scrP st p) := by
  have HR := Lib.hid h
  have L := Lib.hid (script_own p w (by unfold maxLen; omega))
  clear h
  cases hl : scriptS p with
  | false =>
    have HL := Lib.hid hl
    rw [hl] at L
    clear hl
    go_enter Tryz.func103, Tryz.ntmps103
    go_wp2_with (go_at_call 118; (with_reducible refine L.out.mono ?_); rintro e w1 ⟨rfl, hb⟩)
    go_ret
    refine ⟨rfl, Foot.of hb, ?_⟩
    unfold scrP
    rw [if_neg (by rw [HL.out]; decide)]
    exact (HR.out.below hb).rd
  | true =>
    have HL := Lib.hid hl
    rw [hl] at L
    clear hl
    go_enter Tryz.func103, Tryz.ntmps103
    go_wp2_with (go_at_call 118; (with_reducible refine L.out.mono ?_); rintro e w1 ⟨rfl, hb⟩; have HB := Lib.hid (HR.out.below hb).hb; have c0 : w1.cell? ⟨B, 2, none⟩ = some (.string st.T.script) := rd_cell 2 HB.out rfl; have c9 : w1.cell? ⟨B, 9, none⟩ = some (.int .i64 (st.stage : Int)) := rd_cell 9 HB.out rfl; have f0 := cells_frozen 2 HB.out; have f9 := cells_frozen 9 HB.out)
    go_ret
    have h1 := cells_set HB.out (k := 2) (.string p)
    have h2 := cells_set h1 (k := 9) (.int .i64 3)
    have hg := grown_setF (grown_setF (World.grownBy.refl w1 (some B)) 2 (.string p)) 9 (.int .i64 3)
    refine ⟨rfl, (Foot.of hb).trans (Foot.put hg), ?_⟩
    unfold scrP
    rw [if_pos HL.out]
    exact ((HR.out.below hb).put hg (st' := { st with T := { st.T with script := p }, stage := 3 }) h2 rfl rfl rfl rfl rfl).rd

set_option maxRecDepth 100000 in
theorem regionP_own {w : World} {N B M : Nat} {st : PSt} {ve vv vx vp : Value} {us : List Value} (h : RdIs w N B M st ve vv vx vp us) (p : ByteArray) (hp : p.size ≤ 1048576) :
    Calls Tryz.prog 104 #[.pointer (some ⟨B, 0, none⟩), .string p] w fun e w' => e = .returned (.bool (regionS p)) ∧ Foot N B M w w' ∧ Rd w' N B M (regP st p) := by
  have HR := Lib.hid h
  have L := Lib.hid (region_own p w (by unfold maxLen; omega))
  clear h
  cases hl : regionS p with
  | false =>
    have HL := Lib.hid hl
    rw [hl] at L
    clear hl
    go_enter Tryz.func104, Tryz.ntmps104
    go_wp2_with (go_at_call 119; (with_reducible refine L.out.mono ?_); rintro e w1 ⟨rfl, hb⟩)
    go_ret
    refine ⟨rfl, Foot.of hb, ?_⟩
    unfold regP
    rw [if_neg (by rw [HL.out]; decide)]
    exact (HR.out.below hb).rd
  | true =>
    have HL := Lib.hid hl
    rw [hl] at L
    clear hl
    go_enter Tryz.func104, Tryz.ntmps104
    go_wp2_with (go_at_call 119; (with_reducible refine L.out.mono ?_); rintro e w1 ⟨rfl, hb⟩; have HB := Lib.hid (HR.out.below hb).hb; have c0 : w1.cell? ⟨B, 3, none⟩ = some (.string st.T.region) := rd_cell 3 HB.out rfl; have c9 : w1.cell? ⟨B, 9, none⟩ = some (.int .i64 (st.stage : Int)) := rd_cell 9 HB.out rfl; have f0 := cells_frozen 3 HB.out; have f9 := cells_frozen 9 HB.out)
    go_ret
    have h1 := cells_set HB.out (k := 3) (.string p)
    have h2 := cells_set h1 (k := 9) (.int .i64 4)
    have hg := grown_setF (grown_setF (World.grownBy.refl w1 (some B)) 3 (.string p)) 9 (.int .i64 4)
    refine ⟨rfl, (Foot.of hb).trans (Foot.put hg), ?_⟩
    unfold regP
    rw [if_pos HL.out]
    exact ((HR.out.below hb).put hg (st' := { st with T := { st.T with region := p }, stage := 4 }) h2 rfl rfl rfl rfl rfl).rd
end Go.Proofs.YtpnhjpplfjamkaaGreatDoor

/-! Package parse: the reader takes in a piece: the kinds that grow a row, and those that can end the reading. -/
namespace Go.Proofs.YtpnhjpplfjamkaaGreatDoor
open Go Go.RowKit Go.Maps

/-! What is added to a row. -/
section
variable {w w7 w8 : World} {N B M : Nat} {st : PSt} {ve vv vx vp : Value} {us : List Value}
theorem strs_snoc (l : List ByteArray) (p : ByteArray) : strs (l ++ [p]) = strs l ++ [.string p] := by simp [strs]
theorem own_snoc {l : List ByteArray} {p : ByteArray} {v : Value} (h : w.ownsRow N 9 1 v (l.length + 1) (strs l ++ [.string p])) : w.ownsRow N 9 1 v (l ++ [p]).length (strs (l ++ [p])) := by
  rw [List.length_append, strs_snoc]; exact h
/-- A row of texts has grown; then the reader's own cells have been turned. -/
theorem RdIs.grew (h : RdIs w N B M st ve vv vx vp us) {row : Option Nat} (hg : w.grownBy w7 row) (hr : ∀ g, row = some g → (∃ x ∈ rdRows st ve vv vp us, x.1.ownBlock = some g)) {st' : PSt} {ve' vv' vp' : Value} {us' : List Value}
    (hrows : OwnAll w7 N (rdRows st' ve' vv' vp' us')) (hg8 : w7.grownBy w8 (some B)) (hb : w8.heap[B]? = some (.cells (rdCs st' ve' vv' vx vp' M) 73 (0, 0)))
    (hx : st'.T.exts = st.T.exts) (hus : us' = us) (hseen : st'.seen = st.seen) : RdIs w8 N B M st' ve' vv' vx vp' us' := by
  subst hus
  obtain ⟨n, hn, hm⟩ := h.m
  have hBlt := lt_of_heap h.hb
  have hBne : some B ≠ row := fun e => by
    obtain ⟨x, hx, hx2⟩ := hr B e.symm
    exact own_not_rd (h.r.1 x hx) (by decide) h.hb hx2
  have hB7 : w7.heap[B]? = _ := (hg.block B hBlt hBne).trans h.hb
  have hxx : vx.ownBlock = none ∨ vx.ownBlock ≠ row := by
    cases hv : vx.ownBlock with
    | none => exact .inl rfl
    | some g =>
      right
      intro e
      obtain ⟨y, hy, hy2⟩ := hr g e.symm
      rcases own_types_ne h.x (h.r.1 y hy) (by decide) with h1 | h1
      · rw [hv] at h1; cases h1
      · exact h1 (hv.trans hy2.symm)
  have hMne : some M ≠ row := fun e => by
    obtain ⟨x, hx, hx2⟩ := hr M e.symm
    exact own_not_map (h.r.1 x hx) hm hx2
  have x7 := h.x.kept hg hxx
  have m7 := hm.kept hg hMne
  refine ⟨hb, Nat.le_trans (Nat.le_trans h.nh hg.size) hg8.size, hrows.kept hg8 fun x hx g e1 e2 => own_not_rd (hrows.1 x hx) (by decide) hB7 (e1.trans e2.symm), ?_, by rw [hx]; exact h.ul, n, by rw [hseen]; exact hn, ?_⟩
  · rw [hx]
    exact x7.kept hg8 (.inr (own_not_rd x7 (by decide) hB7))
  · rw [hseen]
    exact m7.kept hg8 (fun e => rd_not_map hB7 m7 (by injection e with e; exact e.symm))
theorem RdIs.oe (h : RdIs w N B M st ve vv vx vp us) : w.ownsRow N 9 1 ve st.T.extl.length (strs st.T.extl) := h.r.1 (ve, st.T.extl) (by simp [rdRows])
theorem RdIs.ov (h : RdIs w N B M st ve vv vx vp us) : w.ownsRow N 9 1 vv st.T.vars.length (strs st.T.vars) := h.r.1 (vv, st.T.vars) (by simp [rdRows])
theorem RdIs.op (h : RdIs w N B M st ve vv vx vp us) : w.ownsRow N 9 1 vp st.T.priv.length (strs st.T.priv) := h.r.1 (vp, st.T.priv) (by simp [rdRows])
/-- The block in which what is added lies first. -/
theorem RdIs.alloc (h : RdIs w N B M st ve vv vx vp us) (o : Obj) : RdIs (w.alloc o) N B M st ve vv vx vp us := h.grown (World.grownBy_alloc w o none)
end

theorem own_len {w : World} {base : Nat} {e : TypeId} {size : Nat} {ao : Option Addr} {m c n : Nat} {xs : List Value} (h : w.ownsRow base e size (.slice ao m c) n xs) : m = n := by
  rcases owned_cases h with ⟨h1, h2⟩ | ⟨g, c, h1⟩
  · simp at h1; omega
  · simp at h1; exact h1.2.1
def extlP (st : PSt) (p : ByteArray) : PSt := if (extlangS p = true ∧ st.T.extl.length ≠ 3) then { st with T := { st.T with extl := st.T.extl ++ [p] } } else st
def isExtl (st : PSt) (p : ByteArray) : Bool := decide (extlangS p = true ∧ st.T.extl.length ≠ 3)
def privP (st : PSt) (p : ByteArray) : PSt := if okS p = true then { st with T := { st.T with priv := st.T.priv ++ [p] }, must := false } else st

set_option maxRecDepth 100000 in
theorem privateP_own {w : World} {N B M : Nat} {st : PSt} {ve vv vx vp : Value} {us : List Value} (h : RdIs w N B M st ve vv vx vp us) (hs : RdSmall st) (p : ByteArray) (hp : p.size ≤ 1048576) (hpp : pieces p = [(0, p)]) :
    Calls Tryz.prog 87 #[.pointer (some ⟨B, 0, none⟩), .string p] w fun e w' => e = .returned (.bool (okS p)) ∧ Foot N B M w w' ∧ Rd w' N B M (privP st p) := by
  have HR := Lib.hid h
  have L := Lib.hid (subtagP_own p w hp hpp)
  have hN : N ≤ w.heap.size := h.nh
  obtain ⟨i0, hii, iz0, iz1, iz2⟩ := info_parts stringInfo
  have hlen := hs.2.2.2.1
  clear h hpp hs
  cases hl : okS p with
  | false =>
    have HL := Lib.hid hl
    rw [hl] at L
    clear hl
    go_enter Tryz.func87, Tryz.ntmps87
    go_wp2_with (go_at_call 101; (with_reducible refine L.out.mono ?_); rintro e w1 ⟨rfl, hb⟩)
    go_ret
    refine ⟨rfl, Foot.of hb, ?_⟩
    unfold privP
    rw [if_neg (by rw [HL.out]; decide)]
    exact (HR.out.below hb).rd
  | true =>
    have HL := Lib.hid hl
    rw [hl] at L
    clear hl
    go_enter Tryz.func87, Tryz.ntmps87
    go_wp2_with (first
      | (go_at_call 101; (with_reducible refine L.out.mono ?_); rintro e w1 ⟨rfl, hb⟩; have HRA := Lib.hid ((HR.out.below hb).alloc (.cells #[.string p] 9)); have c6 : w1.cell? ⟨B, 6, none⟩ = some vp := rd_cell 6 (HR.out.below hb).hb rfl)
      | (at_builtin; refine wpList_append_lies _ rfl _ _ 28 rfl N 9 i0 (.string ByteArray.empty) 1 16 Tryz.underlying28 hii iz0 iz1 iz2 rfl (by decide) _ _ _ rfl HRA.out.op ⟨_, 0, none⟩ 1 1 [.string p] rfl rfl (World.news_of_block (World.alloc_heap_new _ _)) (by intro u hu; simp at hu; subst hu; rfl) (by decide) (by unfold maxLen; omega) (by omega) (by have := hb.size; simp; omega) _ rfl ?_; intro g7 cap7 w7 hown7 hgrow7 hlies7 _; have HO7 := Lib.hid hown7; have HG7 := Lib.hid hgrow7; have HL7 := Lib.hid hlies7; have hB7 := (hgrow7.block B (lt_of_heap HRA.out.hb) (fun e => own_not_rd HRA.out.op (by decide) HRA.out.hb e.symm)).trans HRA.out.hb; have HB7 := Lib.hid hB7; have d6 : w7.cell? ⟨B, 6, none⟩ = some vp := rd_cell 6 hB7 rfl; have d11 : w7.cell? ⟨B, 11, none⟩ = some (.bool st.must) := rd_cell 11 hB7 rfl; have f6 := cells_frozen 6 hB7; have f11 := cells_frozen 11 hB7; clear hown7 hgrow7 hlies7 hB7))
    go_ret
    have h1 := cells_set HB7.out (k := 6) (.slice (some ⟨g7, 0, none⟩) (st.T.priv.length + 1) cap7)
    have h2 := cells_set h1 (k := 11) (.bool false)
    have hg := grown_setF (grown_setF (World.grownBy.refl w7 (some B)) 6 (.slice (some ⟨g7, 0, none⟩) (st.T.priv.length + 1) cap7)) 11 (.bool false)
    have hT : ∀ g, Value.ownBlock (.slice (some ⟨g7, 0, none⟩) (st.T.priv.length + 1) cap7) = some g → vp.ownBlock = some g ∨ (w1.alloc (.cells #[.string p] 9)).heap.size ≤ g := by
      intro g hg
      have e : g7 = g := by simpa [Value.ownBlock] using hg
      subst e
      exact HL7.out.imp id (fun h => Nat.le_of_eq h.symm)
    have hrow := OwnAll.append (A := [(ve, st.T.extl), (vv, st.T.vars)]) (C := us.zip (st.T.exts.map (·.2))) HRA.out.r (own_snoc HO7.out) HG7.out hT
    have hgrew := HRA.out.grew HG7.out (fun g hg => ⟨(vp, st.T.priv), by simp [rdRows], hg⟩) (st' := { st with T := { st.T with priv := st.T.priv ++ [p] }, must := false }) hrow hg h2 rfl rfl rfl
    refine ⟨rfl, (Foot.of hb).trans ((Foot.alloc N B M w1 (.cells #[.string p] 9)).trans ?_), ?_⟩
    · exact (Foot.row HRA.out.op (.inl rfl) HG7.out).trans (Foot.put hg)
    · unfold privP
      rw [if_pos HL.out]
      exact hgrew.rd
set_option maxRecDepth 100000 in
theorem extlangP_own {w : World} {N B M : Nat} {st : PSt} {ve vv vx vp : Value} {us : List Value} (h : RdIs w N B M st ve vv vx vp us) (hs : RdSmall st) (p : ByteArray) (hp : p.size ≤ 1048576) :
    Calls Tryz.prog 102 #[.pointer (some ⟨B, 0, none⟩), .string p] w fun e w' => e = .returned (.bool (isExtl st p)) ∧ Foot N B M w w' ∧ Rd w' N B M (extlP st p) := by
  have HR := Lib.hid h
  have L := Lib.hid (extlang_own p w (by unfold maxLen; omega))
  have hN : N ≤ w.heap.size := h.nh
  obtain ⟨i0, hii, iz0, iz1, iz2⟩ := info_parts stringInfo
  have hlen := hs.1
  obtain ⟨ea, en, ec, rfl⟩ := own_slice h.oe
  obtain rfl : en = st.T.extl.length := own_len h.oe
  clear h hs
  cases hl : extlangS p with
  | false =>
    have HL := Lib.hid (show isExtl st p = false by unfold isExtl; simp [hl])
    rw [hl] at L
    clear hl
    go_enter Tryz.func102, Tryz.ntmps102
    go_wp2_with (go_at_call 117; (with_reducible refine L.out.mono ?_); rintro e w1 ⟨rfl, hb⟩)
    go_ret
    refine ⟨ret_bool HL.out.symm, Foot.of hb, ?_⟩
    unfold extlP
    rw [if_neg (by have := HL.out; unfold isExtl at this; exact of_decide_eq_false this)]
    exact (HR.out.below hb).rd
  | true =>
    rw [hl] at L
    by_cases h3 : st.T.extl.length = 3
    · have h3' : ((st.T.extl.length : Int) == 3) = true := by rw [beq_iff_eq]; omega
      have HL := Lib.hid (show isExtl st p = false by unfold isExtl; simp [h3])
      clear hl h3
      go_enter Tryz.func102, Tryz.ntmps102
      go_wp2_with (go_at_call 117; (with_reducible refine L.out.mono ?_); rintro e w1 ⟨rfl, hb⟩; have c1 : w1.cell? ⟨B, 1, none⟩ = some (.slice ea st.T.extl.length ec) := rd_cell 1 (HR.out.below hb).hb rfl)
      go_ret
      refine ⟨ret_bool HL.out.symm, Foot.of hb, ?_⟩
      unfold extlP
      rw [if_neg (by have := HL.out; unfold isExtl at this; exact of_decide_eq_false this)]
      exact (HR.out.below hb).rd
    · have h3' : ((st.T.extl.length : Int) == 3) = false := by rw [beq_eq_false_iff_ne]; omega
      have HL := Lib.hid (show isExtl st p = true by unfold isExtl; simp [h3, hl])
      clear hl h3
      go_enter Tryz.func102, Tryz.ntmps102
      go_wp2_with (first
        | (go_at_call 117; (with_reducible refine L.out.mono ?_); rintro e w1 ⟨rfl, hb⟩; have HRA := Lib.hid ((HR.out.below hb).alloc (.cells #[.string p] 9)); have c1 : w1.cell? ⟨B, 1, none⟩ = some (.slice ea st.T.extl.length ec) := rd_cell 1 (HR.out.below hb).hb rfl)
        | (at_builtin; refine wpList_append_lies _ rfl _ _ 28 rfl N 9 i0 (.string ByteArray.empty) 1 16 Tryz.underlying28 hii iz0 iz1 iz2 rfl (by decide) _ _ _ rfl HRA.out.oe ⟨_, 0, none⟩ 1 1 [.string p] rfl rfl (World.news_of_block (World.alloc_heap_new _ _)) (by intro u hu; simp at hu; subst hu; rfl) (by decide) (by unfold maxLen; omega) (by omega) (by have := hb.size; simp; omega) _ rfl ?_; intro g7 cap7 w7 hown7 hgrow7 hlies7 _; have HO7 := Lib.hid hown7; have HG7 := Lib.hid hgrow7; have HL7 := Lib.hid hlies7; have hB7 := (hgrow7.block B (lt_of_heap HRA.out.hb) (fun e => own_not_rd HRA.out.oe (by decide) HRA.out.hb e.symm)).trans HRA.out.hb; have HB7 := Lib.hid hB7; have d1 : w7.cell? ⟨B, 1, none⟩ = some (.slice ea st.T.extl.length ec) := rd_cell 1 hB7 rfl; have f1 := cells_frozen 1 hB7; clear hown7 hgrow7 hlies7 hB7))
      go_ret
      have h1 := cells_set HB7.out (k := 1) (.slice (some ⟨g7, 0, none⟩) (st.T.extl.length + 1) cap7)
      have hg := grown_setF (World.grownBy.refl w7 (some B)) 1 (.slice (some ⟨g7, 0, none⟩) (st.T.extl.length + 1) cap7)
      have hT : ∀ g, Value.ownBlock (.slice (some ⟨g7, 0, none⟩) (st.T.extl.length + 1) cap7) = some g → Value.ownBlock (.slice ea st.T.extl.length ec) = some g ∨ (w1.alloc (.cells #[.string p] 9)).heap.size ≤ g := by
        intro g hg
        have e : g7 = g := by simpa [Value.ownBlock] using hg
        subst e
        exact HL7.out.imp id (fun h => Nat.le_of_eq h.symm)
      have hrow := OwnAll.append (A := []) (C := [(vv, st.T.vars), (vp, st.T.priv)] ++ us.zip (st.T.exts.map (·.2))) HRA.out.r (own_snoc HO7.out) HG7.out hT
      have hgrew := HRA.out.grew HG7.out (fun g hg => ⟨(_, st.T.extl), List.mem_cons_self, hg⟩) (st' := { st with T := { st.T with extl := st.T.extl ++ [p] } }) hrow hg h1 rfl rfl rfl
      refine ⟨ret_bool HL.out.symm, (Foot.of hb).trans ((Foot.alloc N B M w1 (.cells #[.string p] 9)).trans ?_), ?_⟩
      · exact (Foot.row HRA.out.oe (.inl rfl) HG7.out).trans (Foot.put hg)
      · unfold extlP
        rw [if_pos (by have := HL.out; unfold isExtl at this; exact of_decide_eq_true this)]
        exact hgrew.rd

/-! What ends the reading. -/
def FaultP (W : World) (N : Nat) (x : PErr) (e : Ending) : Prop := ∃ b, N ≤ b ∧ e = .panicked [{ v := .iface 82 (.pointer (some ⟨b, 0, none⟩)), recovered := false }] ∧ W.heap[b]? = some (faultObj (x.2.1 : Int) x.2.2 (.iface 44 (.int .i64 x.1)))
set_option maxRecDepth 100000 in
theorem failP_own (k : Int) (a : Nat) (s : ByteArray) (w : World) (hk : (k == 0) = false) :
    Calls Tryz.prog 69 #[.int .i64 k, .int .i64 (a : Int), .string s] w fun e w' => FaultP w' w.heap.size (k, a, s) e ∧ Below w.heap.size w w' := by
  have H := Lib.hid (new_any k (a : Int) s w hk)
  clear hk
  go_enter Tryz.func69, Tryz.ntmps69
  go_wp2_with (go_at_call 89; (with_reducible refine H.out.mono ?_); rintro e w1 ⟨rfl, hw1⟩)
  refine ⟨rfl, ?_⟩
  rw [← hw1]
  exact ⟨⟨w.heap.size, Nat.le_refl _, rfl, World.alloc_heap_new w _⟩, (Below.refl _ w).alloc (Nat.le_refl _) _⟩
end Go.Proofs.YtpnhjpplfjamkaaGreatDoor

/-! Package parse: the reader takes in a piece: the kinds that can end the reading. -/
namespace Go.Proofs.YtpnhjpplfjamkaaGreatDoor
open Go Go.RowKit Go.Maps

theorem ends_none {P : Program} {fn : Func} {R : Ending → World → Prop} {a : Act} {w : World} (hr : fn.results = #[]) (hd : a.defers = []) (hR : R (.returned (.tuple #[])) w) : bodyPost P fn R .normal a w := by
  refine ⟨hd, .tuple #[], ?_, hR⟩
  simp [results, hr]
section
variable {w w' : World} {N B M : Nat} {st : PSt} {ve vv vx vp : Value} {us : List Value}
/-- The reader's map alone is turned. -/
theorem RdIs.noted (h : RdIs w N B M st ve vv vx vp us) (hg : w.grownBy w' (some M)) (p : ByteArray) (hm' : ∃ n, n ≤ st.seen.length + 1 ∧ w'.ownsMap Tryz.prog 9 (plainElem (H := Unit) Tryz.prog 4) M n (setD (st.seen ++ [p]))) :
    RdIs w' N B M { st with seen := st.seen ++ [p] } ve vv vx vp us := by
  obtain ⟨n, hn, hm⟩ := h.m
  obtain ⟨n', hn', hm'⟩ := hm'
  have hBM : B ≠ M := rd_not_map h.hb hm
  refine ⟨(hg.block B (lt_of_heap h.hb) (fun e => hBM (by injection e))).trans h.hb, Nat.le_trans h.nh hg.size, h.r.kept hg fun x hx g e1 e2 => own_not_map (h.r.1 x hx) hm (e1.trans e2.symm), h.x.kept hg (.inr (own_not_map h.x hm)), h.ul, n', by simp only [List.length_append, List.length_singleton]; exact hn', hm'⟩
theorem FaultP.mono {W : World} {N N' : Nat} {x : PErr} {e : Ending} (h : FaultP W N x e) (hN : N' ≤ N) : FaultP W N' x e := by
  obtain ⟨b, h1, h2, h3⟩ := h
  exact ⟨b, Nat.le_trans hN h1, h2, h3⟩
end

set_option maxRecDepth 100000 in
theorem onceP_twice {w : World} {N B M : Nat} {st : PSt} {ve vv vx vp : Value} {us : List Value} (h : RdIs w N B M st ve vv vx vp us) (p : ByteArray) (hp : p.size ≤ 1048576) (a : Nat) (what : ByteArray) (ht : hasT st.seen p = true) :
    Calls Tryz.prog 121 #[.pointer (some ⟨B, 0, none⟩), .int .i64 (a : Int), .string p, .string what] w fun e w' => FaultP w' N (11, a, what) e ∧ Below w.heap.size w w' := by
  have HR := Lib.hid h
  have hN : N ≤ w.heap.size := h.nh
  have c12 : w.cell? ⟨B, 12, none⟩ = some (.map (some M)) := rd_cell 12 h.hb rfl
  obtain ⟨n, hn, hm⟩ := h.m
  have hkey : keyOf Tryz.prog 9 (.string p) = some (keyL p) := WideMaps.keyOf_string_mk Tryz.underlying9 (by unfold maxLen; omega)
  have HA := Lib.hid (setD_at st.seen p)
  rw [ht] at HA
  have F := Lib.hid (failP_own 11 a what w (by decide))
  clear h ht
  go_enter Tryz.func121, Tryz.ntmps121
  go_wp2_with (first
    | (at_lookup; refine wpList_lookup_own_bool _ rfl _ _ 71 rfl 9 4 law_str Tryz.underlying71 Tryz.underlying4 rfl M n _ rfl hm _ _ rfl hkey ?_; intro c hat; obtain rfl : c = true := (by have e := HA.out.symm.trans hat; simpa using e.symm); clear hat)
    | (go_at_call 69; (with_reducible refine F.out.mono ?_); rintro e w1 ⟨⟨b, hbN, rfl, hf⟩, hb⟩))
  refine ⟨rfl, ⟨b, Nat.le_trans hN hbN, rfl, hf⟩, hb⟩

set_option maxRecDepth 100000 in
theorem onceP_new {w : World} {N B M : Nat} {st : PSt} {ve vv vx vp : Value} {us : List Value} (h : RdIs w N B M st ve vv vx vp us) (hs : RdSmall st) (p : ByteArray) (hp : p.size ≤ 1048576) (a : Nat) (what : ByteArray) (ht : hasT st.seen p = false) :
    Calls Tryz.prog 121 #[.pointer (some ⟨B, 0, none⟩), .int .i64 (a : Int), .string p, .string what] w fun e w' => e = .returned (.tuple #[]) ∧ Foot N B M w w' ∧ RdIs w' N B M { st with seen := st.seen ++ [p] } ve vv vx vp us := by
  have HR := Lib.hid h
  have hN : N ≤ w.heap.size := h.nh
  have c12 : w.cell? ⟨B, 12, none⟩ = some (.map (some M)) := rd_cell 12 h.hb rfl
  obtain ⟨n, hn, hm⟩ := h.m
  have hn2 : n < 4194305 := by have := hs.2.2.2.2.1; omega
  have hkey : keyOf Tryz.prog 9 (.string p) = some (keyL p) := WideMaps.keyOf_string_mk Tryz.underlying9 (by unfold maxLen; omega)
  have HA := Lib.hid (setD_at st.seen p)
  rw [ht] at HA
  have HN1 := Lib.hid hn
  clear h ht hs hn
  go_enter Tryz.func121, Tryz.ntmps121
  go_wp2_with (first
    | (at_lookup; refine wpList_lookup_own_bool _ rfl _ _ 71 rfl 9 4 law_str Tryz.underlying71 Tryz.underlying4 rfl M n _ rfl hm _ _ rfl hkey ?_; intro c hat; obtain rfl : c = false := (by have e := HA.out.symm.trans hat; simpa using e.symm); clear hat)
    | (at_mapUpdate; refine wpList_mapUpdate_own _ rfl _ _ _ 71 rfl 9 4 law_str Tryz.underlying71 (plainElem (H := Unit) Tryz.prog 4) M n _ rfl hm (by unfold maxLen; omega) _ _ _ rfl rfl hkey _ [] (plainElem_bool Tryz.underlying4 true) ?_; intro w1 hown1 hgrow1))
  refine ends_none rfl rfl ?_
  exact ⟨rfl, Foot.note hgrow1, HR.out.noted hgrow1 p ⟨n + 1, by have := HN1.out; omega, by rw [setD_snoc]; exact hown1⟩⟩

/-! A variant: taken in, or there twice, or none. -/
def varP (st : PSt) (p : ByteArray) : PSt := { st with T := { st.T with vars := st.T.vars ++ [p] }, stage := 4, seen := st.seen ++ [p] }
def singP (st : PSt) (p : ByteArray) : PSt := { st with key := p, must := true, stage := 5, seen := st.seen ++ [p] }
/-- What comes back of a kind of piece that may end the reading: it is no such piece; or it is taken in; or it was there. -/
def KindP (w w' : World) (N B M : Nat) (st st' : PSt) (e : Ending) (is twice : Bool) (x : PErr) : Prop :=
  (is = false ∧ e = .returned (.bool false) ∧ Foot N B M w w' ∧ Rd w' N B M st) ∨ (is = true ∧ twice = false ∧ e = .returned (.bool true) ∧ Foot N B M w w' ∧ Rd w' N B M st') ∨ (is = true ∧ twice = true ∧ FaultP w' N x e ∧ Foot N B M w w' ∧ Rd w' N B M st)
set_option maxRecDepth 100000 in
theorem variantP_own {w : World} {N B M : Nat} {st : PSt} {ve vv vx vp : Value} {us : List Value} (h : RdIs w N B M st ve vv vx vp us) (hs : RdSmall st) (p : ByteArray) (hp : p.size ≤ 1048576) (a : Nat) :
    Calls Tryz.prog 105 #[.pointer (some ⟨B, 0, none⟩), .int .i64 (a : Int), .string p] w fun e w' => KindP w w' N B M st (varP st p) e (variantS p) (hasT st.seen p) (11, a, sVar) := by
  have HR := Lib.hid h
  have L := Lib.hid (variant_own p w (by unfold maxLen; omega))
  have hN : N ≤ w.heap.size := h.nh
  obtain ⟨i0, hii, iz0, iz1, iz2⟩ := info_parts stringInfo
  have hlen := hs.2.1
  have HS := Lib.hid hs
  clear h hs
  cases hl : variantS p with
  | false =>
    rw [hl] at L
    clear hl
    generalize hasT st.seen p = tw at *
    go_enter Tryz.func105, Tryz.ntmps105
    go_wp2_with (go_at_call 120; (with_reducible refine L.out.mono ?_); rintro e w1 ⟨rfl, hb⟩)
    go_ret
    exact .inl ⟨rfl, rfl, Foot.of hb, (HR.out.below hb).rd⟩
  | true =>
    rw [hl] at L
    clear hl
    cases ht : hasT st.seen p with
    | true =>
      have O := Lib.hid (fun w1 (hb : Below w.heap.size w w1) => show Calls Tryz.prog 121 #[.pointer (some ⟨B, 0, none⟩), .int .i64 (a : Int), .string p, .string (⟨#[118, 97, 114, 105, 97, 110, 116]⟩ : ByteArray)] w1 _ from onceP_twice (HR.out.below hb) p hp a sVar ht)
      clear ht
      go_enter Tryz.func105, Tryz.ntmps105
      go_wp2_with (first
        | (go_at_call 120; (with_reducible refine L.out.mono ?_); rintro e w1 ⟨rfl, hb⟩)
        | (go_at_call 121; (with_reducible refine (O.out _ (by assumption)).mono ?_); rintro e w2 ⟨⟨b, hbN, rfl, hf⟩, hb2⟩))
      refine ⟨rfl, .inr (.inr ⟨rfl, rfl, ⟨b, hbN, rfl, hf⟩, (Foot.of hb).trans (Foot.of hb2), ((HR.out.below hb).below hb2).rd⟩)⟩
    | false =>
      have O := Lib.hid (fun w1 (hb : Below w.heap.size w w1) => show Calls Tryz.prog 121 #[.pointer (some ⟨B, 0, none⟩), .int .i64 (a : Int), .string p, .string (⟨#[118, 97, 114, 105, 97, 110, 116]⟩ : ByteArray)] w1 _ from onceP_new (HR.out.below hb) HS.out p hp a sVar ht)
      clear ht
      go_enter Tryz.func105, Tryz.ntmps105
      go_wp2_with (first
        | (go_at_call 120; (with_reducible refine L.out.mono ?_); rintro e w1 ⟨rfl, hb⟩)
        | (go_at_call 121; go_loud ((with_reducible refine (O.out _ (by assumption)).mono ?_); rintro e w2 ⟨rfl, hb2, h2⟩; have HR2 := Lib.hid h2; have HRA := Lib.hid (h2.alloc (.cells #[.string p] 9)); have c4 : w2.cell? ⟨B, 4, none⟩ = some vv := rd_cell 4 h2.hb rfl; have hs2 := hb2.size; clear h2))
        | (at_builtin; refine wpList_append_lies _ rfl _ _ 28 rfl N 9 i0 (.string ByteArray.empty) 1 16 Tryz.underlying28 hii iz0 iz1 iz2 rfl (by decide) vv st.T.vars.length (strs st.T.vars) rfl HRA.out.ov ⟨_, 0, none⟩ 1 1 [.string p] rfl rfl (World.news_of_block (World.alloc_heap_new _ _)) (by intro u hu; simp at hu; subst hu; rfl) (by decide) (by unfold maxLen; omega) (by omega) (by have := hb.size; simp; omega) _ rfl ?_; intro g7 cap7 w7 hown7 hgrow7 hlies7 _; have HO7 := Lib.hid hown7; have HG7 := Lib.hid hgrow7; have HL7 := Lib.hid hlies7; have hB7 := (hgrow7.block B (lt_of_heap HRA.out.hb) (fun e => own_not_rd HRA.out.ov (by decide) HRA.out.hb e.symm)).trans HRA.out.hb; have HB7 := Lib.hid hB7; have d4 : w7.cell? ⟨B, 4, none⟩ = some vv := rd_cell 4 hB7 rfl; have d9 : w7.cell? ⟨B, 9, none⟩ = some (.int .i64 (st.stage : Int)) := rd_cell 9 hB7 rfl; have f4 := cells_frozen 4 hB7; have f9 := cells_frozen 9 hB7; clear hown7 hgrow7 hlies7 hB7))
      go_ret
      have h1 := cells_set HB7.out (k := 4) (.slice (some ⟨g7, 0, none⟩) (st.T.vars.length + 1) cap7)
      have h2 := cells_set h1 (k := 9) (.int .i64 4)
      have hg := grown_setF (grown_setF (World.grownBy.refl w7 (some B)) 4 (.slice (some ⟨g7, 0, none⟩) (st.T.vars.length + 1) cap7)) 9 (.int .i64 4)
      have hT : ∀ g, Value.ownBlock (.slice (some ⟨g7, 0, none⟩) (st.T.vars.length + 1) cap7) = some g → vv.ownBlock = some g ∨ (w2.alloc (.cells #[.string p] 9)).heap.size ≤ g := by
        intro g hg
        have e : g7 = g := by simpa [Value.ownBlock] using hg
        subst e
        exact HL7.out.imp id (fun h => Nat.le_of_eq h.symm)
      have hrow := OwnAll.append (A := [(ve, st.T.extl)]) (C := [(vp, st.T.priv)] ++ us.zip (st.T.exts.map (·.2))) HRA.out.r (own_snoc HO7.out) HG7.out hT
      have hgrew := HRA.out.grew HG7.out (fun g hg => ⟨(vv, st.T.vars), by simp [rdRows], hg⟩) (st' := varP st p) hrow hg h2 rfl rfl rfl
      refine .inr (.inl ⟨rfl, rfl, rfl, (Foot.of hb).trans (hb2.trans ((Foot.alloc N B M w2 (.cells #[.string p] 9)).trans ?_)), hgrew.rd⟩)
      exact (Foot.row HRA.out.ov (.inl rfl) HG7.out).trans (Foot.put hg)

set_option maxRecDepth 100000 in
theorem singletonP_own {w : World} {N B M : Nat} {st : PSt} {ve vv vx vp : Value} {us : List Value} (h : RdIs w N B M st ve vv vx vp us) (hs : RdSmall st) (p : ByteArray) (hp : p.size ≤ 1048576) (a : Nat) :
    Calls Tryz.prog 107 #[.pointer (some ⟨B, 0, none⟩), .int .i64 (a : Int), .string p] w fun e w' => KindP w w' N B M st (singP st p) e (!st.must && singletonS p) (hasT st.seen p) (11, a, sSing) := by
  have HR := Lib.hid h
  have L := Lib.hid (singleton_own p w (by unfold maxLen; omega))
  have hN : N ≤ w.heap.size := h.nh
  have HS := Lib.hid hs
  have c11 : w.cell? ⟨B, 11, none⟩ = some (.bool st.must) := rd_cell 11 h.hb rfl
  clear h hs
  cases hm : st.must with
  | true =>
    rw [hm] at c11
    clear hm
    generalize hasT st.seen p = tw at *
    go_enter Tryz.func107, Tryz.ntmps107
    go_wp2_with fail
    go_ret
    exact .inl ⟨rfl, rfl, Foot.refl _ _ _ _, HR.out.rd⟩
  | false =>
    rw [hm] at c11
    have HM := Lib.hid hm
    clear hm
    cases hl : singletonS p with
    | false =>
      rw [hl] at L
      clear hl
      generalize hasT st.seen p = tw at *
      go_enter Tryz.func107, Tryz.ntmps107
      go_wp2_with (go_at_call 122; (with_reducible refine L.out.mono ?_); rintro e w1 ⟨rfl, hb⟩)
      go_ret
      exact .inl ⟨rfl, rfl, Foot.of hb, (HR.out.below hb).rd⟩
    | true =>
      rw [hl] at L
      clear hl
      cases ht : hasT st.seen p with
      | true =>
        have O := Lib.hid (fun w1 (hb : Below w.heap.size w w1) => show Calls Tryz.prog 121 #[.pointer (some ⟨B, 0, none⟩), .int .i64 (a : Int), .string p, .string (⟨#[115, 105, 110, 103, 108, 101, 116, 111, 110]⟩ : ByteArray)] w1 _ from onceP_twice (HR.out.below hb) p hp a sSing ht)
        clear ht
        go_enter Tryz.func107, Tryz.ntmps107
        go_wp2_with (first
          | (go_at_call 122; (with_reducible refine L.out.mono ?_); rintro e w1 ⟨rfl, hb⟩)
          | (go_at_call 121; (with_reducible refine (O.out _ (by assumption)).mono ?_); rintro e w2 ⟨⟨b, hbN, rfl, hf⟩, hb2⟩))
        refine ⟨rfl, .inr (.inr ⟨rfl, rfl, ⟨b, hbN, rfl, hf⟩, (Foot.of hb).trans (Foot.of hb2), ((HR.out.below hb).below hb2).rd⟩)⟩
      | false =>
        have O := Lib.hid (fun w1 (hb : Below w.heap.size w w1) => show Calls Tryz.prog 121 #[.pointer (some ⟨B, 0, none⟩), .int .i64 (a : Int), .string p, .string (⟨#[115, 105, 110, 103, 108, 101, 116, 111, 110]⟩ : ByteArray)] w1 _ from onceP_new (HR.out.below hb) HS.out p hp a sSing ht)
        clear ht
        go_enter Tryz.func107, Tryz.ntmps107
        go_wp2_with (first
          | (go_at_call 122; (with_reducible refine L.out.mono ?_); rintro e w1 ⟨rfl, hb⟩)
          | (go_at_call 121; (with_reducible refine (O.out _ (by assumption)).mono ?_); rintro e w2 ⟨rfl, hb2, h2⟩; have HR2 := Lib.hid h2; have d9 : w2.cell? ⟨B, 9, none⟩ = some (.int .i64 (st.stage : Int)) := rd_cell 9 h2.hb rfl; have d10 : w2.cell? ⟨B, 10, none⟩ = some (.string st.key) := rd_cell 10 h2.hb rfl; have d11 : w2.cell? ⟨B, 11, none⟩ = some (.bool st.must) := rd_cell 11 h2.hb rfl; have f9 := cells_frozen 9 h2.hb; have f10 := cells_frozen 10 h2.hb; have f11 := cells_frozen 11 h2.hb; clear h2))
        go_ret
        have h1 := cells_set HR2.out.hb (k := 10) (.string p)
        have h2 := cells_set h1 (k := 11) (.bool true)
        have h3 := cells_set h2 (k := 9) (.int .i64 5)
        have hg := grown_setF (grown_setF (grown_setF (World.grownBy.refl w2 (some B)) 10 (.string p)) 11 (.bool true)) 9 (.int .i64 5)
        exact .inr (.inl ⟨rfl, rfl, rfl, (Foot.of hb).trans (hb2.trans (Foot.put hg)), (HR2.out.put hg (st' := singP st p) h3 rfl rfl rfl rfl rfl).rd⟩)
end Go.Proofs.YtpnhjpplfjamkaaGreatDoor

/-! Package parse: the reader takes in a piece: an extension goes on. -/
namespace Go.Proofs.YtpnhjpplfjamkaaGreatDoor
open Go Go.RowKit Go.Maps

section
variable {w w7 w8 : World} {N B M : Nat} {st : PSt} {ve vv vx vp : Value} {us : List Value}
theorem extCells_snoc {L : List (ByteArray × List ByteArray)} {us : List Value} (h : us.length = L.length) (x : ByteArray × List ByteArray) (u : Value) : extCells (L ++ [x]) (us ++ [u]) = extCells L us ++ [.string x.1, u] := by
  unfold extCells
  rw [List.zip_append h.symm, List.flatMap_append]
  rfl
/-- A new extension, with nothing yet. -/
def openP (st : PSt) : PSt := { st with T := { st.T with exts := st.T.exts ++ [(st.key, [])] } }
theorem RdIs.opened (h : RdIs w N B M st ve vv vx vp us) {vx' : Value} (hx : w7.ownsRow N 51 2 vx' (st.T.exts.length + 1) (extCells st.T.exts us ++ [.string st.key, .slice none 0 0])) (hg : w.grownBy w7 vx.ownBlock)
    (hg8 : w7.grownBy w8 (some B)) (hb : w8.heap[B]? = some (.cells (rdCs (openP st) ve vv vx' vp M) 73 (0, 0))) : RdIs w8 N B M (openP st) ve vv vx' vp (us ++ [.slice none 0 0]) := by
  obtain ⟨n, hn, hm⟩ := h.m
  have hBx : some B ≠ vx.ownBlock := fun e => own_not_rd h.x (by decide) h.hb e.symm
  have hB7 : w7.heap[B]? = _ := (hg.block B (lt_of_heap h.hb) hBx).trans h.hb
  have r7 : OwnAll w7 N (rdRows st ve vv vp us) := h.r.kept hg fun x hx g e1 e2 => by
    rcases own_types_ne (h.r.1 x hx) h.x (by decide) with h1 | h1
    · rw [e1] at h1; cases h1
    · exact h1 (e1.trans e2.symm)
  have m7 := hm.kept hg (fun e => own_not_map h.x hm e.symm)
  have r8 := r7.kept hg8 fun x hx g e1 e2 => own_not_rd (r7.1 x hx) (by decide) hB7 (e1.trans e2.symm)
  have x8 := hx.kept hg8 (.inr (own_not_rd hx (by decide) hB7))
  refine ⟨hb, Nat.le_trans (Nat.le_trans h.nh hg.size) hg8.size, ?_, ?_, by simp [openP, h.ul], n, hn, m7.kept hg8 (fun e => rd_not_map hB7 m7 (by injection e with e; exact e.symm))⟩
  · have e : rdRows (openP st) ve vv vp (us ++ [.slice none 0 0]) = rdRows st ve vv vp us ++ [(.slice none 0 0, [])] := by
      unfold rdRows openP
      dsimp only
      rw [List.map_append, List.zip_append (by rw [List.length_map]; exact h.ul), List.append_assoc]
      rfl
    rw [e]
    refine ⟨fun x hx => ?_, ?_⟩
    · rcases List.mem_append.1 hx with hx | hx
      · exact r8.1 x hx
      · obtain rfl : x = (.slice none 0 0, []) := by simpa using hx
        exact World.ownsRow_nil _ _ _ _
    · rw [List.pairwise_append]
      refine ⟨r8.2, List.pairwise_singleton _ _, fun a _ b hb g _ e2 => ?_⟩
      obtain rfl : b = (.slice none 0 0, []) := by simpa using hb
      cases e2
  · show w8.ownsRow N 51 2 vx' (st.T.exts ++ [(st.key, [])]).length (extCells (st.T.exts ++ [(st.key, [])]) (us ++ [.slice none 0 0]))
    rw [extCells_snoc h.ul, List.length_append]
    exact x8
/-- The last extension has one more. -/
theorem RdIs.longer {g c : Nat} {L : List (ByteArray × List ByteArray)} {x : ByteArray × List ByteArray} {us0 : List Value} {u u' : Value} {p : ByteArray} (hL : st.T.exts = L ++ [x]) (hul : us0.length = L.length)
    (h : RdIs w N B M st ve vv (.slice (some ⟨g, 0, none⟩) (L.length + 1) c) vp (us0 ++ [u])) (hown : w7.ownsRow N 9 1 u' (x.2 ++ [p]).length (strs (x.2 ++ [p]))) (hg : w.grownBy w7 u.ownBlock) (hl : ∀ k, u'.ownBlock = some k → u.ownBlock = some k ∨ w.heap.size ≤ k) :
    w7.heap[B]? = some (.cells (rdCs st ve vv (.slice (some ⟨g, 0, none⟩) (L.length + 1) c) vp M) 73 (0, 0)) ∧ w7.cell? ⟨g, L.length * 2 + 1, none⟩ = some u ∧ w7.frozen? ⟨g, L.length * 2 + 1, none⟩ = false ∧ g ≠ B ∧ Foot N B M w7 (w7.setCell ⟨g, L.length * 2 + 1, none⟩ u') ∧
    ∀ w8, (w7.setCell ⟨g, L.length * 2 + 1, none⟩ u').grownBy w8 (some B) → ∀ st', w8.heap[B]? = some (.cells (rdCs st' ve vv (.slice (some ⟨g, 0, none⟩) (L.length + 1) c) vp M) 73 (0, 0)) → st'.T = { st.T with exts := L ++ [(x.1, x.2 ++ [p])] } → st'.seen = st.seen →
      RdIs w8 N B M st' ve vv (.slice (some ⟨g, 0, none⟩) (L.length + 1) c) vp (us0 ++ [u']) := by
  obtain ⟨n, hn, hm⟩ := h.m
  have erows : ∀ (y : ByteArray × List ByteArray) (v : Value), (us0 ++ [v]).zip ((L ++ [y]).map (·.2)) = us0.zip (L.map (·.2)) ++ [(v, y.2)] := fun y v => by
    rw [List.map_append, List.zip_append (by rw [List.length_map]; exact hul)]
    rfl
  have hr0 : rdRows st ve vv vp (us0 ++ [u]) = ([(ve, st.T.extl), (vv, st.T.vars), (vp, st.T.priv)] ++ us0.zip (L.map (·.2))) ++ (u, x.2) :: [] := by
    unfold rdRows
    rw [hL, erows, List.append_assoc]
  have hr := h.r
  rw [hr0] at hr
  have hx : w.ownsRow N 51 2 (.slice (some ⟨g, 0, none⟩) (L.length + 1) c) (L.length + 1) (extCells L us0 ++ [.string x.1, u]) := by
    have := h.x
    rw [hL, extCells_snoc hul, List.length_append] at this
    exact this
  have hu : w.ownsRow N 9 1 u x.2.length (strs x.2) := hr.1 (u, x.2) (by simp)
  have hBu : some B ≠ u.ownBlock := fun e => own_not_rd hu (by decide) h.hb e.symm
  have hB7 := (hg.block B (lt_of_heap h.hb) hBu).trans h.hb
  have x7 := hx.kept hg (by
    rcases own_types_ne hx hu (by decide) with h1 | h1
    · exact .inl h1
    · exact .inr h1)
  have m7 := hm.kept hg (fun e => own_not_map hu hm e.symm)
  have hr7 := OwnAll.append hr hown hg hl
  have hlen : (extCells L us0).length = L.length * 2 := extCells_length hul
  have hgB : g ≠ B := fun e => own_not_rd x7 (by decide) hB7 (by rw [e]; rfl)
  refine ⟨hB7, ?_, x7.frozenAt _, hgB, Foot.row x7 (.inr rfl) (x7.stored (L.length * 2 + 1) u').2, fun w8 hg8 st' hb8 hT hseen => ?_⟩
  · rw [x7.cellAt _ (by omega), List.getElem?_append_right (by omega), hlen, Nat.add_sub_cancel_left]
    rfl
  · have hs := x7.stored (L.length * 2 + 1) u'
    have hB8 : (w7.setCell ⟨g, L.length * 2 + 1, none⟩ u').heap[B]? = _ := (Below.heap_setCell w7 ⟨g, L.length * 2 + 1, none⟩ u' B (fun e => hgB e.symm)).trans hB7
    have es : (extCells L us0 ++ [.string x.1, u]).set (L.length * 2 + 1) u' = extCells L us0 ++ [.string x.1, u'] := by
      rw [List.set_append_right _ _ (by omega), hlen, Nat.add_sub_cancel_left]
      rfl
    have xs := hs.1
    rw [es] at xs
    have r8 := hr7.kept hs.2 fun y hy k e1 e2 => by
      rcases own_types_ne (hr7.1 y hy) x7 (by decide) with h1 | h1
      · rw [e1] at h1; cases h1
      · exact h1 (e1.trans e2.symm)
    have m8 := m7.kept hs.2 (fun e => own_not_map x7 m7 e.symm)
    refine ⟨hb8, Nat.le_trans (Nat.le_trans (Nat.le_trans h.nh hg.size) hs.2.size) hg8.size, ?_, ?_, by rw [hT]; simp [hul], n, by rw [hseen]; exact hn, by rw [hseen]; exact m8.kept hg8 (fun e => rd_not_map hB8 m8 (by injection e with e; exact e.symm))⟩
    · have e : rdRows st' ve vv vp (us0 ++ [u']) = ([(ve, st.T.extl), (vv, st.T.vars), (vp, st.T.priv)] ++ us0.zip (L.map (·.2))) ++ (u', x.2 ++ [p]) :: [] := by
        unfold rdRows
        rw [hT]
        dsimp only
        rw [erows, List.append_assoc]
      rw [e]
      exact r8.kept hg8 fun y hy k e1 e2 => own_not_rd (r8.1 y hy) (by decide) hB8 (e1.trans e2.symm)
    · rw [hT]
      show w8.ownsRow N 51 2 _ (L ++ [(x.1, x.2 ++ [p])]).length (extCells (L ++ [(x.1, x.2 ++ [p])]) (us0 ++ [u']))
      rw [extCells_snoc hul, List.length_append]
      exact xs.kept hg8 (.inr (own_not_rd xs (by decide) hB8))
end
end Go.Proofs.YtpnhjpplfjamkaaGreatDoor

/-! Package parse: the reader takes in a piece: an extension goes on (the walk). -/
namespace Go.Proofs.YtpnhjpplfjamkaaGreatDoor
open Go Go.RowKit Go.Maps

def isExtd (st : PSt) (p : ByteArray) : Bool := decide (st.key.size ≠ 0 ∧ 2 ≤ p.size ∧ okS p = true)
/-- What the extension's own walk works on: the last extension is there. -/
def openedP (st : PSt) : PSt := if st.must = true then openP st else st
theorem lies_of {w : World} {u : Value} {g7 m c : Nat} (h : u.ownBlock = some g7 ∨ g7 = w.heap.size) : ∀ k, Value.ownBlock (.slice (some ⟨g7, 0, none⟩) m c) = some k → u.ownBlock = some k ∨ w.heap.size ≤ k := by
  intro k hk
  have e : g7 = k := by simpa [Value.ownBlock] using hk
  subst e
  exact h.imp id (fun h => Nat.le_of_eq h.symm)
theorem RdIs.last {w : World} {N B M g c : Nat} {st : PSt} {ve vv vp u : Value} {L : List (ByteArray × List ByteArray)} {x : ByteArray × List ByteArray} {us0 : List Value} (h : RdIs w N B M st ve vv (.slice (some ⟨g, 0, none⟩) (L.length + 1) c) vp (us0 ++ [u])) (hL : st.T.exts = L ++ [x]) (hul : us0.length = L.length) :
    w.ownsRow N 9 1 u x.2.length (strs x.2) ∧ w.cell? ⟨g, L.length * 2 + 1, none⟩ = some u := by
  constructor
  · refine h.r.1 (u, x.2) ?_
    unfold rdRows
    rw [hL, List.map_append, List.zip_append (by rw [List.length_map]; exact hul)]
    simp
  · have hx := h.x
    rw [hL, extCells_snoc hul, List.length_append] at hx
    have hlen : (extCells L us0).length = L.length * 2 := extCells_length hul
    rw [World.ownsRow.cellAt (n := L.length + 1) hx _ (by omega), List.getElem?_append_right (by omega), hlen, Nat.add_sub_cancel_left]
    rfl
theorem extendP_opened (st : PSt) (p : ByteArray) (L : List (ByteArray × List ByteArray)) (x : ByteArray × List ByteArray) (h : (openedP st).T.exts = L ++ [x]) : extendP st p = { st with T := { st.T with exts := L ++ [(x.1, x.2 ++ [p])] }, must := false } := by
  unfold extendP
  unfold openedP at h
  by_cases hm : st.must = true
  · rw [if_pos hm] at h ⊢
    have h : st.T.exts ++ [(st.key, [])] = L ++ [x] := h
    obtain ⟨h1, h2⟩ := List.append_inj' h rfl
    obtain rfl : (st.key, []) = x := by simpa using h2
    rw [h1]
    rfl
  · rw [if_neg hm] at h ⊢
    rw [h, addSub_snoc]
theorem openedP_T (st : PSt) : (openedP st).T = { st.T with exts := (openedP st).T.exts } ∧ (openedP st).seen = st.seen ∧ (openedP st).last = st.last ∧ (openedP st).stage = st.stage ∧ (openedP st).key = st.key ∧ (openedP st).must = st.must := by
  unfold openedP
  split
  · exact ⟨rfl, rfl, rfl, rfl, rfl, rfl⟩
  · exact ⟨rfl, rfl, rfl, rfl, rfl, rfl⟩

set_option maxRecDepth 100000 in
theorem extendedP_none {w : World} {N B M : Nat} {st : PSt} {ve vv vx vp : Value} {us : List Value} (h : RdIs w N B M st ve vv vx vp us) (p : ByteArray) (hp : p.size ≤ 1048576) (hpp : pieces p = [(0, p)]) (hno : isExtd st p = false) :
    Calls Tryz.prog 106 #[.pointer (some ⟨B, 0, none⟩), .string p] w fun e w' => e = .returned (.bool false) ∧ Foot N B M w w' ∧ Rd w' N B M st := by
  have HR := Lib.hid h
  have L := Lib.hid (subtagP_own p w hp hpp)
  have hN : N ≤ w.heap.size := h.nh
  have c10 : w.cell? ⟨B, 10, none⟩ = some (.string st.key) := rd_cell 10 h.hb rfl
  clear h hpp
  unfold isExtd at hno
  have hno := of_decide_eq_false hno
  by_cases hk : st.key.size = 0
  · have he := empty_true hk
    clear hno hk
    go_enter Tryz.func106, Tryz.ntmps106
    go_wp2_with fail
    go_ret
    exact ⟨rfl, Foot.refl _ _ _ _, HR.out.rd⟩
  · have he := empty_false (s := st.key) (by omega)
    by_cases h2 : 2 ≤ p.size
    · have h2' : ¬ (p.size : Int) < 2 := by omega
      have ho : okS p = false := by
        cases h : okS p with
        | false => rfl
        | true => exact absurd ⟨hk, h2, h⟩ hno
      rw [ho] at L
      clear hno ho hk h2
      go_enter Tryz.func106, Tryz.ntmps106
      go_wp2_with (go_at_call 101; (with_reducible refine L.out.mono ?_); rintro e w1 ⟨rfl, hb⟩)
      go_ret
      exact ⟨rfl, Foot.of hb, (HR.out.below hb).rd⟩
    · have h2' : (p.size : Int) < 2 := by omega
      clear hno hk h2
      go_enter Tryz.func106, Tryz.ntmps106
      go_wp2_with fail
      go_ret
      exact ⟨rfl, Foot.refl _ _ _ _, HR.out.rd⟩

set_option maxRecDepth 100000 in
set_option maxHeartbeats 2000000 in
theorem extendedP_some {w : World} {N B M : Nat} {st : PSt} {ve vv vx vp : Value} {us : List Value} (h : RdIs w N B M st ve vv vx vp us) (hs : RdSmall st) (p : ByteArray) (hp : p.size ≤ 1048576) (hpp : pieces p = [(0, p)]) (hyes : isExtd st p = true) (hne : st.must = false → st.T.exts ≠ []) :
    Calls Tryz.prog 106 #[.pointer (some ⟨B, 0, none⟩), .string p] w fun e w' => e = .returned (.bool true) ∧ Foot N B M w w' ∧ Rd w' N B M (extendP st p) := by
  have HR := Lib.hid h
  have L := Lib.hid (subtagP_own p w hp hpp)
  have hN : N ≤ w.heap.size := h.nh
  have c10 : w.cell? ⟨B, 10, none⟩ = some (.string st.key) := rd_cell 10 h.hb rfl
  obtain ⟨hk, h2, ho⟩ := of_decide_eq_true hyes
  have he := empty_false (s := st.key) (by omega)
  have h2' : ¬ (p.size : Int) < 2 := by omega
  rw [ho] at L
  have HS := Lib.hid hs
  have HNE := Lib.hid hne
  obtain ⟨i0, hi0, iz0, iz1, iz2⟩ := info_parts stringInfo
  obtain ⟨i1, hi1, jz0, jz1, jz2⟩ := info_parts extInfoM
  have hlx := hs.2.2.1
  clear h hpp hyes hk h2 ho hs hne
  go_enter Tryz.func106, Tryz.ntmps106
  go_upto_if 24 with (go_at_call 101; (with_reducible refine L.out.mono ?_); rintro e w1 ⟨rfl, hb⟩; have c11 : w1.cell? ⟨B, 11, none⟩ = some (.bool st.must) := rd_cell 11 (HR.out.below hb).hb rfl)
  have HR1 := Lib.hid (HR.out.below hb)
  go_cut [] from 24 to 40 (fun wx => Foot N B M w1 wx ∧ ∃ vx' us', RdIs wx N B M (openedP st) ve vv vx' vp us')
  case first =>
    cases hm : st.must with
    | false =>
      have HM := Lib.hid hm
      go_wp2_with fail
      go_meet
      case rel =>
        have e : openedP st = st := by unfold openedP; rw [if_neg (by rw [HM.out]; decide)]
        rw [e]
        exact ⟨Foot.refl _ _ _ _, _, _, HR1.out⟩
    | true =>
      have HE := Lib.hid (show openedP st = openP st by unfold openedP; rw [if_pos hm])
      have HD : RdIs w1.drew N B M st ve vv vx vp us := HR1.out.grown ⟨rfl, rfl, rfl, Nat.le_refl _, fun k _ _ => rfl⟩
      have HA : RdIs (w1.alloc (.cells #[.string st.key, .slice none 0 0] 51)).drew N B M st ve vv vx vp us := (HR1.out.alloc (.cells #[.string st.key, .slice none 0 0] 51)).grown ⟨rfl, rfl, rfl, Nat.le_refl _, fun k _ _ => rfl⟩
      have d5 : w1.drew.cell? ⟨B, 5, none⟩ = some vx := rd_cell 5 HD.hb rfl
      have d10 : w1.drew.cell? ⟨B, 10, none⟩ = some (.string st.key) := rd_cell 10 HD.hb rfl
      have a5 : (w1.alloc (.cells #[.string st.key, .slice none 0 0] 51)).drew.cell? ⟨B, 5, none⟩ = some vx := rd_cell 5 HA.hb rfl
      have hnb : (w1.alloc (.cells #[.string st.key, .slice none 0 0] 51)).drew.heap[w1.heap.size]? = some (.cells #[.string st.key, .slice none 0 0] 51 (0, 0)) := World.alloc_heap_new w1 _
      have HNB := Lib.hid hnb
      have hlw := hb.size
      have hls : (w1.alloc (.cells #[.string st.key, .slice none 0 0] 51)).drew.heap.size = w1.heap.size + 1 := by simp
      have HLS := Lib.hid hls
      have HA' := Lib.hid HA
      clear HD hm HA hnb hls
      go_upto_region 4 with fail
      go_region_law (refine step_append_lies _ rfl _ _ 29 rfl N 51 i1 (.agg #[.string ByteArray.empty, .slice none 0 0]) 2 40 Tryz.underlying29 hi1 jz0 jz1 jz2 rfl (by decide) vx st.T.exts.length (extCells st.T.exts us) rfl HA'.out.x ⟨_, 0, none⟩ 1 1 [.string st.key, .slice none 0 0] rfl rfl (World.news_of_block HNB.out) (by intro u hu; simp at hu; rcases hu with rfl | rfl <;> rfl) (by decide) (by unfold maxLen; omega) (by omega) (by rw [HLS.out]; omega) _ rfl ?_; intro g7 cap7 w7 hown7 hgrow7 _ _; have e5 : w7.cell? ⟨B, 5, none⟩ = some vx := rd_cell 5 ((hgrow7.block B (lt_of_heap HA'.out.hb) (fun e => own_not_rd HA'.out.x (by decide) HA'.out.hb e.symm)).trans HA'.out.hb) rfl; have f5 : w7.frozen? ⟨B, 5, none⟩ = false := cells_frozen 5 ((hgrow7.block B (lt_of_heap HA'.out.hb) (fun e => own_not_rd HA'.out.x (by decide) HA'.out.hb e.symm)).trans HA'.out.hb))
      all_goals
        (try go_wp2_with fail)
        go_meet
        case rel =>
          rw [HE.out]
          have hB7 := (hgrow7.block B (lt_of_heap HA'.out.hb) (fun e => own_not_rd HA'.out.x (by decide) HA'.out.hb e.symm)).trans HA'.out.hb
          have hg8 := grown_setF (World.grownBy.refl w7 (some B)) 5 (.slice (some ⟨g7, 0, none⟩) (st.T.exts.length + 1) cap7)
          refine ⟨?_, _, _, HA'.out.opened hown7 hgrow7 hg8 (cells_set hB7 (k := 5) (.slice (some ⟨g7, 0, none⟩) (st.T.exts.length + 1) cap7))⟩
          exact (((Foot.alloc N B M w1 (.cells #[.string st.key, .slice none 0 0] 51)).trans (Foot.drew N B M _)).trans (Foot.row HA'.out.x (.inr rfl) hgrow7)).trans (Foot.put hg8)
  case rest =>
    obtain ⟨hbx, vx', us', hx⟩ := hcut
    obtain ⟨wo, rfl⟩ : ∃ x, x = wc := ⟨_, rfl⟩
    obtain ⟨eT, eS, e1, e2, e3, e4⟩ := openedP_T st
    have hne : (openedP st).T.exts ≠ [] := by
      unfold openedP
      split
      · simp [openP]
      · rename_i h
        exact HNE.out (by simpa using h)
    obtain ⟨L0, x, hL⟩ : ∃ L0 x, (openedP st).T.exts = L0 ++ [x] := by
      rcases List.eq_nil_or_concat (openedP st).T.exts with h | ⟨a, b, h⟩
      · exact absurd h hne
      · exact ⟨a, b, by rw [h, List.concat_eq_append]⟩
    have hul := hx.ul
    rw [hL, List.length_append] at hul
    obtain ⟨us0, u, rfl⟩ : ∃ a b, us' = a ++ [b] := by
      rcases List.eq_nil_or_concat us' with h | ⟨a, b, h⟩
      · rw [h] at hul; simp at hul
      · exact ⟨a, b, by rw [h, List.concat_eq_append]⟩
    have hul0 : us0.length = L0.length := by simpa using hul
    have hxx := hx.x
    rw [hL, List.length_append] at hxx
    obtain ⟨g, c, rfl, hNg, hgl⟩ := hxx.form (by simp)
    have hlen0 : L0.length ≤ 4194304 ∧ x.2.length ≤ 4194304 := by
      have h1 := HS.out.2.2.1
      have h2 := HS.out.2.2.2.2.2
      unfold openedP at hL
      split at hL
      · have hL : st.T.exts ++ [(st.key, [])] = L0 ++ [x] := hL
        obtain ⟨h3, h4⟩ := List.append_inj' hL rfl
        obtain rfl : (st.key, []) = x := by simpa using h4
        rw [← h3]
        exact ⟨h1, by simp⟩
      · rw [hL] at h1 h2
        rw [List.length_append] at h1
        exact ⟨by omega, h2 x (by simp)⟩
    have HX := Lib.hid hx
    have q5 : wo.drew.cell? ⟨B, 5, none⟩ = some (.slice (some ⟨g, 0, none⟩) (L0.length + 1) c) := rd_cell 5 (w := wo.drew) hx.hb rfl
    have hz0 : (0 : Int) ≤ (L0.length : Int) := by omega
    have hz1 : (L0.length : Int) < ((L0.length + 1 : Nat) : Int) := by omega
    have hz2 : (((L0.length + 1 : Nat) : Int) - 1) = (L0.length : Int) := by omega
    have hz3 : L0.length ≤ 4194304 := hlen0.1
    have HL0 := Lib.hid hlen0
    have HL := Lib.hid hL
    clear hx hxx hlen0 hL hne hul
    go_upto_region 5 with fail
    go_region
    have HXd : RdIs wo.drew N B M (openedP st) ve vv (.slice (some ⟨g, 0, none⟩) (L0.length + 1) c) vp (us0 ++ [u]) := HX.out.grown ⟨rfl, rfl, rfl, Nat.le_refl _, fun k _ _ => rfl⟩
    have HBX := Lib.hid (((Foot.of hb).trans hbx).trans (Foot.drew N B M wo))
    have hNd : N ≤ wo.drew.heap.size := by have := hb.size; have := hbx.size; simp; omega
    clear q5 HX hbx hgl
    generalize wo.drew = wd at *
    have HA := Lib.hid (HXd.alloc (.cells #[.string p] 9))
    obtain ⟨hu, hcu⟩ := HXd.last HL.out hul0
    have HU := Lib.hid (hu.alloc (.cells #[.string p] 9))
    have hp0 : x.2.length ≤ 4194304 := HL0.out.2
    clear HXd hu
    go_wp2_with (at_builtin; refine wpList_append_lies _ rfl _ _ 28 rfl N 9 i0 (.string ByteArray.empty) 1 16 Tryz.underlying28 hi0 iz0 iz1 iz2 rfl (by decide) u x.2.length (strs x.2) rfl HU.out ⟨_, 0, none⟩ 1 1 [.string p] rfl rfl (World.news_of_block (World.alloc_heap_new _ _)) (by intro u hu; simp at hu; subst hu; rfl) (by decide) (by unfold maxLen; omega) (by omega) (by simp; omega) _ rfl ?_; intro g7 cap7 w7 hown7 hgrow7 hlies7 _; obtain ⟨hB7, hc7, hf7, hgB, hft, hfin⟩ := RdIs.longer (u' := .slice (some ⟨g7, 0, none⟩) (x.2.length + 1) cap7) HL.out hul0 HA.out (own_snoc hown7) hgrow7 (lies_of hlies7); have HB7 := Lib.hid hB7; have HFIN := Lib.hid hfin; have HFT := Lib.hid hft; have HG7 := Lib.hid hgrow7; have hB8 := (Below.heap_setCell w7 ⟨g, L0.length * 2 + 1, none⟩ (.slice (some ⟨g7, 0, none⟩) (x.2.length + 1) cap7) B (fun e => hgB e.symm)).trans hB7; have s11 := rd_cell 11 hB8 rfl; have sf11 := cells_frozen 11 hB8; have HB8 := Lib.hid hB8; clear hown7 hgrow7 hlies7 hB7 hfin hft hB8)
    go_ret
    have hg8 := grown_setF (World.grownBy.refl (w7.setCell ⟨g, L0.length * 2 + 1, none⟩ (.slice (some ⟨g7, 0, none⟩) (x.2.length + 1) cap7)) (some B)) 11 (.bool false)
    have hcs : rdCs (openedP st) ve vv (.slice (some ⟨g, 0, none⟩) (L0.length + 1) c) vp M = rdCs st ve vv (.slice (some ⟨g, 0, none⟩) (L0.length + 1) c) vp M := by unfold openedP; split <;> rfl
    have hfinal := HFIN.out _ hg8 { st with T := { st.T with exts := L0 ++ [(x.1, x.2 ++ [p])] }, must := false } (by rw [cells_set HB8.out (k := 11) (.bool false), hcs]; rfl) (by rw [eT]) eS.symm
    refine ⟨rfl, ?_, ?_⟩
    · exact HBX.out.trans (((Foot.alloc N B M wd (.cells #[.string p] 9)).trans (Foot.row HU.out (.inl rfl) HG7.out)).trans (HFT.out.trans (Foot.put hg8)))
    · rw [extendP_opened st p L0 x HL.out]
      exact hfinal.rd
end Go.Proofs.YtpnhjpplfjamkaaGreatDoor
