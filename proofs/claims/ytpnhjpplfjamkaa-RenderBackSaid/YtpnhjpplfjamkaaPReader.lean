/-
  Package parse: the reader, as it lies in memory; what takes in a piece. Package parse: the reader takes in a piece: the kinds that cannot end the reading. Package parse: the reader takes in a piece: the kinds that grow a row, and those that can end the reading. Package parse: the reader takes in a piece: the kinds that can end the reading. Package parse: the reader takes in a piece: an extension goes on. Package parse: the reader takes in a piece: an extension goes on (the walk).
-/
import Derived.Test.YtpnhjpplfjamkaaPMath
import Derived.Test.YtpnhjpplfjamkaaNRules
import Derived.Test.YtpnhjpplfjamkaaPieceR
import Derived.Deep.AppendLies
import Derived.Maps.OwnOps
import Derived.WalkLawsBesides
import Derived.Test.YtpnhjpplfjamkaaKinds
import Derived.Test.YtpnhjpplfjamkaaMClone
import Derived.Deep.RegionLaw
import Derived.Deep.Cut
/-! Package parse: the reader, as it lies in memory; what takes in a piece. -/
namespace Go.Proofs.Ytpnhjpplfjamkaa
open Go Go.RowKit Go.Maps

/-! A look-up in a map of bools that the call itself has made. -/
/-! Rows that share no memory. -/
def Far (a b : Value) : Prop := ∀ g, a.ownBlock = some g → b.ownBlock = some g → False
theorem Far.symm {a b : Value} (h : Far a b) : Far b a := fun g h1 h2 => h g h2 h1
def OwnAll (w : World) (N : Nat) (L : List (Value × List ByteArray)) : Prop := (∀ x ∈ L, w.ownsRow N 9 1 x.1 x.2.length (strs x.2)) ∧ L.Pairwise fun a b => Far a.1 b.1
theorem OwnAll.kept {w w' : World} {N : Nat} {L : List (Value × List ByteArray)} {row : Option Nat} (h : OwnAll w N L) (hg : w.grownBy w' row) (hr : ∀ x ∈ L, ∀ g, x.1.ownBlock = some g → row ≠ some g) : OwnAll w' N L :=
  ⟨fun x hx => (h.1 x hx).kept hg (by
    cases hv : x.1.ownBlock with
    | none => exact .inl rfl
    | some g => exact .inr fun e => hr x hx g hv e.symm), h.2⟩
theorem OwnAll.append {w w' : World} {N : Nat} {A C : List (Value × List ByteArray)} {v v' : Value} {l l' : List ByteArray} (h : OwnAll w N (A ++ (v, l) :: C)) (hown : w'.ownsRow N 9 1 v' l'.length (strs l')) (hg : w.grownBy w' v.ownBlock)
    (hl : ∀ g, v'.ownBlock = some g → v.ownBlock = some g ∨ w.heap.size ≤ g) : OwnAll w' N (A ++ (v', l') :: C) := by
  obtain ⟨h1, h2⟩ := h
  rw [List.pairwise_append, List.pairwise_cons] at h2
  obtain ⟨pA, ⟨pv, pC⟩, pAC⟩ := h2
  have far : ∀ x ∈ A ++ C, Far v x.1 := fun x hx => by
    rcases List.mem_append.1 hx with hx | hx
    · exact (pAC x hx (v, l) List.mem_cons_self).symm
    · exact pv x hx
  have old : ∀ x ∈ A ++ C, w.ownsRow N 9 1 x.1 x.2.length (strs x.2) := fun x hx => h1 x (by
    rcases List.mem_append.1 hx with hx | hx
    · exact List.mem_append_left _ hx
    · exact List.mem_append_right _ (List.mem_cons_of_mem _ hx))
  have new : ∀ x ∈ A ++ C, Far v' x.1 := fun x hx g e1 e2 => by
    rcases hl g e1 with h | h
    · exact far x hx g h e2
    · have := (old x hx).lt g e2; omega
  refine ⟨fun x hx => ?_, ?_⟩
  · rcases List.mem_append.1 hx with hx | hx
    · exact (old x (List.mem_append_left _ hx)).kept hg (by
        cases hv : x.1.ownBlock with
        | none => exact .inl rfl
        | some g => exact .inr fun e => far x (List.mem_append_left _ hx) g e.symm hv)
    · rcases List.mem_cons.1 hx with rfl | hx
      · exact hown
      · exact (old x (List.mem_append_right _ hx)).kept hg (by
          cases hv : x.1.ownBlock with
          | none => exact .inl rfl
          | some g => exact .inr fun e => far x (List.mem_append_right _ hx) g e.symm hv)
  · rw [List.pairwise_append, List.pairwise_cons]
    refine ⟨pA, ⟨fun x hx => new x (List.mem_append_right _ hx), pC⟩, fun a ha b hb => ?_⟩
    rcases List.mem_cons.1 hb with rfl | hb
    · exact (new a (List.mem_append_left _ ha)).symm
    · exact pAC a ha b (List.mem_cons_of_mem _ hb)

/-! What a call may turn: the reader's own cells, its map, rows of its own. -/
def frR : Obj → Bool
  | .cells _ t _ => decide (t = 9) || decide (t = 43)
  | _ => false
structure Foot (N B M : Nat) (w w' : World) : Prop where
  os : w'.os = w.os
  tape : w'.tape = w.tape
  output : w'.output = w.output
  size : w.heap.size ≤ w'.heap.size
  blk : ∀ k o, w.heap[k]? = some o → k ≠ B → k ≠ M → (k < N ∨ frR o = false) → w'.heap[k]? = some o
section
variable {N B M : Nat} {w w' w2 : World}
theorem Foot.refl (N B M : Nat) (w : World) : Foot N B M w w := ⟨rfl, rfl, rfl, Nat.le_refl _, fun _ _ h _ _ _ => h⟩
theorem Foot.trans (h : Foot N B M w w') (k : Foot N B M w' w2) : Foot N B M w w2 := ⟨k.os.trans h.os, k.tape.trans h.tape, k.output.trans h.output, Nat.le_trans h.size k.size, fun i o h1 h2 h3 h4 => k.blk i o (h.blk i o h1 h2 h3 h4) h2 h3 h4⟩
theorem Foot.grown {row : Option Nat} (hg : w.grownBy w' row) (hr : ∀ k, row = some k → k = B ∨ k = M ∨ (N ≤ k ∧ ∀ o, w.heap[k]? = some o → frR o = true)) : Foot N B M w w' :=
  ⟨hg.os, hg.tape, hg.output, hg.size, fun k o h1 h2 h3 h4 => (hg.block k (Array.getElem?_eq_some_iff.1 h1).1 (fun e => by
    rcases hr k e.symm with h | h | ⟨h5, h6⟩
    · exact h2 h
    · exact h3 h
    · rcases h4 with h4 | h4
      · omega
      · rw [h6 o h1] at h4; cases h4)).trans h1⟩
theorem Foot.of (hb : Below w.heap.size w w') : Foot N B M w w' := Foot.grown (row := none) ⟨hb.os, hb.tape, hb.output, hb.size, fun k hk _ => hb.block k hk⟩ (fun k e => by cases e)
theorem Foot.put (hg : w.grownBy w' (some B)) : Foot N B M w w' := Foot.grown hg (fun k e => by injection e with e; exact .inl e.symm)
theorem Foot.alloc (N B M : Nat) (w : World) (o : Obj) : Foot N B M w (w.alloc o) := Foot.of ((Below.refl _ w).alloc (Nat.le_refl _) o)
theorem Foot.drew (N B M : Nat) (w : World) : Foot N B M w w.drew := Foot.of (Below.drew (Below.refl _ w))
theorem own_free {e : TypeId} {sz n : Nat} {v : Value} {xs : List Value} (hown : w.ownsRow N e sz v n xs) (he : e = 9 ∨ e = 43) : ∀ k, v.ownBlock = some k → N ≤ k ∧ ∀ o, w.heap[k]? = some o → frR o = true := by
  intro k hk
  refine ⟨(hown.lt k hk).1, fun o ho => ?_⟩
  rcases hown.2 with ⟨rfl, _⟩ | ⟨g, c, cur, rfl, _, hg, _⟩
  · cases hk
  · have e : g = k := by simpa [Value.ownBlock] using hk
    subst e
    rw [hg] at ho
    injection ho with ho
    subst ho
    rcases he with rfl | rfl <;> rfl
theorem Foot.row {e : TypeId} {sz n : Nat} {v : Value} {xs : List Value} (hown : w.ownsRow N e sz v n xs) (he : e = 9 ∨ e = 43) (hg : w.grownBy w' v.ownBlock) : Foot N B M w w' :=
  Foot.grown hg (fun k hk => .inr (.inr (own_free hown he k hk)))
end

/-! The reader in memory. -/
def rdCs (st : PSt) (ve vv vx vp : Value) (M : Nat) : Array Value := #[.string st.T.lang, ve, .string st.T.script, .string st.T.region, vv, vx, vp, .string ByteArray.empty, .int .i64 (st.last : Int), .int .i64 (st.stage : Int), .string st.key, .bool st.must, .map (some M)]
def rdRows (st : PSt) (ve vv vp : Value) (us : List Value) : List (Value × List ByteArray) := [(ve, st.T.extl), (vv, st.T.vars), (vp, st.T.priv)] ++ us.zip (st.T.exts.map (·.2))
theorem rd_cell {w : World} {B : Nat} {cs : Array Value} {t : TypeId} (k : Nat) (h : w.heap[B]? = some (.cells cs t (0, 0))) {v : Value} (hk : cs[k]? = some v) : w.cell? ⟨B, k, none⟩ = some v := by
  simp [World.cell?, h, hk]
theorem own_not_map {w : World} {base M : Nat} {e : TypeId} {sz n : Nat} {v : Value} {k : Nat} {xs : List Value} {t : TypeId} {R : Value → Option (DataW Unit × List MemPlace)} {D : DataW Unit} (h : w.ownsRow base e sz v n xs) (hm : w.ownsMap Try.prog t R M k D) : v.ownBlock ≠ some M := by
  obtain ⟨es, clock, hb, _⟩ := hm
  rcases h.2 with ⟨rfl, _⟩ | ⟨g, c, cur, rfl, _, hg, _⟩
  · simp [Value.ownBlock]
  · intro e
    have e : g = M := by simpa [Value.ownBlock] using e
    subst e
    rw [hb] at hg
    simp at hg
theorem rd_not_map {w : World} {B M : Nat} {cs : Array Value} {k : Nat} {t ty : TypeId} {R : Value → Option (DataW Unit × List MemPlace)} {D : DataW Unit} (hB : w.heap[B]? = some (.cells cs ty (0, 0))) (hm : w.ownsMap Try.prog t R M k D) : B ≠ M := by
  obtain ⟨es, clock, hb, _⟩ := hm
  rintro rfl
  rw [hb] at hB
  simp at hB
section
variable {w w' : World} {N B M : Nat} {st : PSt} {ve vv vx vp : Value} {us : List Value}
end
end Go.Proofs.Ytpnhjpplfjamkaa

/-! Package parse: the reader takes in a piece: the kinds that cannot end the reading. -/
namespace Go.Proofs.Ytpnhjpplfjamkaa
open Go Go.RowKit Go.Maps

section
variable {w w' : World} {N B M : Nat} {st : PSt} {ve vv vx vp : Value} {us : List Value}
end

/-! What a kind of piece makes of the reader. -/
end Go.Proofs.Ytpnhjpplfjamkaa

/-! Package parse: the reader takes in a piece: the kinds that grow a row, and those that can end the reading. -/
namespace Go.Proofs.Ytpnhjpplfjamkaa
open Go Go.RowKit Go.Maps

/-! What is added to a row. -/
section
variable {w w7 w8 : World} {N B M : Nat} {st : PSt} {ve vv vx vp : Value} {us : List Value}
end

theorem own_len {w : World} {base : Nat} {e : TypeId} {size : Nat} {ao : Option Addr} {m c n : Nat} {xs : List Value} (h : w.ownsRow base e size (.slice ao m c) n xs) : m = n := by
  rcases owned_cases h with ⟨h1, h2⟩ | ⟨g, c, h1⟩
  · simp at h1; omega
  · simp at h1; exact h1.2.1
/-! What ends the reading. -/
end Go.Proofs.Ytpnhjpplfjamkaa

/-! Package parse: the reader takes in a piece: the kinds that can end the reading. -/
namespace Go.Proofs.Ytpnhjpplfjamkaa
open Go Go.RowKit Go.Maps

section
variable {w w' : World} {N B M : Nat} {st : PSt} {ve vv vx vp : Value} {us : List Value}
end

/-! A variant: taken in, or there twice, or none. -/
end Go.Proofs.Ytpnhjpplfjamkaa

/-! Package parse: the reader takes in a piece: an extension goes on. -/
namespace Go.Proofs.Ytpnhjpplfjamkaa
open Go Go.RowKit Go.Maps

section
variable {w w7 w8 : World} {N B M : Nat} {st : PSt} {ve vv vx vp : Value} {us : List Value}
theorem extCells_snoc {L : List (ByteArray × List ByteArray)} {us : List Value} (h : us.length = L.length) (x : ByteArray × List ByteArray) (u : Value) : extCells (L ++ [x]) (us ++ [u]) = extCells L us ++ [.string x.1, u] := by
  unfold extCells
  rw [List.zip_append h.symm, List.flatMap_append]
  rfl
end
end Go.Proofs.Ytpnhjpplfjamkaa

/-! Package parse: the reader takes in a piece: an extension goes on (the walk). -/
namespace Go.Proofs.Ytpnhjpplfjamkaa
open Go Go.RowKit Go.Maps

theorem lies_of {w : World} {u : Value} {g7 m c : Nat} (h : u.ownBlock = some g7 ∨ g7 = w.heap.size) : ∀ k, Value.ownBlock (.slice (some ⟨g7, 0, none⟩) m c) = some k → u.ownBlock = some k ∨ w.heap.size ≤ k := by
  intro k hk
  have e : g7 = k := by simpa [Value.ownBlock] using hk
  subst e
  exact h.imp id (fun h => Nat.le_of_eq h.symm)
end Go.Proofs.Ytpnhjpplfjamkaa
