/-
  What the texts of the base lack, being slim, of errors: Kind, Place, Whats.
-/
import Derived.RangeFuncNested
import Derived.RangeFuncBound
import Derived.RangeFuncCalls
import Derived.RangeFuncLeaves
import Derived.WalkKit
import Derived.Lib.Join
import Derived.Lib.IndexLaws
import Derived.Test.YtaalecdokidmnaaGreatDoorProg
import Derived.LaidEql
import Derived.Stop.Asserts
import Derived.RowKitTokens
import Derived.Defers
import Derived.Recover
import Derived.Outline
import Derived.Lib.Hide
import Derived.OwnWalkIn
import Derived.LaidEqlPtr
import Derived.TacticsInMore
import Derived.LoopNIn
import Derived.LoopIn
import Derived.Shelf.Abstract
import Derived.OneCell
import Derived.RangeFuncBox
import Derived.Maps.AppendAt
import Derived.OwnWalk
import Derived.OrdersIn
import Derived.Deep.RegionHeld3
import Derived.WalkSmall
import Derived.Laws.NewBlocks
import Derived.TacticsIn
import Derived.WalkMore
import Derived.Lib.Walk
import Derived.Lib.Strings
import Derived.BigGuard
import Derived.BigQuiet
import Derived.Deep.QuietTactic
import Derived.Deep.MidRow
import Derived.LaidLaws
import Derived.StillTailTactics
import Derived.Laws.Cover1
import Derived.Sort.Walk0
import Derived.Sort.QuietTacIn
import Derived.Stop.RegionWithIn
import Derived.Sort.OwnSorted
import Derived.Deep.AppendLies
import Derived.Deep.RegionLawGrows
import Derived.Deep.CutRange
import Derived.Test.YtaalecdokidmnaaGreatDoorSeqs
import Derived.Test.YtaalecdokidmnaaGreatDoorBMaths
import Derived.Test.YtaalecdokidmnaaGreatDoorErr
import Derived.Test.YtaalecdokidmnaaGreatDoorFault
import Derived.Test.YtaalecdokidmnaaGreatDoorPiece
import Derived.Test.YtaalecdokidmnaaGreatDoorETags
import Derived.Test.YtaalecdokidmnaaGreatDoorWAll
import Derived.Test.YtaalecdokidmnaaGreatDoorWApp
import Derived.Test.YtaalecdokidmnaaGreatDoorYMades
/-! XSeqs -/
namespace Go.Proofs.YtaalecdokidmnaaGreatDoor
open Go Go.RowKit

section
variable {lo hi : Nat} {fr : Obj → Bool} {A B C W : World}
end
theorem ownFrom_cell {β : Type} {B : Nat} {p : Addr} {v : Value} : OwnFrom B (fun (_ : β) W => W.cell? p = some v) :=
  fun _ _ _ _ hs hg hrow => cell_kept hs hg (fun r e => (hrow r e).2)

/-- At the wide fence no depth is asked. -/
theorem yield_any {P : Program} {m k l : Nat} {args : Array Value} {W : World} {R : Ending → World → Prop} (h : YieldAt Fence.wide m P l args W R) : YieldAt Fence.wide k P l args W R := by
  obtain ⟨fn, tmps, assign, body, h1, h2, h3⟩ := h
  exact ⟨fn, tmps, assign, body, h1, h2, fun c cs _ => h3 c cs (room_wide _)⟩

/-- How a round's body may end. -/
def endZ {α : Type} (lo hi : Nat) (fr : Obj → Bool) (I : List α → World → Prop) (Ix : Code → List α → World → Prop) (xs : List α) (W : World) : Exit → Act → World → Prop
  | .normal, _, W' => Keep lo hi fr W W' ∧ I xs W'
  | .ret, _, W' => Keep lo hi fr W W' ∧ Ix .ret xs W'
  | .exit id, _, W' => Keep lo hi fr W W' ∧ Ix (.exit id) xs W'
  | .goto t, _, W' => Keep lo hi fr W W' ∧ Ix (.goto t) xs W'
  | .panic _, _, _ => False
  | .outgrown, _, _ => False

variable {P : Program}

set_option maxRecDepth 100000 in
/-- A range over a function, by its iterator's contract and one walk of its body. -/
theorem rangeZ {α : Type} {n : Nat} {g : Operand} {ps : Array Tmp} {assign body : Code} {Q : Exit → Act → World → Prop} {a : Act} {w : World}
    {gf : Nat} {lb : Array Value} (hg : a.eval g = .func (.func gf) #[] lb) (eg : ∀ args w, (callFunc gf args).run P w = .ok (.enter gf args) w)
    {encs : α → Array Value} {lo : Nat} {fr : Obj → Bool} {S Sp : List α → Prop} (hseq : SeqZ P gf lb encs lo fr S Sp w) (hfr : ∀ o, fr o = true → o.isCells = true) (hlo : lo ≤ w.heap.size) (hps : ∀ x, (encs x).size = ps.size)
    (I : List α → World → Prop) (Ix : Code → List α → World → Prop) (hI : OwnFrom w.heap.size I) (hIx : ∀ c, OwnFrom w.heap.size (Ix c)) (h0 : I [] w) (a₁ : α → Act)
    (hassign : ∀ (l : Nat) (x : α) (W : World) (K : Act → World → Prop), K (a₁ x) W →
      assign.wpIn (Fence.wide.inRound l) (n - 1 - 1) P (Exit.then K (fun _ _ _ => False)) { tmps := (ps.zip (encs x)).foldl (fun t (p, v) => t.setIfInBounds p v) a.tmps, defers := [] } W)
    (hbody : ∀ (l : Nat) (pre : List α) (x : α) (W : World), I pre W → Sp (pre ++ [x]) → w.heap.size ≤ W.heap.size → body.wpIn (Fence.wide.inRound l) (n - 1 - 1) P (endZ lo w.heap.size fr I Ix (pre ++ [x]) W) (a₁ x) W)
    (hdone : ∀ (D : Nat) (xs : List α) (W : World), w.heap.size ≤ D → S xs → I xs W → W.heap[D]? = some (.deferred (some [])) → Q .normal { a with defers := { target := .collected D, args := #[] } :: a.defers } W)
    (hstop : ∀ (D : Nat) (c : Code) (pre : List α) (W : World), w.heap.size ≤ D → Sp pre → Ix c pre W → W.heap[D]? = some (.deferred (some [])) → c.wpIn Fence.wide n P Q { a with defers := { target := .collected D, args := #[] } :: a.defers } W) :
    (Code.rangeFunc g ps assign body).wpIn Fence.wide n P Q a w := by
  refine wpIn_rangeFunc ?_
  intro fn _
  have hro : Fence.wide.round = none := rfl
  rw [hro]
  obtain ⟨rec, hrec⟩ : ∃ rec : LoopState → Option Code → Loop, rec = fun st pe => { state := st, pending := pe, fn, tmps := a.tmps, params := ps, assign, body, defers := w.heap.size } := ⟨_, rfl⟩
  obtain ⟨W1, hW1⟩ : ∃ W1, (w.alloc (.deferred (some []))).alloc (.loop (rec .ready none)) = W1 := ⟨_, rfl⟩
  have hs1 : W1.heap.size = w.heap.size + 1 + 1 := by rw [← hW1]; simp
  have hL1 : W1.heap[w.heap.size + 1]? = some (.loop (rec .ready none)) := by
    have := World.alloc_heap_new (w.alloc (.deferred (some []))) (.loop (rec .ready none))
    rw [← hW1]; rwa [World.size_alloc] at this
  have hK1 : W1.heap[w.heap.size]? = some (.deferred (some [])) := by
    rw [← hW1]; exact (Below.heap_alloc _ _ _ (by simp)).trans (World.alloc_heap_new w _)
  have hI1 : I [] W1 := by rw [← hW1]; exact hI.alloc _ (hI.alloc _ h0)
  have hb1 : Below w.heap.size w W1 := by rw [← hW1]; exact ((Below.refl _ w).alloc (Nat.le_refl _) _).alloc (by simp) _
  refine ⟨w.heap.size + 1, [{ target := .collected w.heap.size, args := #[] }], W1, { target := .fn (.func gf) lb, args := #[.func (.yield (w.heap.size + 1)) #[] #[]] }, W1, gf,
    #[.func (.yield (w.heap.size + 1)) #[] #[]] ++ lb, W1, by rw [← hW1, hrec]; exact run_enterLoop_outer _ _ _ _ _, by simp only [resolve, hg]; simp [go_sem], fun _ _ => trivial, by simp [invoke, go_sem, eg], fun h => (by simp [Fence.wide] at h), ?_⟩
  refine (hseq (n - 1) (w.heap.size + 1)
    (fun pre W => (I pre W ∧ w.heap.size ≤ W.heap.size) ∧ (W.heap[w.heap.size + 1]? = some (.loop (rec .ready none)) ∧ W.heap[w.heap.size]? = some (.deferred (some []))))
    (fun pre W => ∃ c, Ix c pre W ∧ (W.heap[w.heap.size + 1]? = some (.loop (rec .done (some c))) ∧ W.heap[w.heap.size]? = some (.deferred (some []))))
    W1 hb1 ?own1 ?own2 ?round ⟨⟨hI1, by omega⟩, hL1, hK1⟩).mono ?after
  case own1 =>
    intro s A B row hs hg' hr
    exact ⟨⟨(ownFrom_le hI (by omega)) s A B row hs.1.1 hg' hr, Nat.le_trans hs.1.2 hg'.size⟩, ownFrom_block (β := Unit) (by omega) () A B row hs.2.1 hg' hr, ownFrom_block (β := Unit) (by omega) () A B row hs.2.2 hg' hr⟩
  case own2 =>
    rintro s A B row ⟨c, h1, h2, h3⟩ hg' hr
    exact ⟨c, (ownFrom_le (hIx c) (by omega)) s A B row h1 hg' hr, ownFrom_block (β := Unit) (by omega) () A B row h2 hg' hr, ownFrom_block (β := Unit) (by omega) () A B row h3 hg' hr⟩
  case round =>
    rintro pre x W ⟨⟨hi, hws⟩, hl, hk⟩ hlen
    have hlt : w.heap.size + 1 < W.heap.size := (Array.getElem?_eq_some_iff.1 hl).1
    have hy := run_yield (P := P) (args := encs x) hl (by rw [hrec]; exact hps x)
    rw [hrec] at hy
    refine ⟨fn, _, assign, body, hy, roundIn_of_wpIn (F := Fence.wide) trivial (hassign _ x W _ ?_)⟩
    clear hy
    refine ⟨_, run_beginRound hl (by rw [hrec]), ?_⟩
    obtain ⟨W2, hW2⟩ : ∃ W2, W.putObj (w.heap.size + 1) (.loop { rec .ready none with state := .busy }) = W2 := ⟨_, rfl⟩
    have hl2 : W2.heap[w.heap.size + 1]? = some (.loop { rec .ready none with state := .busy }) := by rw [← hW2]; exact World.putObj_heap_same hlt
    have hk2 : W2.heap[w.heap.size]? = some (.deferred (some [])) := by rw [← hW2]; exact (World.putObj_heap_other (by omega)).trans hk
    have hw2 : Keep lo W1.heap.size fr W W2 := by rw [← hW2]; exact Keep.putObj _ hl (by omega) (by omega)
    have hi2 : I pre W2 := by rw [← hW2]; exact hI.putObj _ hi (by omega) hl rfl
    rw [hW2]
    refine wpIn_mono (hbody _ pre x W2 hi2 hlen (Nat.le_trans hws hw2.size)) ?_
    have fin : ∀ (jump : Option Code) (W3 : World), Keep lo w.heap.size fr W2 W3 → ∃ W4, (Instr.endRound (w.heap.size + 1) jump).run P W3 = .ok (.bool jump.isNone) W4 ∧
        W4.heap[w.heap.size + 1]? = some (.loop (rec (if jump.isNone then .ready else .done) jump)) ∧ W4.heap[w.heap.size]? = some (.deferred (some [])) ∧ Keep lo W1.heap.size fr W W4 ∧
        W3.grownBy W4 (some (w.heap.size + 1)) ∧ W3.heap[w.heap.size + 1]? = some (.loop { rec .ready none with state := .busy }) := by
      intro jump W3 hk3
      have nfr : ∀ o : Obj, o.isCells = false → fr o = false := fun o ho => by
        cases hfo : fr o with
        | false => rfl
        | true => rw [hfr o hfo] at ho; cases ho
      have hl3 := hk3.blk _ _ hl2 (.inr ⟨by omega, nfr _ rfl⟩)
      have hd3 := hk3.blk _ _ hk2 (.inr ⟨by omega, nfr _ rfl⟩)
      have hre := run_endRound (P := P) jump hl3
      rw [hrec] at hre
      refine ⟨_, hre, ?_, (World.putObj_heap_other (by omega)).trans hd3, ?_, grownBy_putObj' _ _ _, hl3⟩
      · rw [hrec]; exact World.putObj_heap_same (Array.getElem?_eq_some_iff.1 hl3).1
      · exact (hw2.trans (hk3.mono (Nat.le_refl _) (by omega))).trans (Keep.putObj _ hl3 (by omega) (by omega))
    rintro e a3 W3 hp
    have leave : ∀ c, Keep lo w.heap.size fr W2 W3 → Ix c (pre ++ [x]) W3 → ∃ v W4, (Instr.endRound (w.heap.size + 1) (some c)).run P W3 = .ok v W4 ∧
        ((Ending.returned v = .returned (.bool true) ∧ (((I (pre ++ [x]) W4 ∧ w.heap.size ≤ W4.heap.size) ∧ (W4.heap[w.heap.size + 1]? = some (.loop (rec .ready none)) ∧ W4.heap[w.heap.size]? = some (.deferred (some [])))) ∧ Keep lo W1.heap.size fr W W4)) ∨
          (Ending.returned v = .returned (.bool false) ∧ (∃ c, Ix c (pre ++ [x]) W4 ∧ (W4.heap[w.heap.size + 1]? = some (.loop (rec .done (some c))) ∧ W4.heap[w.heap.size]? = some (.deferred (some [])))) ∧ Keep lo W1.heap.size fr W W4)) := by
      intro c hk3 hi3
      obtain ⟨W4, hr, hl4, hd4, hk4, hg4, ho⟩ := fin (some c) W3 hk3
      exact ⟨_, _, hr, .inr ⟨rfl, ⟨c, (hIx c) _ _ _ _ hi3 hg4 (fun r e => by cases e; exact ⟨by omega, _, ho, rfl⟩), hl4, hd4⟩, hk4⟩⟩
    cases e with
    | normal =>
      obtain ⟨hk3, hi3⟩ := hp
      obtain ⟨W4, hr, hl4, hd4, hk4, hg4, ho⟩ := fin none W3 hk3
      exact ⟨_, _, hr, .inl ⟨rfl, ⟨⟨hI _ _ _ _ hi3 hg4 (fun r e => by cases e; exact ⟨by omega, _, ho, rfl⟩), by have := hk4.size; omega⟩, hl4, hd4⟩, hk4⟩⟩
    | ret => exact leave _ hp.1 hp.2
    | exit id => exact leave _ hp.1 hp.2
    | goto t => exact leave _ hp.1 hp.2
    | panic ch => exact hp.elim
    | outgrown => exact hp.elim
  case after =>
    rintro e W2 ⟨⟨v, rfl⟩, (⟨xs, hS, ⟨hi, _⟩, hl, hk⟩ | ⟨pre, hSp, c, hi, hl, hk⟩)⟩
    · exact ⟨none, _, by have := run_endLoop (P := P) hl (by rw [hrec]; simp); rw [hrec] at this; exact this, hdone _ xs _ (Nat.le_refl _) hS (hI.putObj _ hi (by omega) hl rfl) ((World.putObj_heap_other (by omega)).trans hk)⟩
    · exact ⟨some c, _, by have := run_endLoop (P := P) hl (by rw [hrec]; simp); rw [hrec] at this; exact this, hstop _ c pre _ (Nat.le_refl _) hSp ((hIx c).putObj _ hi (by omega) hl rfl) ((World.putObj_heap_other (by omega)).trans hk)⟩
end Go.Proofs.YtaalecdokidmnaaGreatDoor

namespace Go.Proofs.YtaalecdokidmnaaGreatDoor
open Go Go.RowKit

section
variable {q : Nat → Prop} {hi : Nat} {fr : Obj → Bool} {A B C W : World}
end

variable {P : Program}

end Go.Proofs.YtaalecdokidmnaaGreatDoor

/-! XBMaths -/
namespace Go.Proofs.YtaalecdokidmnaaGreatDoor

end Go.Proofs.YtaalecdokidmnaaGreatDoor

namespace Go.Proofs.YtaalecdokidmnaaGreatDoor

end Go.Proofs.YtaalecdokidmnaaGreatDoor

namespace Go.Proofs.YtaalecdokidmnaaGreatDoor

theorem spl_cons (l : List UInt8) : ∃ h t, spl l = h :: t := by
  cases l with
  | nil => exact ⟨[], [], rfl⟩
  | cons c r => unfold spl; split <;> exact ⟨_, _, rfl⟩
theorem spl_plain {l : List UInt8} (h : (45 : UInt8) ∉ l) : spl l = [l] := by
  induction l with
  | nil => rfl
  | cons c r ih =>
    rw [List.mem_cons, not_or] at h
    unfold spl
    rw [if_neg (fun e => h.1 e.symm), ih h.2]; rfl
theorem spl_app (a b : List UInt8) : spl (a ++ 45 :: b) = spl a ++ spl b := by
  induction a with
  | nil => simp [spl]
  | cons c r ih =>
    obtain ⟨h, t, e⟩ := spl_cons r
    simp only [List.cons_append, spl, ih, e]
    split <;> simp
theorem spl_mem_len (l : List UInt8) : ∀ p ∈ spl l, p.length ≤ l.length := by
  induction l with
  | nil => intro p hp; simp [spl] at hp; simp [hp]
  | cons c r ih =>
    obtain ⟨h, t, e⟩ := spl_cons r
    intro p hp
    unfold spl at hp
    rw [e] at hp ih
    split at hp
    · rcases List.mem_cons.1 hp with rfl | hp
      · simp
      · have := ih p hp; simp; omega
    · simp only [List.headD_cons, List.tail_cons] at hp
      rcases List.mem_cons.1 hp with rfl | hp
      · have := ih h (by simp); simp; omega
      · have := ih p (List.mem_cons_of_mem _ hp); simp; omega

/-- The first mark of a text, and what stands ahead of it and behind it. -/
theorem idx_cases (l : List UInt8) : (Lib.indexByte l 45 = -1 ∧ (45 : UInt8) ∉ l) ∨ ∃ p r, Lib.indexByte l 45 = (p.length : Int) ∧ l = p ++ 45 :: r ∧ (45 : UInt8) ∉ p := by
  by_cases h : Lib.indexByte l 45 = -1
  · refine .inl ⟨h, fun hm => ?_⟩
    obtain ⟨k, hk⟩ := List.mem_iff_getElem?.1 hm
    exact Lib.indexByte_none h k hk
  · have hge := Lib.indexByte_ge l 45
    obtain ⟨o, ho⟩ := Int.eq_ofNat_of_zero_le (show 0 ≤ Lib.indexByte l 45 by omega)
    obtain ⟨h1, h2⟩ := Lib.indexByte_some ho
    obtain ⟨hol, hoe⟩ := List.getElem?_eq_some_iff.1 h1
    refine .inr ⟨l.take o, l.drop (o + 1), ?_, ?_, fun hm => ?_⟩
    · rw [ho, List.length_take, Nat.min_eq_left (by omega)]
    · rw [← hoe, ← List.drop_eq_getElem_cons hol, List.take_append_drop]
    · obtain ⟨k, hk⟩ := List.mem_iff_getElem?.1 hm
      rw [List.getElem?_take] at hk
      split at hk
      · exact h2 k (by assumption) hk
      · cases hk

theorem placed_map (n : Nat) (ps : List (List UInt8)) : (placed n ps).map (·.2) = ps.map ofL := by
  induction ps generalizing n with
  | nil => rfl
  | cons p r ih => simp [placed, ih]
def splS (s : ByteArray) : List ByteArray := (spl (bs s)).map ofL
theorem pieces_map (s : ByteArray) : (pieces s).map (·.2) = splS s := placed_map _ _
theorem splS_size (s : ByteArray) : ∀ p ∈ splS s, p.size ≤ s.size := by
  intro p hp
  obtain ⟨q, hq, rfl⟩ := List.mem_map.1 hp
  rw [size_ofL, ← size_bs]; exact spl_mem_len _ _ hq

end Go.Proofs.YtaalecdokidmnaaGreatDoor

namespace Go.Proofs.YtaalecdokidmnaaGreatDoor

end Go.Proofs.YtaalecdokidmnaaGreatDoor

/-! XErr -/
namespace Go.Proofs.YtaalecdokidmnaaGreatDoor
open Go Go.RowKit

theorem erNoWrapper (v : Value) (xT : TypeId) (w : World) : (Instr.typeAssert (.iface 53 v) xT 168 true).run Tryz.prog w = .ok (.tuple #[.nilIface, .bool false]) w := run_typeAssert_lacksB Tryz.underlying168 (by kernel_rfl) (by kernel_rfl) v xT w
theorem erNoWrappers (v : Value) (xT : TypeId) (w : World) : (Instr.typeAssert (.iface 53 v) xT 184 true).run Tryz.prog w = .ok (.tuple #[.nilIface, .bool false]) w := run_typeAssert_lacksB Tryz.underlying184 (by kernel_rfl) (by kernel_rfl) v xT w
theorem erNoFault (v : Value) (xT : TypeId) (w : World) : (Instr.typeAssert (.iface 53 v) xT 91 true).run Tryz.prog w = .ok (.tuple #[.pointer none, .bool false]) w := by kernel_rfl

theorem faWrapper (v : Value) (xT : TypeId) (w : World) : (Instr.typeAssert (.iface 91 v) xT 168 true).run Tryz.prog w = .ok (.tuple #[.iface 91 v, .bool true]) w := run_typeAssert_hasB Tryz.underlying168 (by kernel_rfl) v xT w
theorem faNoWrappers (v : Value) (xT : TypeId) (w : World) : (Instr.typeAssert (.iface 91 v) xT 184 true).run Tryz.prog w = .ok (.tuple #[.nilIface, .bool false]) w := run_typeAssert_lacksB Tryz.underlying184 (by kernel_rfl) (by kernel_rfl) v xT w
theorem faNoAs (v : Value) (xT : TypeId) (w : World) : (Instr.typeAssert (.iface 91 v) xT 221 true).run Tryz.prog w = .ok (.tuple #[.nilIface, .bool false]) w := run_typeAssert_lacksB Tryz.underlying221 (by kernel_rfl) (by kernel_rfl) v xT w
theorem faFault (v : Value) (xT : TypeId) (w : World) : (Instr.typeAssert (.iface 91 v) xT 91 true).run Tryz.prog w = .ok (.tuple #[v, .bool true]) w := by kernel_rfl

theorem shAs (v : Value) (xT : TypeId) (w : World) : (Instr.typeAssert (.iface 186 v) xT 221 true).run Tryz.prog w = .ok (.tuple #[.iface 186 v, .bool true]) w := run_typeAssert_hasB Tryz.underlying221 (by kernel_rfl) v xT w
theorem shNoU (v : Value) (xT : TypeId) (w : World) : (Instr.typeAssert (.iface 186 v) xT 167 true).run Tryz.prog w = .ok (.tuple #[.nilIface, .bool false]) w := run_typeAssert_lacksB Tryz.underlying167 (by kernel_rfl) (by kernel_rfl) v xT w
theorem shNoUs (v : Value) (xT : TypeId) (w : World) : (Instr.typeAssert (.iface 186 v) xT 183 true).run Tryz.prog w = .ok (.tuple #[.nilIface, .bool false]) w := run_typeAssert_lacksB Tryz.underlying183 (by kernel_rfl) (by kernel_rfl) v xT w

theorem faUnwrap (v : Value) (w : World) : (Go.method 416 91 v "Unwrap").run Tryz.prog w = .ok (245, v) w := by kernel_rfl
theorem shAsM (v : Value) (w : World) : (Go.method 416 186 v "As").run Tryz.prog w = .ok (249, v) w := by kernel_rfl
end Go.Proofs.YtaalecdokidmnaaGreatDoor

namespace Go.Proofs.YtaalecdokidmnaaGreatDoor
open Go Go.RowKit

set_option maxRecDepth 100000 in
theorem unwrap_f (b : Nat) (v : Value) (w : World) (hc : w.cell? ⟨b, 2, none⟩ = some v) :
    Calls Tryz.prog 245 #[.pointer (some ⟨b, 0, none⟩)] w fun e w' => e = .returned v ∧ w = w' := by
  go_enter Tryz.func245, Tryz.ntmps245
  go_wp2
  go_ret
  exact ⟨rfl, rfl⟩

theorem rec_inner (w : World) :
    CallsD Tryz.prog 106 #[] .returning w fun e u' w' => e = .returned (.tuple #[]) ∧ u' = .returning ∧ w' = w := by
  refine callsD_of_wpS Tryz.func106 rfl fun c₀ cs hu => ?_
  apply wpS_region
  cases c₀
  simp_all [wpOpsS, go_sem, recoverD, bodyPostS, results, Tryz.results106, Tryz.ntmps106]

set_option maxRecDepth 100000 in
theorem inner_errno (k : Int) (w : World) :
    Calls Tryz.prog 64 #[.iface 53 (.int .i64 k)] w fun e w' => e = .returned .nilIface ∧ w = w' := by
  have ta := erNoWrapper
  go_enter_defers Tryz.func64, Tryz.ntmps64
  go_wp2
  refine leaves_cons (f := 106) (args := #[]) (by simp) (by simp [go_sem]) ?_
  refine (rec_inner _).mono ?_
  rintro e u' w'' ⟨rfl, rfl, rfl⟩
  simp [Leaves, settle, results, Tryz.results64, go_sem]

set_option maxRecDepth 100000 in
theorem inner_fault (b : Nat) (v : Value) (w : World) (hc : w.cell? ⟨b, 2, none⟩ = some v) :
    Calls Tryz.prog 64 #[.iface 91 (.pointer (some ⟨b, 0, none⟩))] w fun e w' => e = .returned v ∧ Below w.heap.size w w' := by
  have ta := faWrapper
  have mu := faUnwrap
  go_enter_defers Tryz.func64, Tryz.ntmps64
  go_wp2_with fail
  refine (unwrap_f b v _ hc).mono ?_
  rintro e w' ⟨rfl, rfl⟩
  go_wp2
  refine leaves_cons (f := 106) (args := #[]) (by simp) (by simp [go_sem]) ?_
  refine (rec_inner _).mono ?_
  rintro e u' w'' ⟨rfl, rfl, rfl⟩
  simp [Leaves, settle, results, Tryz.results64, go_sem, Below.refl]

set_option maxRecDepth 100000 in
theorem alone_errno (k : Int) (w : World) :
    Calls Tryz.prog 67 #[.iface 53 (.int .i64 k)] w fun e w' => e = .returned (.iface 53 (.int .i64 k)) ∧ w = w' := by
  have t1 := erNoWrapper
  have t2 := erNoWrappers
  go_enter Tryz.func67, Tryz.ntmps67
  go_wp2
  go_ret
  exact ⟨rfl, rfl⟩

set_option maxRecDepth 100000 in
theorem alone_fault (v : Value) (w : World) :
    Calls Tryz.prog 67 #[.iface 91 v] w fun e w' => e = .returned (.iface 186 (.agg #[.iface 91 v])) ∧ w = w' := by
  have t1 := faWrapper
  have t2 := faNoWrappers
  go_enter Tryz.func67, Tryz.ntmps67
  go_wp2
  go_ret
  exact ⟨rfl, rfl⟩

set_option maxRecDepth 100000 in
theorem shell_as_fault (v t : Value) (w : World) :
    Calls Tryz.prog 249 #[.agg #[.iface 91 v], t] w fun e w' => e = .returned (.bool false) ∧ Below w.heap.size w w' := by
  have t1 := faNoAs
  go_enter Tryz.func249, Tryz.ntmps249
  go_wp2
  go_ret
  exact ⟨rfl, (Below.refl _ _).alloc (Nat.le_refl _) _⟩

end Go.Proofs.YtaalecdokidmnaaGreatDoor

namespace Go.Proofs.YtaalecdokidmnaaGreatDoor
open Go Go.RowKit Go.Extern.Stop Go.Stop Go.Extern

theorem asValueOf (t : Addr) (w : World) : (ReflectliteValue.unpack (.iface 126 (.pointer (some t)))).run Tryz.prog w
    = .ok (.agg #[.pointer (some ⟨3, 126, none⟩), .pointer (some ⟨w.heap.size, 0, none⟩), .int .u64 150]) (w.alloc (.cells #[.pointer (some t)] 126)) := by kernel_rfl
theorem asType (a : Addr) (w : World) : (ReflectliteValue.methodAny (ReflectliteValue.valueError "reflectlite.Value.Type" 0) (fun t _ _ _ => ReflectliteType.toType t) #[.agg #[.pointer (some ⟨3, 126, none⟩), .pointer (some a), .int .u64 150]]).run Tryz.prog w
    = .ok (.iface 216 (.agg #[.pointer (some ⟨3, 126, none⟩)])) w := by kernel_rfl
theorem asMKind (h : Value) (w : World) : (Go.method 416 216 (.agg #[h]) "Kind").run Tryz.prog w = .ok (239, h) w := by kernel_rfl
theorem asMElem (h : Value) (w : World) : (Go.method 416 216 (.agg #[h]) "Elem").run Tryz.prog w = .ok (254, .agg #[h]) w := by kernel_rfl
theorem asMImplements (h : Value) (w : World) : (Go.method 416 216 (.agg #[h]) "Implements").run Tryz.prog w = .ok (255, .agg #[h]) w := by kernel_rfl
theorem asMAssignableTo (h : Value) (w : World) : (Go.method 416 216 (.agg #[h]) "AssignableTo").run Tryz.prog w = .ok (252, .agg #[h]) w := by kernel_rfl
theorem asKindP (w : World) : ((ReflectliteType.abiMethod fun t => (fun a : Nat => Value.int IntKind.u8 (a : Int)) <$> Rtype.kind t) #[.pointer (some ⟨3, 126, none⟩)]).run Tryz.prog w = .ok (.int .u8 22) w := by kernel_rfl
theorem asKindE (w : World) : ((ReflectliteType.abiMethod fun t => (fun a : Nat => Value.int IntKind.u8 (a : Int)) <$> Rtype.kind t) #[.pointer (some ⟨3, 53, none⟩)]).run Tryz.prog w = .ok (.int .u8 2) w := by kernel_rfl
theorem asRlm (z : Sem Value) (f : TypeId → Addr → Nat → Nat → Sem Value) (v : Value) :
    ReflectliteValue.method z f #[v] = (do match ← ReflectliteValue.parts v with | none => z | some (t, a, fl) => f t a fl (fl % 32)) := rfl
theorem asPartsP (a : Addr) (w : World) : (ReflectliteValue.parts (.agg #[.pointer (some ⟨3, 126, none⟩), .pointer (some a), .int .u64 150])).run Tryz.prog w = .ok (some (126, a, 150)) w := by kernel_rfl
theorem asIsNil (a p : Addr) (W : World) (ha : W.cell? a = some (.pointer (some p))) :
    (ReflectliteValue.method (ReflectliteValue.valueError "reflectlite.Value.IsNil" 0) ReflectliteValue.isNil #[.agg #[.pointer (some ⟨3, 126, none⟩), .pointer (some a), .int .u64 150]]).run Tryz.prog W = .ok (.bool false) W := by
  rw [asRlm]
  simp only [Sem.run_bind, asPartsP, Result.andThen]
  simp [ReflectliteValue.isNil, loadVar, isAgg, underlying, Tryz.underlying126, ha, Result.andThen]
theorem asElemT (w : World) : (ReflectliteType.method ReflectliteType.elem #[.agg #[.pointer (some ⟨3, 126, none⟩)]]).run Tryz.prog w = .ok (.iface 216 (.agg #[.pointer (some ⟨3, 53, none⟩)])) w := by kernel_rfl
theorem asImplements (w : World) : (ReflectliteType.relation "Implements" ReflectliteType.implements_ #[.agg #[.pointer (some ⟨3, 53, none⟩)], .iface 216 (.agg #[.pointer (some ⟨3, 40, none⟩)])]).run Tryz.prog w = .ok (.bool true) w := by kernel_rfl
theorem asTypeOfE (v : Value) (w : World) : (ReflectliteType.typeOf #[.iface 53 v]).run Tryz.prog w = .ok (.iface 216 (.agg #[.pointer (some ⟨3, 53, none⟩)])) w := by kernel_rfl
theorem asTypeOfS (v : Value) (w : World) : (ReflectliteType.typeOf #[.iface 186 v]).run Tryz.prog w = .ok (.iface 216 (.agg #[.pointer (some ⟨3, 186, none⟩)])) w := by kernel_rfl
theorem asAssignableE (w : World) : (ReflectliteType.relation "AssignableTo" ReflectliteType.assignableTo #[.agg #[.pointer (some ⟨3, 53, none⟩)], .iface 216 (.agg #[.pointer (some ⟨3, 53, none⟩)])]).run Tryz.prog w = .ok (.bool true) w := by kernel_rfl
theorem asAssignableS (w : World) : (ReflectliteType.relation "AssignableTo" ReflectliteType.assignableTo #[.agg #[.pointer (some ⟨3, 186, none⟩)], .iface 216 (.agg #[.pointer (some ⟨3, 53, none⟩)])]).run Tryz.prog w = .ok (.bool false) w := by kernel_rfl
theorem asValueOfE (k : Int) (w : World) : (ReflectliteValue.unpack (.iface 53 (.int .i64 k))).run Tryz.prog w
    = .ok (.agg #[.pointer (some ⟨3, 53, none⟩), .pointer (some ⟨w.heap.size, 0, none⟩), .int .u64 130]) (w.alloc (.cells #[.int .i64 k] 53)) := by kernel_rfl
theorem asElemOf (w : World) : (Rtype.elem? 126).run Tryz.prog w = .ok (some 53) w := by kernel_rfl
theorem asMk (p : Addr) (w : World) : (ReflectliteValue.mk 53 p ReflectliteValue.flagAddr).run Tryz.prog w = .ok (.agg #[.pointer (some ⟨3, 53, none⟩), .pointer (some p), .int .u64 386]) w := by kernel_rfl
theorem asElemV (a p : Addr) (W : World) (ha : W.cell? a = some (.pointer (some p))) :
    (ReflectliteValue.method (ReflectliteValue.valueError "reflectlite.Value.Elem" 0) ReflectliteValue.elem #[.agg #[.pointer (some ⟨3, 126, none⟩), .pointer (some a), .int .u64 150]]).run Tryz.prog W
      = .ok (.agg #[.pointer (some ⟨3, 53, none⟩), .pointer (some p), .int .u64 386]) W := by
  rw [asRlm]
  simp only [Sem.run_bind, asPartsP, Result.andThen]
  simp [ReflectliteValue.elem, loadVar, isAgg, underlying, Tryz.underlying126, ha, Result.andThen, asElemOf, asMk]
theorem asRls (v x : Value) : ReflectliteValue.set #[v, x] = (do
    let (some (dst, a, fl), some (src, b, _)) := (← ReflectliteValue.parts v, ← ReflectliteValue.parts x)
      | unsupported (.noEntry "extern/(internal/reflectlite.Value).Set.zeroValue")
    if fl / ReflectliteValue.flagAddr % 2 == 0 then unsupported (.noEntry "extern/(internal/reflectlite.Value).Set.unaddressable")
    let val ← loadVar src b
    if ← Rtype.directlyAssignable dst src then storeVar dst a val
    else if ← Rtype.implements dst src then
      if (← Rtype.kind src) == 20 then
        match val with
        | .nilIface => unsupported (.noEntry "extern/reflectlite: a nil value of one interface type handed on as a value of another")
        | _ => storeVar dst a val
      else storeVar dst a (.iface src val)
    else panicString ("reflectlite.Set: value of type " ++ (← Rtype.spelt src) ++ " is not assignable to type " ++ (← Rtype.spelt dst))
    pure (.tuple #[])) := rfl
theorem asPartsEa (a : Addr) (w : World) : (ReflectliteValue.parts (.agg #[.pointer (some ⟨3, 53, none⟩), .pointer (some a), .int .u64 386])).run Tryz.prog w = .ok (some (53, a, 386)) w := by kernel_rfl
theorem asPartsE (a : Addr) (w : World) : (ReflectliteValue.parts (.agg #[.pointer (some ⟨3, 53, none⟩), .pointer (some a), .int .u64 130])).run Tryz.prog w = .ok (some (53, a, 130)) w := by kernel_rfl
theorem asDirect (w : World) : (Rtype.directlyAssignable 53 53).run Tryz.prog w = .ok true w := by kernel_rfl
set_option maxRecDepth 100000 in
theorem asSet (ta b : Addr) (k : Int) (old : Value) (W : World) (hb : W.cell? b = some (.int .i64 k)) (ht : W.cell? ta = some old) (hf : W.frozen? ta = false) :
    (ReflectliteValue.set #[.agg #[.pointer (some ⟨3, 53, none⟩), .pointer (some ta), .int .u64 386], .agg #[.pointer (some ⟨3, 53, none⟩), .pointer (some b), .int .u64 130]]).run Tryz.prog W
      = .ok (.tuple #[]) (W.setCell ta (.int .i64 k)) := by
  rw [asRls]
  simp only [Sem.run_bind, asPartsEa, asPartsE, Result.andThen]
  simp [ReflectliteValue.flagAddr, loadVar, isAgg, underlying, Tryz.underlying53, hb, Result.andThen, asDirect, storeVar, Value.cells, storeCells, Addr.add]
  rw [run_store Tryz.prog W ta _ _ (by rfl)]
  simp [ht, hf]

set_option maxRecDepth 100000 in
set_option maxHeartbeats 4000000 in
theorem as_hit (k : Int) (t : Addr) (old : Value) (w : World) (hg : w.cell? ⟨0, 0, none⟩ = some (.iface 216 (.agg #[.pointer (some ⟨3, 40, none⟩)]))) (ht0 : w.cell? t = some old) (hf0 : w.frozen? t = false) :
    Calls Tryz.prog 66 #[.iface 53 (.int .i64 k), .iface 126 (.pointer (some t))] w fun ev w' => ev = .returned (.bool true) ∧ ∃ w1, Below w.heap.size w w1 ∧ w' = w1.setCell t (.int .i64 k) := by
  have h6 := @run_callFunc_extern Tryz.prog 107 _ (fun args => ReflectliteValue.unpack (args.getD 0 (.tuple #[]))) Tryz.func107 (by kernel_rfl) (by kernel_rfl) (by kernel_rfl) (by kernel_rfl)
  have h7 := @run_callFunc_extern Tryz.prog 108 _ (ReflectliteValue.methodAny (ReflectliteValue.valueError "reflectlite.Value.Type" 0) (fun t _ _ _ => ReflectliteType.toType t)) Tryz.func108 (by kernel_rfl) (by kernel_rfl) (by kernel_rfl) (by kernel_rfl)
  have h8 := @run_callFunc_extern Tryz.prog 109 _ (ReflectliteValue.method (ReflectliteValue.valueError "reflectlite.Value.IsNil" 0) ReflectliteValue.isNil) Tryz.func109 (by kernel_rfl) (by kernel_rfl) (by kernel_rfl) (by kernel_rfl)
  have h27 := @run_callFunc_extern Tryz.prog 239 _ (ReflectliteType.abiMethod fun t => do pure (.int .u8 (← Rtype.kind t))) Tryz.func239 (by kernel_rfl) (by kernel_rfl) (by kernel_rfl) (by kernel_rfl)
  have h37 := @run_callFunc_extern Tryz.prog 254 _ (ReflectliteType.method ReflectliteType.elem) Tryz.func254 (by kernel_rfl) (by kernel_rfl) (by kernel_rfl) (by kernel_rfl)
  have h38 := @run_callFunc_extern Tryz.prog 255 _ (ReflectliteType.relation "Implements" ReflectliteType.implements_) Tryz.func255 (by kernel_rfl) (by kernel_rfl) (by kernel_rfl) (by kernel_rfl)
  have h10 := @run_callFunc_extern Tryz.prog 142 _ (ReflectliteType.typeOf) Tryz.func142 (by kernel_rfl) (by kernel_rfl) (by kernel_rfl) (by kernel_rfl)
  have h35 := @run_callFunc_extern Tryz.prog 252 _ (ReflectliteType.relation "AssignableTo" ReflectliteType.assignableTo) Tryz.func252 (by kernel_rfl) (by kernel_rfl) (by kernel_rfl) (by kernel_rfl)
  have h11 := @run_callFunc_extern Tryz.prog 143 _ (ReflectliteValue.method (ReflectliteValue.valueError "reflectlite.Value.Elem" 0) ReflectliteValue.elem) Tryz.func143 (by kernel_rfl) (by kernel_rfl) (by kernel_rfl) (by kernel_rfl)
  have h12 := @run_callFunc_extern Tryz.prog 144 _ (ReflectliteValue.set) Tryz.func144 (by kernel_rfl) (by kernel_rfl) (by kernel_rfl) (by kernel_rfl)
  have f6 := asValueOf
  have f7 := asType
  have mK := asMKind
  have mE := asMElem
  have mI := asMImplements
  have mA := asMAssignableTo
  have kP := asKindP
  have kE := asKindE
  have eT := asElemT
  have iE := asImplements
  have tO := asTypeOfE
  have aE := asAssignableE
  have vE := asValueOfE
  have hlt := lt_of_cell hg
  have htl := lt_of_cell ht0
  have n8 := asIsNil ⟨w.heap.size, 0, none⟩ t ((w.alloc (.cells #[.pointer (some t)] 126)).alloc (.cells #[.pointer (some ⟨3, 126, none⟩), .pointer (some ⟨w.heap.size, 0, none⟩), .int .u64 150] 174)) (by simp)
  have hg2 : ((w.alloc (.cells #[.pointer (some t)] 126)).alloc (.cells #[.pointer (some ⟨3, 126, none⟩), .pointer (some ⟨w.heap.size, 0, none⟩), .int .u64 150] 174)).cell? ⟨0, 0, none⟩ = some (.iface 216 (.agg #[.pointer (some ⟨3, 40, none⟩)])) := by
    rw [World.cell?_alloc_lt _ _ ⟨0, 0, none⟩ (Nat.lt_of_lt_of_le hlt (by simp)), World.cell?_alloc_lt _ _ ⟨0, 0, none⟩ hlt]; exact hg
  have el := asElemV ⟨w.heap.size, 0, none⟩ t (((w.alloc (.cells #[.pointer (some t)] 126)).alloc (.cells #[.pointer (some ⟨3, 126, none⟩), .pointer (some ⟨w.heap.size, 0, none⟩), .int .u64 150] 174)).alloc (.cells #[.pointer (some ⟨3, 126, none⟩), .pointer (some ⟨w.heap.size, 0, none⟩), .int .u64 150] 174)) (by rw [World.cell?_alloc_lt _ _ ⟨w.heap.size, 0, none⟩ (by simp; omega)]; simp)
  have st := asSet t ⟨w.heap.size + 1 + 1 + 1, 0, none⟩ k old ((((w.alloc (.cells #[.pointer (some t)] 126)).alloc (.cells #[.pointer (some ⟨3, 126, none⟩), .pointer (some ⟨w.heap.size, 0, none⟩), .int .u64 150] 174)).alloc (.cells #[.pointer (some ⟨3, 126, none⟩), .pointer (some ⟨w.heap.size, 0, none⟩), .int .u64 150] 174)).alloc (.cells #[.int .i64 k] 53))
    (by rw [World.cell?_alloc_at _ _ _ _ (by simp)]; rfl)
    (by rw [World.cell?_alloc_lt _ _ t (by simp; omega), World.cell?_alloc_lt _ _ t (by simp; omega), World.cell?_alloc_lt _ _ t (by simp; omega), World.cell?_alloc_lt _ _ t htl]; exact ht0)
    (by rw [World.frozen?_alloc_old _ _ t (by simp; omega), World.frozen?_alloc_old _ _ t (by simp; omega), World.frozen?_alloc_old _ _ t (by simp; omega), World.frozen?_alloc_old _ _ t (Nat.ne_of_lt htl)]; exact hf0)
  go_enter Tryz.func66, Tryz.ntmps66
  go_wp2
  refine wp_loop_rounds 1 ?_
  rw [rounds_succ]
  go_wp2
  go_ret
  exact ⟨rfl, _, ((((Below.refl _ w).alloc (Nat.le_refl _) _).alloc (by simp) _).alloc (by simp; omega) _).alloc (by simp; omega) _, rfl⟩

set_option maxRecDepth 100000 in
set_option maxHeartbeats 1000000 in
theorem as_miss_shape (x : Value) (hx : ∀ (t : Value) (w : World), Calls Tryz.prog 249 #[.agg #[x], t] w fun e w' => e = .returned (.bool false) ∧ Below w.heap.size w w') (t : Addr) (old : Value) (w : World)
    (hg : w.cell? ⟨0, 0, none⟩ = some (.iface 216 (.agg #[.pointer (some ⟨3, 40, none⟩)]))) (ht0 : w.cell? t = some old) :
    Calls Tryz.prog 66 #[.iface 186 (.agg #[x]), .iface 126 (.pointer (some t))] w fun ev w' => ev = .returned (.bool false) ∧ Below w.heap.size w w' := by
  have h6 := @run_callFunc_extern Tryz.prog 107 _ (fun args => ReflectliteValue.unpack (args.getD 0 (.tuple #[]))) Tryz.func107 (by kernel_rfl) (by kernel_rfl) (by kernel_rfl) (by kernel_rfl)
  have h7 := @run_callFunc_extern Tryz.prog 108 _ (ReflectliteValue.methodAny (ReflectliteValue.valueError "reflectlite.Value.Type" 0) (fun t _ _ _ => ReflectliteType.toType t)) Tryz.func108 (by kernel_rfl) (by kernel_rfl) (by kernel_rfl) (by kernel_rfl)
  have h8 := @run_callFunc_extern Tryz.prog 109 _ (ReflectliteValue.method (ReflectliteValue.valueError "reflectlite.Value.IsNil" 0) ReflectliteValue.isNil) Tryz.func109 (by kernel_rfl) (by kernel_rfl) (by kernel_rfl) (by kernel_rfl)
  have h27 := @run_callFunc_extern Tryz.prog 239 _ (ReflectliteType.abiMethod fun t => do pure (.int .u8 (← Rtype.kind t))) Tryz.func239 (by kernel_rfl) (by kernel_rfl) (by kernel_rfl) (by kernel_rfl)
  have h37 := @run_callFunc_extern Tryz.prog 254 _ (ReflectliteType.method ReflectliteType.elem) Tryz.func254 (by kernel_rfl) (by kernel_rfl) (by kernel_rfl) (by kernel_rfl)
  have h38 := @run_callFunc_extern Tryz.prog 255 _ (ReflectliteType.relation "Implements" ReflectliteType.implements_) Tryz.func255 (by kernel_rfl) (by kernel_rfl) (by kernel_rfl) (by kernel_rfl)
  have h10 := @run_callFunc_extern Tryz.prog 142 _ (ReflectliteType.typeOf) Tryz.func142 (by kernel_rfl) (by kernel_rfl) (by kernel_rfl) (by kernel_rfl)
  have h35 := @run_callFunc_extern Tryz.prog 252 _ (ReflectliteType.relation "AssignableTo" ReflectliteType.assignableTo) Tryz.func252 (by kernel_rfl) (by kernel_rfl) (by kernel_rfl) (by kernel_rfl)
  have f6 := asValueOf
  have f7 := asType
  have mK := asMKind
  have mE := asMElem
  have mI := asMImplements
  have mA := asMAssignableTo
  have kP := asKindP
  have kE := asKindE
  have eT := asElemT
  have iE := asImplements
  have tO := asTypeOfS
  have aE := asAssignableS
  have q1 := shAs
  have q2 := shNoU
  have q3 := shNoUs
  have q4 := shAsM
  have HX := Lib.hid hx
  clear hx
  have hlt := lt_of_cell hg
  have htl := lt_of_cell ht0
  have n8 := asIsNil ⟨w.heap.size, 0, none⟩ t ((w.alloc (.cells #[.pointer (some t)] 126)).alloc (.cells #[.pointer (some ⟨3, 126, none⟩), .pointer (some ⟨w.heap.size, 0, none⟩), .int .u64 150] 174)) (by simp)
  have hg2 : ((w.alloc (.cells #[.pointer (some t)] 126)).alloc (.cells #[.pointer (some ⟨3, 126, none⟩), .pointer (some ⟨w.heap.size, 0, none⟩), .int .u64 150] 174)).cell? ⟨0, 0, none⟩ = some (.iface 216 (.agg #[.pointer (some ⟨3, 40, none⟩)])) := by
    rw [World.cell?_alloc_lt _ _ ⟨0, 0, none⟩ (Nat.lt_of_lt_of_le hlt (by simp)), World.cell?_alloc_lt _ _ ⟨0, 0, none⟩ hlt]; exact hg
  go_enter Tryz.func66, Tryz.ntmps66
  go_wp2
  refine wp_loop_rounds 1 ?_
  rw [rounds_succ]
  go_wp2_with fail
  refine (HX.out _ _).mono ?_
  rintro e w' ⟨rfl, hb⟩
  go_wp2
  refine bodyPost_ret (v := .bool false) ?_ rfl ?_
  · simp [results, Tryz.results66, go_sem]
  exact ⟨rfl, ((((Below.refl _ w).alloc (Nat.le_refl _) _).alloc (by simp) _).alloc (by simp; omega) _).trans (hb.mono (by simp; omega))⟩
end Go.Proofs.YtaalecdokidmnaaGreatDoor

namespace Go.Proofs.YtaalecdokidmnaaGreatDoor
open Go Go.RowKit Go.Extern.Stop Go.Stop Go.Extern

end Go.Proofs.YtaalecdokidmnaaGreatDoor

namespace Go.Proofs.YtaalecdokidmnaaGreatDoor
open Go Go.RowKit

theorem rec_as (w : World) :
    CallsD Tryz.prog 65 #[] .returning w fun e u' w' => e = .returned (.tuple #[]) ∧ u' = .returning ∧ w' = w := by
  refine callsD_of_wpS Tryz.func65 rfl fun c₀ cs hu => ?_
  apply wpS_region
  cases c₀
  simp_all [wpOpsS, go_sem, recoverD, bodyPostS, results, Tryz.results65, Tryz.ntmps65]
set_option maxRecDepth 100000 in
theorem asErrno_errno (k : Int) (w : World) (hg : TypeLaid w) :
    Calls Tryz.prog 37 #[.iface 53 (.int .i64 k)] w fun e w' => e = .returned (.tuple #[.int .i64 k, .bool true]) ∧ Below w.heap.size w w' := by
  have hA : Below w.heap.size w (w.alloc (.cells #[.int .i64 0] 53)) := (Below.refl _ w).alloc (Nat.le_refl _) _
  have HG := Lib.hid (hg.below hA hg.size)
  clear hg
  go_enter_defers Tryz.func37, Tryz.ntmps37
  go_wp2_with fail
  refine (alone_errno k _).mono ?_
  rintro e w' ⟨rfl, rfl⟩
  go_wp2_with fail
  refine (as_hit k ⟨w.heap.size, 0, none⟩ (.int .i64 0) _ HG.out (by simp) (by simp)).mono ?_
  rintro e w' ⟨rfl, w1, hb, rfl⟩
  have hc1 : w1.cell? ⟨w.heap.size, 0, none⟩ = some (.int .i64 0) := (hb.cell (p := ⟨w.heap.size, 0, none⟩) (by simp)).trans (by simp)
  have hf1 : w1.frozen? ⟨w.heap.size, 0, none⟩ = false := (hb.frozen (p := ⟨w.heap.size, 0, none⟩) (by simp)).trans (by simp)
  go_wp2
  refine leaves_cons (f := 65) (args := #[]) (by simp) (by simp [go_sem]) ?_
  refine (rec_as _).mono ?_
  rintro e u' w'' ⟨rfl, rfl, rfl⟩
  have hB := (hA.trans (hb.mono (by simp))).setCell (p := ⟨w.heap.size, 0, none⟩) (Nat.le_refl _) (.int .i64 k)
  simp [Leaves, settle, results, Tryz.results37, go_sem, hc1, hB.setCell]

set_option maxRecDepth 100000 in
theorem asErrno_shell (y x : Value) (hal : ∀ w, Calls Tryz.prog 67 #[y] w fun e w' => e = .returned (.iface 186 (.agg #[x])) ∧ w = w')
    (hx : ∀ (t : Value) (w : World), Calls Tryz.prog 249 #[.agg #[x], t] w fun e w' => e = .returned (.bool false) ∧ Below w.heap.size w w') (w : World) (hg : TypeLaid w) :
    Calls Tryz.prog 37 #[y] w fun e w' => e = .returned (.tuple #[.int .i64 0, .bool false]) ∧ Below w.heap.size w w' := by
  have HA := Lib.hid hal
  have HX := Lib.hid hx
  clear hal hx
  have hA : Below w.heap.size w (w.alloc (.cells #[.int .i64 0] 53)) := (Below.refl _ w).alloc (Nat.le_refl _) _
  have HG := Lib.hid (hg.below hA hg.size)
  clear hg
  go_enter_defers Tryz.func37, Tryz.ntmps37
  go_wp2_with fail
  refine (HA.out _).mono ?_
  rintro e w' ⟨rfl, rfl⟩
  go_wp2_with fail
  refine (as_miss_shape x HX.out ⟨w.heap.size, 0, none⟩ (.int .i64 0) _ HG.out (by simp)).mono ?_
  rintro e w1 ⟨rfl, hb⟩
  have hc1 : w1.cell? ⟨w.heap.size, 0, none⟩ = some (.int .i64 0) := (hb.cell (p := ⟨w.heap.size, 0, none⟩) (by simp)).trans (by simp)
  have hf1 : w1.frozen? ⟨w.heap.size, 0, none⟩ = false := (hb.frozen (p := ⟨w.heap.size, 0, none⟩) (by simp)).trans (by simp)
  go_wp2
  refine leaves_cons (f := 65) (args := #[]) (by simp) (by simp [go_sem]) ?_
  refine (rec_as _).mono ?_
  rintro e u' w'' ⟨rfl, rfl, rfl⟩
  have hB := (hA.trans (hb.mono (by simp))).setCell (p := ⟨w.heap.size, 0, none⟩) (Nat.le_refl _) (.int .i64 0)
  simp [Leaves, settle, results, Tryz.results37, go_sem, hc1, hB]
end Go.Proofs.YtaalecdokidmnaaGreatDoor

/-! XFault -/
namespace Go.Proofs.YtaalecdokidmnaaGreatDoor
open Go Go.RowKit

attribute [local go_sem] Oper.semAt_some

theorem faultObj_cell {W : World} {b : Nat} {p : Int} {s : ByteArray} {u : Value} (h : W.heap[b]? = some (faultObj p s u)) :
    W.cell? ⟨b, 0, none⟩ = some (.int .i64 p) ∧ W.cell? ⟨b, 1, none⟩ = some (.string s) ∧ W.cell? ⟨b, 2, none⟩ = some u := by
  simp [World.cell?, h, faultObj]

/-- inner, at the head of a row: what is left of the row. -/
theorem inner_chain {n : Nat} {x : El} {rest : List El} (w : World) (h : Chain w n x.val (x :: rest)) :
    Calls Tryz.prog 64 #[x.val] w fun e w' => ∃ u, e = .returned u ∧ Chain w n u rest ∧ (∀ b p s, x = .fault b p s → Chain w b u rest) ∧ Below w.heap.size w w' := by
  cases x with
  | num k => exact (inner_errno k w).mono fun e w' ⟨he, hw⟩ => ⟨_, he, (by rw [h.2]; rfl), fun _ _ _ e => (by cases e), (by rw [← hw]; exact Below.refl _ _)⟩
  | fault b p s =>
    obtain ⟨_, h2, u, h5, h6⟩ := h
    exact (inner_fault b u w (faultObj_cell h5).2.2).mono fun e w' ⟨he, hw⟩ => ⟨_, he, h6.mono (by omega), fun _ _ _ e => (by cases e; exact h6), hw⟩
set_option maxRecDepth 100000 in
theorem row_make (t : TypeId) (u : Value) (w : World) :
    Calls Tryz.prog 36 #[.iface t u] w fun e w' => e = .returned (.func (.func 63) #[] #[.pointer (some ⟨w.heap.size, 0, none⟩)]) ∧ w.alloc (.cells #[.iface t u] 40) = w' := by
  have hmf : ∀ (fn : Fn) (first cap : Array Value) (w : World), (Instr.makeFunc fn first cap).run Tryz.prog w = .ok (.func fn first cap) w := fun _ _ _ _ => rfl
  go_enter Tryz.func36, Tryz.ntmps36
  go_wp2
  go_ret
  exact ⟨rfl, rfl⟩
set_option maxRecDepth 100000 in
theorem row_make_nil (w : World) :
    Calls Tryz.prog 36 #[.nilIface] w fun e w' => e = .returned (.func (.func 63) #[] #[.pointer (some ⟨w.heap.size, 0, none⟩)]) ∧ w.alloc (.cells #[.nilIface] 40) = w' := by
  have hmf : ∀ (fn : Fn) (first cap : Array Value) (w : World), (Instr.makeFunc fn first cap).run Tryz.prog w = .ok (.func fn first cap) w := fun _ _ _ _ => rfl
  go_enter Tryz.func36, Tryz.ntmps36
  go_wp2
  go_ret
  exact ⟨rfl, rfl⟩

theorem faultSize : (Tryz.prog.info? 93).map (·.size) = some 3 := by kernel_rfl
theorem fault_eq_mark {b bm : Nat} {p q : Int} {s t : ByteArray} {u v : Value} (w : World) (hne : b ≠ bm) (hb : w.heap[b]? = some (faultObj p s u)) (hm : w.heap[bm]? = some (faultObj q t v)) :
    (binOp .eql 91 (.pointer (some ⟨b, 0, none⟩)) (.pointer (some ⟨bm, 0, none⟩))).run Tryz.prog w = .ok (.bool false) w := by
  obtain ⟨j, hj, hjs⟩ := Option.map_eq_some_iff.1 faultSize
  exact run_eql_ptr_other w Tryz.underlying91 hj (by rw [hjs]; decide) (fun e => hne (by cases e; rfl)) hb hm

set_option maxRecDepth 100000 in
set_option maxHeartbeats 2000000 in
theorem row_in (n l n₀ Bn hi : Nat) (fr : Obj → Bool) (v : Value) (xs : List El) (hlen : xs.length < 1048576) (J Jx : List El → World → Prop)
    (hJ : OwnFrom hi J)
    (hY : ∀ pre x W, J pre W → pre ++ [x] <+: xs → YieldAt Fence.wide (n - 1) Tryz.prog l #[El.val x] W fun e W' =>
      (e = .returned (.bool true) ∧ J (pre ++ [x]) W' ∧ Keep n₀ hi fr W W') ∨ (e = .returned (.bool false) ∧ Jx (pre ++ [x]) W' ∧ Keep n₀ hi fr W W'))
    (W : World) (hn₀ : n₀ ≤ W.heap.size) (hBn : W.cell? ⟨Bn, 0, none⟩ = some v) (hL : Chain W n₀ v xs) (h0 : J [] W) :
    CallsIn Fence.wide n Tryz.prog 63 #[.func (.yield l) #[] #[], .pointer (some ⟨Bn, 0, none⟩)] W fun e W' => (∃ v, e = .returned v) ∧
      ((∃ ys, ys = xs ∧ J ys W') ∨ (∃ pre, pre <+: xs ∧ Jx pre W')) := by
  refine callsIn_of_wp Tryz.func63 rfl trivial ?_ rfl
  simp only [Tryz.ntmps63, List.size_toArray, List.length_cons, List.length_nil, Nat.reduceAdd, Nat.reduceSub, Array.replicate_succ, Array.replicate_zero, List.push_toArray, List.append_toArray, List.nil_append, List.cons_append]
  gi_wp2
  gi_loopw [3, 4, 5, 6] (fun m t o x wr => ∃ (pre rest : List El) (ma : Option Addr) (a b bd : Nat), m = .pointer ma ∧ t = .int .i64 a ∧ o = .int .i64 b ∧ xs = pre ++ rest ∧ a + b = pre.length ∧ bd ≤ n₀ ∧ MarkAt wr n₀ bd ma ∧ Chain wr bd x rest ∧ n₀ ≤ wr.heap.size ∧ J pre wr)
    (fun _ t o _ _ => xs.length - (intOf t + intOf o).toNat)
  case atStart => exact ⟨[], xs, none, 0, 0, n₀, rfl, rfl, rfl, rfl, rfl, Nat.le_refl _, .inl rfl, hL, hn₀, h0⟩
  case round =>
    obtain ⟨pre, rest, ma, a, b, bd, rfl, rfl, rfl, hx, hab, hbd, hma, hch, hsz, hJs⟩ := hrel
    cases rest with
    | nil =>
      obtain rfl := hch
      have hp : pre = xs := by simp [hx]
      gi_wp2
      go_end0
      exact ⟨⟨_, rfl⟩, .inl ⟨pre, hp, hJs⟩⟩
    | cons x rest =>
      have hpl : pre.length < xs.length := by rw [hx]; simp
      obtain ⟨fn, tmps, assign, body, hy, hR⟩ := hY pre x wr hJs ⟨rest, by simp [hx]⟩
      have hbl : b < 1048576 := by omega
      have hb2 : (b : Int) < 1048576 := by omega
      cases x with
      | num k =>
        obtain ⟨rfl, hr0⟩ := hch
        have ta := erNoFault
        simp only [El.val] at hy
        gi_wp2
        refine ⟨fun h => (by simp [Fence.wide] at h), ?_⟩
        refine hR.mono ?_
        rintro e W3 (⟨rfl, hJ3, hk3⟩ | ⟨rfl, hJx3, hk3⟩)
        · have hch3 : Chain W3 bd (El.num k).val (El.num k :: rest) := ⟨rfl, hr0⟩
          gi_wp2_with fail
          refine ⟨trivial, fun h => (by simp [Fence.wide] at h), (callsIn_wide.2 (inner_chain W3 hch3)).mono ?_⟩
          rintro e W4 ⟨u, rfl, hch4, _, hb4⟩
          have hJ4 := hJ _ _ _ none hJ3 (grown_of_below hb4) (fun r e => (by cases e))
          have hs3 : n₀ ≤ W3.heap.size := Nat.le_trans hsz hk3.size
          have hs4 : n₀ ≤ W4.heap.size := Nat.le_trans hs3 hb4.size
          have hm4 : MarkAt W4 n₀ bd ma := hma.same (fun k hk => (hb4.block k (by omega)).trans (hk3.blk' k (by omega) hk))
          have hc4 := hch4.below hb4 (by omega)
          clear hch3
          gi_wp2
          go_roundw
          case rel => exact ⟨pre ++ [.num k], rest, ma, a, b + 1, bd, rfl, rfl, by go_num, by simp [hx], by simp; omega, hbd, hm4, hc4, hs4, hJ4⟩
          case measure => simp [intOf]; omega
        · gi_wp2
          refine bodyPost_ret (results_none rfl _ _ _) rfl ?_
          exact ⟨⟨_, rfl⟩, .inr ⟨pre ++ [.num k], ⟨rest, by simp [hx]⟩, hJx3⟩⟩
      | fault fb p s =>
        obtain ⟨rfl, hfb, u, hc2, hr0⟩ := hch
        have ta := faFault
        simp only [El.val] at hy
        have ha1 : (0 : Int) ≤ (a : Int) + 1 := by omega
        have ha2 : (a : Int) + 1 ≤ 1048577 := by omega
        obtain ⟨z, hz1⟩ : ∃ z, bits .and .i64 ((a : Int) + 1) (a : Int) = z := ⟨_, rfl⟩
        have hz2 : bits .and .i64 ((a : Int) + 1) ((a : Int) + 1 - 1) = z := by rw [← hz1]; congr 1; omega
        obtain ⟨zb, hzb⟩ : ∃ zb, (z == 0) = zb := ⟨_, rfl⟩
        have HC := Lib.hid hc2
        clear hc2
        rcases hma with rfl | ⟨bm, q, t, v', rfl, hbm, hbn, hbo⟩
        · cases zb
          · gi_wp2
            refine ⟨fun h => (by simp [Fence.wide] at h), ?_⟩
            refine hR.mono ?_
            rintro e W3 (⟨rfl, hJ3, hk3⟩ | ⟨rfl, hJx3, hk3⟩)
            · have hsame3 : ∀ k, k < n₀ → W3.heap[k]? = wr.heap[k]? := fun k hk => hk3.blk' k (by omega) hk
              have hch3 : Chain W3 bd (El.fault fb p s).val (El.fault fb p s :: rest) := ⟨rfl, hfb, u, (hsame3 fb (by omega)).trans HC.out, hr0.same (fun k hk => hsame3 k (by omega))⟩
              gi_wp2_with fail
              refine ⟨trivial, fun h => (by simp [Fence.wide] at h), (callsIn_wide.2 (inner_chain W3 hch3)).mono ?_⟩
              rintro e W4 ⟨u4, rfl, hch4, hch5, hb4⟩
              have hJ4 := hJ _ _ _ none hJ3 (grown_of_below hb4) (fun r e => (by cases e))
              have hs3 : n₀ ≤ W3.heap.size := Nat.le_trans hsz hk3.size
              have hs4 : n₀ ≤ W4.heap.size := Nat.le_trans hs3 hb4.size
              have hm4 : MarkAt W4 n₀ fb (none) := MarkAt.same (.inl rfl) (fun k hk => (hb4.block k (by omega)).trans (hsame3 k hk))
              have hc4 : Chain W4 fb u4 rest := (hch5 _ _ _ rfl).below hb4 (by omega)
              clear hch3 hsame3
              gi_wp2
              go_roundw
              case rel => exact ⟨pre ++ [El.fault fb p s], rest, _, a + 1, b, fb, rfl, by go_num, by go_num, by simp [hx], by simp; omega, by omega, hm4, hc4, hs4, hJ4⟩
              case measure => simp [intOf]; omega
            · gi_wp2
              refine bodyPost_ret (results_none rfl _ _ _) rfl ?_
              exact ⟨⟨_, rfl⟩, .inr ⟨pre ++ [El.fault fb p s], ⟨rest, by simp [hx]⟩, hJx3⟩⟩
          · gi_wp2
            refine ⟨fun h => (by simp [Fence.wide] at h), ?_⟩
            refine hR.mono ?_
            rintro e W3 (⟨rfl, hJ3, hk3⟩ | ⟨rfl, hJx3, hk3⟩)
            · have hsame3 : ∀ k, k < n₀ → W3.heap[k]? = wr.heap[k]? := fun k hk => hk3.blk' k (by omega) hk
              have hch3 : Chain W3 bd (El.fault fb p s).val (El.fault fb p s :: rest) := ⟨rfl, hfb, u, (hsame3 fb (by omega)).trans HC.out, hr0.same (fun k hk => hsame3 k (by omega))⟩
              gi_wp2_with fail
              refine ⟨trivial, fun h => (by simp [Fence.wide] at h), (callsIn_wide.2 (inner_chain W3 hch3)).mono ?_⟩
              rintro e W4 ⟨u4, rfl, hch4, hch5, hb4⟩
              have hJ4 := hJ _ _ _ none hJ3 (grown_of_below hb4) (fun r e => (by cases e))
              have hs3 : n₀ ≤ W3.heap.size := Nat.le_trans hsz hk3.size
              have hs4 : n₀ ≤ W4.heap.size := Nat.le_trans hs3 hb4.size
              have hm4 : MarkAt W4 n₀ fb (some ⟨fb, 0, none⟩) := MarkAt.same (.inr ⟨fb, p, s, u, rfl, Nat.le_refl _, by omega, HC.out⟩) (fun k hk => (hb4.block k (by omega)).trans (hsame3 k hk))
              have hc4 : Chain W4 fb u4 rest := (hch5 _ _ _ rfl).below hb4 (by omega)
              clear hch3 hsame3
              gi_wp2
              go_roundw
              case rel => exact ⟨pre ++ [El.fault fb p s], rest, _, a + 1, b, fb, rfl, by go_num, by go_num, by simp [hx], by simp; omega, by omega, hm4, hc4, hs4, hJ4⟩
              case measure => simp [intOf]; omega
            · gi_wp2
              refine bodyPost_ret (results_none rfl _ _ _) rfl ?_
              exact ⟨⟨_, rfl⟩, .inr ⟨pre ++ [El.fault fb p s], ⟨rest, by simp [hx]⟩, hJx3⟩⟩
        · have heq := fault_eq_mark wr (by omega) HC.out hbo
          have HM := Lib.hid hbo
          clear hbo
          cases zb
          · gi_wp2
            refine ⟨fun h => (by simp [Fence.wide] at h), ?_⟩
            refine hR.mono ?_
            rintro e W3 (⟨rfl, hJ3, hk3⟩ | ⟨rfl, hJx3, hk3⟩)
            · have hsame3 : ∀ k, k < n₀ → W3.heap[k]? = wr.heap[k]? := fun k hk => hk3.blk' k (by omega) hk
              have hch3 : Chain W3 bd (El.fault fb p s).val (El.fault fb p s :: rest) := ⟨rfl, hfb, u, (hsame3 fb (by omega)).trans HC.out, hr0.same (fun k hk => hsame3 k (by omega))⟩
              gi_wp2_with fail
              refine ⟨trivial, fun h => (by simp [Fence.wide] at h), (callsIn_wide.2 (inner_chain W3 hch3)).mono ?_⟩
              rintro e W4 ⟨u4, rfl, hch4, hch5, hb4⟩
              have hJ4 := hJ _ _ _ none hJ3 (grown_of_below hb4) (fun r e => (by cases e))
              have hs3 : n₀ ≤ W3.heap.size := Nat.le_trans hsz hk3.size
              have hs4 : n₀ ≤ W4.heap.size := Nat.le_trans hs3 hb4.size
              have hm4 : MarkAt W4 n₀ fb (some ⟨bm, 0, none⟩) := MarkAt.same (.inr ⟨bm, q, t, v', rfl, by omega, hbn, HM.out⟩) (fun k hk => (hb4.block k (by omega)).trans (hsame3 k hk))
              have hc4 : Chain W4 fb u4 rest := (hch5 _ _ _ rfl).below hb4 (by omega)
              clear hch3 hsame3
              gi_wp2
              go_roundw
              case rel => exact ⟨pre ++ [El.fault fb p s], rest, _, a + 1, b, fb, rfl, by go_num, by go_num, by simp [hx], by simp; omega, by omega, hm4, hc4, hs4, hJ4⟩
              case measure => simp [intOf]; omega
            · gi_wp2
              refine bodyPost_ret (results_none rfl _ _ _) rfl ?_
              exact ⟨⟨_, rfl⟩, .inr ⟨pre ++ [El.fault fb p s], ⟨rest, by simp [hx]⟩, hJx3⟩⟩
          · gi_wp2
            refine ⟨fun h => (by simp [Fence.wide] at h), ?_⟩
            refine hR.mono ?_
            rintro e W3 (⟨rfl, hJ3, hk3⟩ | ⟨rfl, hJx3, hk3⟩)
            · have hsame3 : ∀ k, k < n₀ → W3.heap[k]? = wr.heap[k]? := fun k hk => hk3.blk' k (by omega) hk
              have hch3 : Chain W3 bd (El.fault fb p s).val (El.fault fb p s :: rest) := ⟨rfl, hfb, u, (hsame3 fb (by omega)).trans HC.out, hr0.same (fun k hk => hsame3 k (by omega))⟩
              gi_wp2_with fail
              refine ⟨trivial, fun h => (by simp [Fence.wide] at h), (callsIn_wide.2 (inner_chain W3 hch3)).mono ?_⟩
              rintro e W4 ⟨u4, rfl, hch4, hch5, hb4⟩
              have hJ4 := hJ _ _ _ none hJ3 (grown_of_below hb4) (fun r e => (by cases e))
              have hs3 : n₀ ≤ W3.heap.size := Nat.le_trans hsz hk3.size
              have hs4 : n₀ ≤ W4.heap.size := Nat.le_trans hs3 hb4.size
              have hm4 : MarkAt W4 n₀ fb (some ⟨fb, 0, none⟩) := MarkAt.same (.inr ⟨fb, p, s, u, rfl, Nat.le_refl _, by omega, HC.out⟩) (fun k hk => (hb4.block k (by omega)).trans (hsame3 k hk))
              have hc4 : Chain W4 fb u4 rest := (hch5 _ _ _ rfl).below hb4 (by omega)
              clear hch3 hsame3
              gi_wp2
              go_roundw
              case rel => exact ⟨pre ++ [El.fault fb p s], rest, _, a + 1, b, fb, rfl, by go_num, by go_num, by simp [hx], by simp; omega, by omega, hm4, hc4, hs4, hJ4⟩
              case measure => simp [intOf]; omega
            · gi_wp2
              refine bodyPost_ret (results_none rfl _ _ _) rfl ?_
              exact ⟨⟨_, rfl⟩, .inr ⟨pre ++ [El.fault fb p s], ⟨rest, by simp [hx]⟩, hJx3⟩⟩
theorem row_seq {fr : Obj → Bool} {n₀ Bn : Nat} {v : Value} {xs : List El} {w : World} (hlen : xs.length < 1048576) (hn₀ : n₀ ≤ w.heap.size) (hBn : w.cell? ⟨Bn, 0, none⟩ = some v) (hL : Chain w n₀ v xs) :
    SeqZ Tryz.prog 63 #[.pointer (some ⟨Bn, 0, none⟩)] (fun x : El => #[x.val]) n₀ fr (fun ys => ys = xs) (fun pre => pre <+: xs) w := fun n l J Jx W hW hJ _ hY h0 =>
  row_in n l n₀ Bn W.heap.size fr v xs hlen J Jx hJ hY W (Nat.le_trans hn₀ hW.size) ((hW.cell (p := ⟨Bn, 0, none⟩) (lt_of_cell hBn)).trans hBn) (hL.below hW hn₀) h0

/-- The faults of a row: block, place, words. -/
def fsOf : List El → List (Nat × Int × ByteArray)
  | [] => []
  | .fault b p s :: rest => (b, p, s) :: fsOf rest
  | .num _ :: rest => fsOf rest
theorem fsOf_append (a b : List El) : fsOf (a ++ b) = fsOf a ++ fsOf b := by
  induction a with
  | nil => rfl
  | cons x r ih => cases x <;> simp [fsOf, ih]
theorem fsOf_prefix {a b : List El} (h : a <+: b) : fsOf a <+: fsOf b := by
  obtain ⟨r, rfl⟩ := h
  exact ⟨fsOf r, (fsOf_append a r).symm⟩

set_option maxRecDepth 100000 in
theorem faults_make (t : TypeId) (u : Value) (w : World) :
    Calls Tryz.prog 38 #[.iface t u] w fun e w' => e = .returned (.func (.func 68) #[] #[.pointer (some ⟨w.heap.size, 0, none⟩)]) ∧ w.alloc (.cells #[.iface t u] 40) = w' := by
  have hmf : ∀ (fn : Fn) (first cap : Array Value) (w : World), (Instr.makeFunc fn first cap).run Tryz.prog w = .ok (.func fn first cap) w := fun _ _ _ _ => rfl
  go_enter Tryz.func38, Tryz.ntmps38
  go_wp2
  go_ret
  exact ⟨rfl, rfl⟩
set_option maxRecDepth 100000 in
theorem faults_make_nil (w : World) :
    Calls Tryz.prog 38 #[.nilIface] w fun e w' => e = .returned (.func (.func 68) #[] #[.pointer (some ⟨w.heap.size, 0, none⟩)]) ∧ w.alloc (.cells #[.nilIface] 40) = w' := by
  have hmf : ∀ (fn : Fn) (first cap : Array Value) (w : World), (Instr.makeFunc fn first cap).run Tryz.prog w = .ok (.func fn first cap) w := fun _ _ _ _ => rfl
  go_enter Tryz.func38, Tryz.ntmps38
  go_wp2
  go_ret
  exact ⟨rfl, rfl⟩
end Go.Proofs.YtaalecdokidmnaaGreatDoor

namespace Go.Proofs.YtaalecdokidmnaaGreatDoor
open Go Go.RowKit

attribute [local go_sem] Oper.semAt_some

/-- What the inner loop keeps between two rounds. -/
def FaI (J : List (Nat × Int × ByteArray) → World → Prop) (B l : Nat) (pre : List El) (W : World) : Prop := J (fsOf pre) W ∧ W.heap[B]? = some (.cells #[.func (.yield l) #[] #[]] 127 (0, 0))
def FaX (Jx : List (Nat × Int × ByteArray) → World → Prop) (c : Code) (pre : List El) (W : World) : Prop := c = .ret ∧ Jx (fsOf pre) W

set_option maxRecDepth 100000 in
set_option maxHeartbeats 2000000 in
theorem faults_in (n l n₀ Bn hi : Nat) (fr : Obj → Bool) (hfr : ∀ o, fr o = true → o.isCells = true) (hfr2 : ∀ cs mk, fr (.cells cs 127 mk) = false) (v : Value) (xs : List El) (hlen : xs.length < 1048576) (J Jx : List (Nat × Int × ByteArray) → World → Prop)
    (hJ : OwnFrom hi J) (hJx : OwnFrom hi Jx)
    (hY : ∀ pre x W, J pre W → pre ++ [x] <+: fsOf xs → YieldAt Fence.wide (n - 1) Tryz.prog l #[.pointer (some ⟨x.1, 0, none⟩)] W fun e W' =>
      (e = .returned (.bool true) ∧ J (pre ++ [x]) W' ∧ Keep n₀ hi fr W W') ∨ (e = .returned (.bool false) ∧ Jx (pre ++ [x]) W' ∧ Keep n₀ hi fr W W'))
    (W : World) (hhi : hi = W.heap.size) (hn₀ : n₀ ≤ W.heap.size) (hBn : W.cell? ⟨Bn, 0, none⟩ = some v) (hL : Chain W n₀ v xs) (h0 : J [] W) :
    CallsIn Fence.wide n Tryz.prog 68 #[.func (.yield l) #[] #[], .pointer (some ⟨Bn, 0, none⟩)] W fun e W' => (∃ v, e = .returned v) ∧
      ((∃ ys, ys = fsOf xs ∧ J ys W') ∨ (∃ pre, pre <+: fsOf xs ∧ Jx pre W')) := by
  refine callsIn_of_wp_marks Tryz.func68 rfl trivial ?_ rfl
  simp only [Tryz.ntmps68, List.size_toArray, List.length_cons, List.length_nil, Nat.reduceAdd, Nat.reduceSub, Array.replicate_succ, Array.replicate_zero, List.push_toArray, List.append_toArray, List.nil_append, List.cons_append]
  have hv : v = .nilIface ∨ ∃ t u, v = .iface t u := by
    cases xs with
    | nil => exact .inl hL
    | cons x r => cases x <;> exact .inr ⟨_, _, hL.head⟩
  have hBl := lt_of_cell hBn
  have hrow : ∀ w, Calls Tryz.prog 36 #[v] w fun e w' => e = .returned (.func (.func 63) #[] #[.pointer (some ⟨w.heap.size, 0, none⟩)]) ∧ w.alloc (.cells #[v] 40) = w' := by
    rcases hv with rfl | ⟨t, u, rfl⟩
    · exact row_make_nil
    · exact row_make t u
  have HR := Lib.hid hrow
  clear hrow
  gi_wp2_with fail
  refine ⟨trivial, fun h => (by simp [Fence.wide] at h), (callsIn_wide.2 (HR.out _)).mono ?_⟩
  rintro e w' ⟨rfl, rfl⟩
  gi_wp2_with fail
  have hbox : ((W.alloc (.cells #[.func (.yield l) #[] #[]] 127)).alloc (.cells #[v] 40)).heap[W.heap.size]? = some (.cells #[.func (.yield l) #[] #[]] 127 (0, 0)) := by
    rw [Below.heap_alloc _ _ _ (by simp)]; show (W.heap.push _)[W.heap.size]? = _; simp
  have hbox2 : ((W.alloc (.cells #[.func (.yield l) #[] #[]] 127)).alloc (.cells #[v] 40)).cell? ⟨W.heap.size + 1, 0, none⟩ = some v := by
    rw [World.cell?_alloc_at _ _ _ _ (by simp)]; rfl
  have hb2 : Below W.heap.size W ((W.alloc (.cells #[.func (.yield l) #[] #[]] 127)).alloc (.cells #[v] 40)) := ((Below.refl _ W).alloc (Nat.le_refl _) _).alloc (by simp) _
  have hs2 : ((W.alloc (.cells #[.func (.yield l) #[] #[]] 127)).alloc (.cells #[v] 40)).heap.size = W.heap.size + 2 := by simp
  have hJ2 := hJ _ _ _ none h0 (grown_of_below hb2) (fun r e => (by cases e))
  generalize ((W.alloc (.cells #[.func (.yield l) #[] #[]] 127)).alloc (.cells #[v] 40)) = W2 at *
  have hL2 : Chain W2 n₀ v xs := hL.below hb2 hn₀
  have hseq := row_seq (fr := fr) (w := W2) hlen (by omega) hbox2 hL2
  have hIown : OwnFrom W2.heap.size (FaI J W.heap.size l) := fun s A B row hs hg hr =>
    ⟨hJ _ A B row hs.1 hg (fun r e => ⟨by have := (hr r e).1; omega, (hr r e).2⟩), ownFrom_block (β := Unit) (by omega) () A B row hs.2 hg hr⟩
  have hXown : ∀ c, OwnFrom W2.heap.size (FaX Jx c) := fun c s A B row hs hg hr =>
    ⟨hs.1, hJx _ A B row hs.2 hg (fun r e => ⟨by have := (hr r e).1; omega, (hr r e).2⟩)⟩
  refine rangeZ (gf := 63) (lb := #[.pointer (some ⟨W.heap.size + 1, 0, none⟩)]) rfl (Go.Proofs.enters_of Tryz.func63 (by kernel_rfl) rfl) hseq hfr (by omega) (fun _ => rfl)
    (FaI J W.heap.size l) (FaX Jx) hIown hXown ⟨hJ2, hbox⟩
    (fun x => { tmps := #[.func (.yield l) #[] #[], .pointer (some ⟨Bn, 0, none⟩), .pointer (some ⟨W.heap.size, 0, none⟩), x.val, undef, undef, v,
          .func (.func 63) #[] #[.pointer (some ⟨W.heap.size + 1, 0, none⟩)], x.val, undef, undef, undef, undef, undef, undef, undef, undef, undef, undef, undef, undef, undef, undef, undef, undef], defers := [] })
    ?assign ?body ?done ?stop
  case assign =>
    intro l' x W3 K hK
    gi_wp2
    exact hK
  case body =>
    rintro l' pre x W3 ⟨hj3, hb3⟩ hpre hsz3
    have hc3 : W3.cell? ⟨W.heap.size, 0, none⟩ = some (.func (.yield l) #[] #[]) := by simp [World.cell?, hb3]
    have HB3 := Lib.hid hb3
    clear hb3
    cases x with
    | num k =>
      have ta := erNoFault
      simp only [El.val]
      gi_wp2
      refine ⟨fun _ h => (by cases h), ?_⟩
      gi_wp2
      exact ⟨Keep.refl _ _ _ _, by simpa [FaI, fsOf_append, fsOf] using ⟨hj3, HB3.out⟩⟩
    | fault b p s =>
      have ta := faFault
      have hfp : fsOf pre ++ [(b, p, s)] <+: fsOf xs := by have := fsOf_prefix hpre; rwa [fsOf_append] at this
      have hfe : fsOf (pre ++ [.fault b p s]) = fsOf pre ++ [(b, p, s)] := by rw [fsOf_append]; rfl
      obtain ⟨fn, tmps, assign, body, hy, hR⟩ := yield_any (k := n - 1 - 1 - 1) (hY (fsOf pre) (b, p, s) W3 hj3 hfp)
      dsimp only at hy
      have HE := Lib.hid hfe
      clear hfe
      simp only [El.val]
      gi_wp2
      refine ⟨fun h => (by simp [Fence.wide] at h), ?_⟩
      refine RoundIn.mono hR ?_
      rintro e W4 (⟨rfl, hJ4, hk4⟩ | ⟨rfl, hJx4, hk4⟩)
      · gi_wp2
        exact ⟨hk4.mono (Nat.le_refl _) (by omega), by rw [HE.out]; exact hJ4, hk4.blk _ _ HB3.out (.inr ⟨by omega, hfr2 _ _⟩)⟩
      · gi_wp2
        exact ⟨hk4.mono (Nat.le_refl _) (by omega), rfl, by rw [HE.out]; exact hJx4⟩
  case done =>
    rintro D ys W3 hD rfl ⟨hj3, hb3⟩ hK
    gi_wp2
    refine ⟨by simp, .inl ⟨_, _, rfl, run_takeDeferred hK, ?_⟩⟩
    refine ⟨_, results_none rfl _ _ _, ⟨_, rfl⟩, .inl ⟨_, rfl, hJ.putObj _ hj3 (by omega) hK rfl⟩⟩
  case stop =>
    rintro D c pre W3 hD hpre ⟨rfl, hj3⟩ hK
    gi_wp2
    refine ⟨by simp, .inl ⟨_, _, rfl, run_takeDeferred hK, ?_⟩⟩
    refine ⟨_, results_none rfl _ _ _, ⟨_, rfl⟩, .inr ⟨_, fsOf_prefix hpre, hJx.putObj _ hj3 (by omega) hK rfl⟩⟩

theorem faults_seq {fr : Obj → Bool} (hfr : ∀ o, fr o = true → o.isCells = true) (hfr2 : ∀ cs mk, fr (.cells cs 127 mk) = false) {n₀ Bn : Nat} {v : Value} {xs : List El} {w : World} (hlen : xs.length < 1048576) (hn₀ : n₀ ≤ w.heap.size) (hBn : w.cell? ⟨Bn, 0, none⟩ = some v) (hL : Chain w n₀ v xs) :
    SeqZ Tryz.prog 68 #[.pointer (some ⟨Bn, 0, none⟩)] (fun x : Nat × Int × ByteArray => #[.pointer (some ⟨x.1, 0, none⟩)]) n₀ fr (fun ys => ys = fsOf xs) (fun pre => pre <+: fsOf xs) w := fun n l J Jx W hW hJ hJx hY h0 =>
  faults_in n l n₀ Bn W.heap.size fr hfr hfr2 v xs hlen J Jx hJ hJx hY W rfl (Nat.le_trans hn₀ hW.size) ((hW.cell (p := ⟨Bn, 0, none⟩) (lt_of_cell hBn)).trans hBn) (hL.below hW hn₀) h0
end Go.Proofs.YtaalecdokidmnaaGreatDoor

namespace Go.Proofs.YtaalecdokidmnaaGreatDoor
open Go Go.RowKit

attribute [local go_sem] Oper.semAt_some

def kindOf : List El → Int
  | [] => 1
  | .num k :: _ => k
  | .fault _ _ _ :: r => kindOf r
def KiI (w : World) (B : Nat) (pre : List El) (W : World) : Prop :=
  (∀ rest, kindOf (pre ++ rest) = kindOf rest) ∧ W.heap[B]? = some (.cells #[.int .i64 0] 53 (0, 0)) ∧ Below w.heap.size w W ∧ TypeLaid W
def KiX (w : World) (B : Nat) (c : Code) (pre : List El) (W : World) : Prop :=
  c = .ret ∧ (∃ k, (∀ rest, kindOf (pre ++ rest) = k) ∧ W.heap[B]? = some (.cells #[.int .i64 k] 53 (0, 0))) ∧ Below w.heap.size w W

set_option maxRecDepth 100000 in
theorem kind_nil (w : World) :
    Calls Tryz.prog 14 #[.nilIface] w fun e w' => e = .returned (.int .i64 0) ∧ Below w.heap.size w w' := by
  refine callsIn_wide (n := 0) |>.1 ?_
  refine callsIn_of_wp_marks Tryz.func14 rfl trivial ?_ rfl
  simp only [Tryz.ntmps14, List.size_toArray, List.length_cons, List.length_nil, Nat.reduceAdd, Nat.reduceSub, Array.replicate_succ, Array.replicate_zero, List.push_toArray, List.append_toArray, List.nil_append, List.cons_append]
  gi_wp2
  refine ⟨_, by simp [results, Tryz.results14, go_sem], rfl, ?_⟩
  exact (Below.refl _ w).alloc (Nat.le_refl _) _

set_option maxRecDepth 100000 in
set_option maxHeartbeats 2000000 in
theorem kind_chain {n₀ : Nat} {t : TypeId} {u : Value} {xs : List El} (w : World) (hlen : xs.length < 1048576) (hn₀ : n₀ ≤ w.heap.size) (hL : Chain w n₀ (.iface t u) xs) (hg : TypeLaid w) :
    Calls Tryz.prog 14 #[.iface t u] w fun e w' => e = .returned (.int .i64 (kindOf xs)) ∧ Below w.heap.size w w' := by
  refine callsIn_wide (n := 0) |>.1 ?_
  refine callsIn_of_wp_marks Tryz.func14 rfl trivial ?_ rfl
  simp only [Tryz.ntmps14, List.size_toArray, List.length_cons, List.length_nil, Nat.reduceAdd, Nat.reduceSub, Array.replicate_succ, Array.replicate_zero, List.push_toArray, List.append_toArray, List.nil_append, List.cons_append]
  have HL := Lib.hid hL
  have HG := Lib.hid hg
  clear hL hg
  gi_wp2_with fail
  refine ⟨trivial, rfl, (callsIn_wide.2 (row_make t u _)).mono ?_⟩
  rintro e w' ⟨rfl, rfl⟩
  gi_wp2_with fail
  have hbox : ((w.alloc (.cells #[.int .i64 0] 53)).alloc (.cells #[.iface t u] 40)).heap[w.heap.size]? = some (.cells #[.int .i64 0] 53 (0, 0)) := by
    rw [Below.heap_alloc _ _ _ (by simp)]; exact World.alloc_heap_new w _
  have hbox2 : ((w.alloc (.cells #[.int .i64 0] 53)).alloc (.cells #[.iface t u] 40)).cell? ⟨w.heap.size + 1, 0, none⟩ = some (.iface t u) := by
    rw [World.cell?_alloc_at _ _ _ _ (by simp)]; rfl
  have hb2 : Below w.heap.size w ((w.alloc (.cells #[.int .i64 0] 53)).alloc (.cells #[.iface t u] 40)) := ((Below.refl _ w).alloc (Nat.le_refl _) _).alloc (by simp) _
  have hs2 : ((w.alloc (.cells #[.int .i64 0] 53)).alloc (.cells #[.iface t u] 40)).heap.size = w.heap.size + 2 := by simp
  generalize ((w.alloc (.cells #[.int .i64 0] 53)).alloc (.cells #[.iface t u] 40)) = W2 at *
  have hL2 : Chain W2 n₀ (.iface t u) xs := HL.out.below hb2 hn₀
  have hg2 : TypeLaid W2 := HG.out.below hb2 HG.out.size
  have hseq := row_seq (fr := fun _ => false) (w := W2) hlen (by omega) hbox2 hL2
  refine rangeZ (gf := 63) (lb := #[.pointer (some ⟨w.heap.size + 1, 0, none⟩)]) rfl (Go.Proofs.enters_of Tryz.func63 (by kernel_rfl) rfl) hseq (fun _ h => by cases h) (by omega) (fun _ => rfl)
    (KiI w w.heap.size) (KiX w w.heap.size)
    (fun s A B row hs hg hr => ⟨hs.1, ownFrom_block (β := Unit) (by omega) () A B row hs.2.1 hg hr, Go.ownFrom_below (β := Unit) (n₀ := w.heap.size) (Nat.le_refl _) (by omega) () A B row hs.2.2.1 hg hr, ownFrom_cell (β := Unit) (B := W2.heap.size) () A B row hs.2.2.2 hg hr⟩)
    (fun c s A B row hs hg hr => by
      obtain ⟨h1, ⟨k, h2, h3⟩, h4⟩ := hs
      exact ⟨h1, ⟨k, h2, ownFrom_block (β := Unit) (by omega) () A B row h3 hg hr⟩, Go.ownFrom_below (β := Unit) (n₀ := w.heap.size) (Nat.le_refl _) (by omega) () A B row h4 hg hr⟩)
    ⟨fun _ => rfl, hbox, hb2, hg2⟩
    (fun x => { tmps := #[.iface t u, undef, .pointer (some ⟨w.heap.size, 0, none⟩), x.val, undef, undef, .iface t u, .bool false, .iface t u, .func (.func 63) #[] #[.pointer (some ⟨w.heap.size + 1, 0, none⟩)], x.val, undef, undef, undef, undef, undef, undef, undef], defers := [] })
    ?assign ?body ?done ?stop
  case assign =>
    intro l' x W3 K hK
    gi_wp2
    exact hK
  case body =>
    rintro l' pre x W3 ⟨hk3, hb3, hB3, hg3⟩ hpre hsz3
    have hKi := Lib.hid hk3
    have hOne := Lib.hid hb3
    have hLt := lt_of_block hb3
    clear hk3 hb3
    cases x with
    | num k =>
      simp only [El.val]
      gi_wp2_with fail
      refine ⟨trivial, rfl, CallsIn.mono (callsIn_wide.2 (asErrno_errno k W3 hg3)) ?_⟩
      rintro e W4 ⟨rfl, hb4⟩
      have hO4 : W4.heap[w.heap.size]? = some (.cells #[.int .i64 0] 53 (0, 0)) := (hb4.block _ hLt).trans hOne.out
      have hc4 := cell_of_one hO4
      have hf4 := free_of_one hO4
      have HO4 := Lib.hid hO4
      clear hO4
      gi_wp2
      refine ⟨?_, rfl, ⟨k, fun rest => by rw [List.append_assoc, hKi.out]; rfl, one_setCell HO4.out⟩, ?_⟩
      · exact (Keep.of_below hb4).trans (Keep.setCell _ _ _ _ (p := ⟨w.heap.size, 0, none⟩) _ hn₀ (by show w.heap.size < W2.heap.size; omega))
      · exact (hB3.trans (hb4.mono (by omega))).setCell (p := ⟨w.heap.size, 0, none⟩) (Nat.le_refl _) _
    | fault b p s =>
      simp only [El.val]
      gi_wp2_with fail
      refine ⟨trivial, rfl, CallsIn.mono (callsIn_wide.2 (asErrno_shell _ _ (alone_fault _) (shell_as_fault _) W3 hg3)) ?_⟩
      rintro e W4 ⟨rfl, hb4⟩
      gi_wp2
      exact ⟨Keep.of_below hb4, fun rest => by rw [List.append_assoc, hKi.out]; rfl, (hb4.block _ hLt).trans hOne.out, hB3.trans (hb4.mono (by omega)), hg3.below hb4 hg3.size⟩
  case done =>
    rintro D ys W3 hD rfl ⟨hk3, hb3, hB3, hg3⟩ hK
    have hc3 := cell_of_one hb3
    have hf3 := free_of_one hb3
    have hkx : kindOf ys = 1 := by have := hk3 []; simpa [kindOf] using this
    have HO := Lib.hid hb3
    have HK := Lib.hid hkx
    clear hb3 hkx hk3
    gi_wp2
    have hK' : (W3.setCell ⟨w.heap.size, 0, none⟩ (.int .i64 1)).heap[D]? = some (.deferred (some [])) := (Below.heap_setCell _ _ _ _ (by show D ≠ w.heap.size; omega)).trans hK
    refine ⟨by simp, .inl ⟨_, _, rfl, run_takeDeferred hK', ?_⟩⟩
    have hO4 : ((W3.setCell ⟨w.heap.size, 0, none⟩ (.int .i64 1)).putObj D (.deferred none)).heap[w.heap.size]? = some (.cells #[.int .i64 1] 53 (0, 0)) := (World.putObj_heap_other (by omega)).trans (one_setCell HO.out)
    refine ⟨.int .i64 1, by simp [results, Tryz.results14, go_sem, cell_of_one hO4], by rw [HK.out], ?_⟩
    exact (hB3.setCell (p := ⟨w.heap.size, 0, none⟩) (Nat.le_refl _) _).trans (belowK_b (w := w) (Nat.le_refl _) _ D _ _ (by omega) hK' rfl rfl)
  case stop =>
    rintro D c pre W3 hD hpre ⟨rfl, ⟨k, hk3, hb3⟩, hB3⟩ hK
    have hkx : kindOf xs = k := by obtain ⟨r, rfl⟩ := hpre; exact hk3 r
    have HO := Lib.hid hb3
    have HK := Lib.hid hkx
    clear hb3 hkx hk3
    gi_wp2
    refine ⟨by simp, .inl ⟨_, _, rfl, run_takeDeferred hK, ?_⟩⟩
    have hO4 : (W3.putObj D (.deferred none)).heap[w.heap.size]? = some (.cells #[.int .i64 k] 53 (0, 0)) := (World.putObj_heap_other (by omega)).trans HO.out
    refine ⟨.int .i64 k, by simp [results, Tryz.results14, go_sem, cell_of_one hO4], by rw [HK.out], ?_⟩
    exact hB3.trans (belowK_b (w := w) (Nat.le_refl _) _ D _ _ (by omega) hK rfl rfl)
end Go.Proofs.YtaalecdokidmnaaGreatDoor

namespace Go.Proofs.YtaalecdokidmnaaGreatDoor
open Go Go.RowKit

attribute [local go_sem] Oper.semAt_some

def placeOf : List (Nat × Int × ByteArray) → Int
  | [] => -1
  | (_, p, _) :: _ => p

/-- Each fault of a row lies in its block, below n. -/
theorem Chain.fault_mem {W : World} : ∀ {n : Nat} {v : Value} {xs : List El}, Chain W n v xs → ∀ x ∈ fsOf xs, x.1 < n ∧ ∃ u, W.heap[x.1]? = some (faultObj x.2.1 x.2.2 u)
  | _, _, [], _, _, hx => by simp [fsOf] at hx
  | _, _, .num _ :: _, h, x, hx => by rw [h.2] at hx; simp [fsOf] at hx
  | n, _, .fault b p s :: rest, ⟨_, h2, u, h5, h6⟩, x, hx => by
    simp only [fsOf, List.mem_cons] at hx
    rcases hx with rfl | hx
    · exact ⟨h2, u, h5⟩
    · obtain ⟨h, r⟩ := Chain.fault_mem h6 x hx
      exact ⟨by omega, r⟩
theorem faults_make_any {n : Nat} {v : Value} {xs : List El} {W : World} (hL : Chain W n v xs) (w : World) :
    Calls Tryz.prog 38 #[v] w fun e w' => e = .returned (.func (.func 68) #[] #[.pointer (some ⟨w.heap.size, 0, none⟩)]) ∧ w.alloc (.cells #[v] 40) = w' := by
  rcases hL.shape with ⟨rfl, _⟩ | ⟨t, u, rfl⟩
  · exact faults_make_nil w
  · exact faults_make t u w

def PlI (w : World) (pre : List (Nat × Int × ByteArray)) (W : World) : Prop :=
  pre = [] ∧ W.heap[w.heap.size]? = some (.cells #[.int .i64 0] 3 (0, 0)) ∧ Below w.heap.size w W
def PlX (w : World) (c : Code) (pre : List (Nat × Int × ByteArray)) (W : World) : Prop :=
  c = .ret ∧ (∃ p, (∀ rest, placeOf (pre ++ rest) = p) ∧ W.heap[w.heap.size]? = some (.cells #[.int .i64 p] 3 (0, 0))) ∧ Below w.heap.size w W

set_option maxRecDepth 100000 in
set_option maxHeartbeats 2000000 in
theorem place_chain {n₀ : Nat} {v : Value} {xs : List El} (w : World) (hlen : xs.length < 1048576) (hn₀ : n₀ ≤ w.heap.size) (hL : Chain w n₀ v xs) :
    Calls Tryz.prog 15 #[v] w fun e w' => e = .returned (.int .i64 (placeOf (fsOf xs))) ∧ Below w.heap.size w w' := by
  have HR := Lib.hid (fun w => faults_make_any hL w)
  refine callsIn_wide (n := 0) |>.1 ?_
  refine callsIn_of_wp_marks Tryz.func15 rfl trivial ?_ rfl
  simp only [Tryz.ntmps15, List.size_toArray, List.length_cons, List.length_nil, Nat.reduceAdd, Nat.reduceSub, Array.replicate_succ, Array.replicate_zero, List.push_toArray, List.append_toArray, List.nil_append, List.cons_append]
  have HL := Lib.hid hL
  clear hL
  gi_wp2_with fail
  refine ⟨trivial, rfl, (callsIn_wide.2 (HR.out _)).mono ?_⟩
  rintro e w' ⟨rfl, rfl⟩
  gi_wp2_with fail
  have hbox : ((w.alloc (.cells #[.int .i64 0] 3)).alloc (.cells #[v] 40)).heap[w.heap.size]? = some (.cells #[.int .i64 0] 3 (0, 0)) := by
    rw [Below.heap_alloc _ _ _ (by simp)]; exact World.alloc_heap_new w _
  have hbox2 : ((w.alloc (.cells #[.int .i64 0] 3)).alloc (.cells #[v] 40)).cell? ⟨w.heap.size + 1, 0, none⟩ = some v := by
    rw [World.cell?_alloc_at _ _ _ _ (by simp)]; rfl
  have hb2 : Below w.heap.size w ((w.alloc (.cells #[.int .i64 0] 3)).alloc (.cells #[v] 40)) := ((Below.refl _ w).alloc (Nat.le_refl _) _).alloc (by simp) _
  have hs2 : ((w.alloc (.cells #[.int .i64 0] 3)).alloc (.cells #[v] 40)).heap.size = w.heap.size + 2 := by simp
  generalize ((w.alloc (.cells #[.int .i64 0] 3)).alloc (.cells #[v] 40)) = W2 at *
  have hL2 : Chain W2 n₀ v xs := HL.out.below hb2 hn₀
  have hseq := faults_seq (fr := fun _ => false) (fun _ h => by cases h) (fun _ _ => rfl) (w := W2) hlen (by omega) hbox2 hL2
  refine rangeZ (gf := 68) (lb := #[.pointer (some ⟨w.heap.size + 1, 0, none⟩)]) rfl (Go.Proofs.enters_of Tryz.func68 (by kernel_rfl) rfl) hseq (fun _ h => by cases h) (by omega) (fun _ => rfl)
    (PlI w) (PlX w)
    (fun s A B row hs hg hr => ⟨hs.1, ownFrom_block (β := Unit) (by omega) () A B row hs.2.1 hg hr, Go.ownFrom_below (β := Unit) (n₀ := w.heap.size) (Nat.le_refl _) (by omega) () A B row hs.2.2 hg hr⟩)
    (fun c s A B row hs hg hr => by
      obtain ⟨h1, ⟨k, h2, h3⟩, h4⟩ := hs
      exact ⟨h1, ⟨k, h2, ownFrom_block (β := Unit) (by omega) () A B row h3 hg hr⟩, Go.ownFrom_below (β := Unit) (n₀ := w.heap.size) (Nat.le_refl _) (by omega) () A B row h4 hg hr⟩)
    ⟨rfl, hbox, hb2⟩
    (fun x => { tmps := #[v, undef, .pointer (some ⟨w.heap.size, 0, none⟩), .pointer (some ⟨x.1, 0, none⟩), v, .func (.func 68) #[] #[.pointer (some ⟨w.heap.size + 1, 0, none⟩)], .pointer (some ⟨x.1, 0, none⟩), undef, undef, undef, undef], defers := [] })
    ?assign ?body ?done ?stop
  case assign =>
    intro l' x W3 K hK
    gi_wp2
    exact hK
  case body =>
    rintro l' pre ⟨b, p, s⟩ W3 ⟨rfl, hb3, hB3⟩ hpre hsz3
    obtain ⟨hbn, u, hfo⟩ := hL2.fault_mem (b, p, s) (hpre.subset (by simp))
    have hfo3 : W3.heap[b]? = some (faultObj p s u) := by
      obtain ⟨_, u', hfo'⟩ := HL.out.fault_mem (b, p, s) (hpre.subset (by simp))
      have e1 := (hb2.block b (by dsimp at hbn; omega)).symm.trans hfo
      exact (hB3.block b (by dsimp at hbn; omega)).trans e1
    obtain ⟨hp0, hp1, hp2⟩ := faultObj_cell hfo3
    have hc3 := cell_of_one hb3
    have hf3 := free_of_one hb3
    have hOne := Lib.hid hb3
    have hLt := lt_of_block hb3
    clear hb3 hfo hfo3
    gi_wp2
    refine ⟨Keep.setCell _ _ _ _ (p := ⟨w.heap.size, 0, none⟩) _ hn₀ (by show w.heap.size < _; omega), rfl, ⟨p, fun rest => rfl, one_setCell hOne.out⟩, hB3.setCell (p := ⟨w.heap.size, 0, none⟩) (Nat.le_refl _) _⟩
  case done =>
    rintro D ys W3 hD hys ⟨rfl, hb3, hB3⟩ hK
    have hc3 := cell_of_one hb3
    have hf3 := free_of_one hb3
    have HO := Lib.hid hb3
    have HK := Lib.hid hys
    clear hb3 hys
    gi_wp2
    have hK' : (W3.setCell ⟨w.heap.size, 0, none⟩ (.int .i64 (-1))).heap[D]? = some (.deferred (some [])) := (Below.heap_setCell _ _ _ _ (by show D ≠ w.heap.size; omega)).trans hK
    refine ⟨by simp, .inl ⟨_, _, rfl, run_takeDeferred hK', ?_⟩⟩
    have hO4 : ((W3.setCell ⟨w.heap.size, 0, none⟩ (.int .i64 (-1))).putObj D (.deferred none)).heap[w.heap.size]? = some (.cells #[.int .i64 (-1)] 3 (0, 0)) := (World.putObj_heap_other (by omega)).trans (one_setCell HO.out)
    refine ⟨.int .i64 (-1), by simp [results, Tryz.results15, go_sem, cell_of_one hO4], by rw [← HK.out]; rfl, ?_⟩
    exact (hB3.setCell (p := ⟨w.heap.size, 0, none⟩) (Nat.le_refl _) _).trans (belowK_b (w := w) (Nat.le_refl _) _ D _ _ (by omega) hK' rfl rfl)
  case stop =>
    rintro D c pre W3 hD hpre ⟨rfl, ⟨k, hk3, hb3⟩, hB3⟩ hK
    have hkx : placeOf (fsOf xs) = k := by obtain ⟨r, hr⟩ := hpre; rw [← hr]; exact hk3 r
    have HO := Lib.hid hb3
    have HK := Lib.hid hkx
    clear hb3 hkx hk3
    gi_wp2
    refine ⟨by simp, .inl ⟨_, _, rfl, run_takeDeferred hK, ?_⟩⟩
    have hO4 : (W3.putObj D (.deferred none)).heap[w.heap.size]? = some (.cells #[.int .i64 k] 3 (0, 0)) := (World.putObj_heap_other (by omega)).trans HO.out
    refine ⟨.int .i64 k, by simp [results, Tryz.results15, go_sem, cell_of_one hO4], by rw [HK.out], ?_⟩
    exact hB3.trans (belowK_b (w := w) (Nat.le_refl _) _ D _ _ (by omega) hK rfl rfl)
end Go.Proofs.YtaalecdokidmnaaGreatDoor

namespace Go.Proofs.YtaalecdokidmnaaGreatDoor
open Go Go.RowKit

attribute [local go_sem] Oper.semAt_some

end Go.Proofs.YtaalecdokidmnaaGreatDoor

namespace Go.Proofs.YtaalecdokidmnaaGreatDoor
open Go Go.RowKit

attribute [local go_sem] Oper.semAt_some

/-- append onto a row of the call's own, as one step of a region that draws its order, in whatever fence. -/
theorem stepIn_append {F : Fence} {n : Nat} {P : Program} {w : World} {ops : Array Oper} {o : Oper} {a : Act} {K : Act → World → Prop} {Q : Exit → Act → World → Prop} {E : Prop}
    (hg : o.guard = none) (s x : Operand) (t : TypeId) (hop : o.op = Op.call { callee := Callee.builtin Builtin.append, args := #[s, x], argTypes := #[t, t] })
    (base : Nat) (e : TypeId) (i : TypeInfo) (z : Value) (size bytes : Nat) (h1 : P.underlying t = some (.slice e)) (h2 : P.info? e = some i) (h3 : i.zero = some z) (h4 : i.size = size) (h5 : i.bytes = bytes) (h6 : z.cells.size = size) (h7 : 0 < size)
    (v : Value) (k : Nat) (xs : List Value) (hs : a.eval s = v) (hown : w.ownsRow base e size v k xs) (ad : Addr) (m c : Nat) (news : List Value) (hx : a.eval x = .slice (some ad) m c) (hn : news.length = m * size)
    (hc : ∀ j u, news[j]? = some u → w.cell? (ad.add j) = some u) (h1c : ∀ u ∈ news, u.oneCell' = true) (b1 : k + m ≤ maxLen) (b2 : (k + m) * bytes ≤ 140737488355328) (b3 : base ≤ w.heap.size)
    (hK : ∀ v' w', w'.ownsRow base e size v' (k + m) (xs ++ news) → w.grownBy w' v.ownBlock → K (a.put o.dst v') w') :
    if Region.wanted o (yielded ops a.tmps) = true then Oper.wpIn F n P o a w K Q else E := by
  have hw : Region.wanted o (yielded ops a.tmps) = true := by simp [Region.wanted, hg]
  rw [if_pos hw]
  obtain ⟨v', w', hrun, r1, r2, _⟩ := run_append_own (P := P) w base t o.type e i z size bytes h1 h2 h3 h4 h5 h6 h7 v k xs hown ad m c news hn hc h1c b1 b2 b3
  unfold Oper.wpIn
  refine ⟨?_, ?_⟩
  · simp [Oper.about, hop, resolve, Target.leads, Sem.run_pure]
  · rw [Oper.semAt_plain F _ _ (by rw [hop]; intro c hc'; cases hc')]
    simp [execOp, hop, resolve, invoke, builtin, hs, hx, hrun, Result.andThen]
    exact hK v' w' r1 r2

theorem fsOf_length (xs : List El) : (fsOf xs).length ≤ xs.length := by
  induction xs with
  | nil => simp [fsOf]
  | cons x r ih => cases x <;> simp [fsOf] <;> omega
def whats (l : List (Nat × Int × ByteArray)) : List Value := l.map fun x => .string x.2.2
def WhI (w : World) (pre : List (Nat × Int × ByteArray)) (W : World) : Prop :=
  ∃ v, W.heap[w.heap.size]? = some (.cells #[v] 68 (0, 0)) ∧ W.ownsRow (w.heap.size + 2) 9 1 v pre.length (whats pre) ∧ Below w.heap.size w W ∧ w.heap.size + 2 ≤ W.heap.size

theorem wh_app {lo hi : Nat} {w W3 w1 : World} {j : Nat} {v v' s : Value} {xs ys : List Value}
    (hR : W3.heap[w.heap.size]? = some (.cells #[v] 68 (0, 0))) (hown : W3.ownsRow (w.heap.size + 2) 9 1 v j xs) (hB : Below w.heap.size w W3) (hsz : w.heap.size + 2 ≤ W3.heap.size) (hlo : lo ≤ w.heap.size)
    (hown1 : w1.ownsRow (w.heap.size + 2) 9 1 v' (j + 1) ys) (hgrow : ((W3.alloc (.cells #[s] 9)).drew).grownBy w1 v.ownBlock) :
    ∃ g' cap', v' = .slice (some ⟨g', 0, none⟩) (j + 1) cap' ∧ w.heap.size + 2 ≤ g' ∧ w1.cell? ⟨w.heap.size, 0, none⟩ = some v ∧ w1.frozen? ⟨w.heap.size, 0, none⟩ = false ∧ Keep lo hi frS W3 w1 ∧
      Hid (Below w.heap.size w w1 ∧ w.heap.size + 2 ≤ w1.heap.size ∧ w1.heap[w.heap.size]? = some (.cells #[v] 68 (0, 0))) := by
  have hgs := hgrow.size
  have hsd : (W3.alloc (.cells #[s] 9)).drew.heap.size = W3.heap.size + 1 := by show (W3.alloc _).heap.size = _; simp
  have hne : ∀ r, v.ownBlock = some r → w.heap.size + 2 ≤ r := fun r e => (hown.lt r e).1
  have hblk : ∀ k, k < W3.heap.size → (W3.alloc (.cells #[s] 9)).drew.heap[k]? = W3.heap[k]? := fun k hk => Below.heap_alloc W3 _ k hk
  have hR1' : w1.heap[w.heap.size]? = some (.cells #[v] 68 (0, 0)) := (hgrow.block _ (by omega) (fun e => by have := hne _ e.symm; omega)).trans ((hblk _ (by omega)).trans hR)
  have hB1 : Below w.heap.size w w1 := ((hB.alloc hB.size _).drew).grown hgrow (by omega) (fun r e => by have := hne r e; omega)
  obtain ⟨g', cap', rfl⟩ := ownsRow_succ hown1
  refine ⟨g', cap', rfl, (hown1.lt g' rfl).1, cell_of_one hR1', free_of_one hR1', ?_, hB1, by omega, hR1'⟩
  refine (Keep.of_below (A := W3) (((Below.refl _ W3).alloc (Nat.le_refl _) _).drew)).trans (Keep.grown hgrow (fun r e => ?_))
  have hr := hne r e
  refine ⟨by omega, .inr ?_⟩
  rcases hown.2 with ⟨rfl, _⟩ | ⟨g, cap, cur, rfl, _, hb, _⟩
  · cases e
  · cases e
    exact ⟨_, (hblk g (Array.getElem?_eq_some_iff.1 hb).1).trans hb, by simp [frS]⟩

set_option maxRecDepth 100000 in
set_option maxHeartbeats 8000000 in
theorem whats_chain {n₀ : Nat} {v : Value} {xs : List El} (w : World) (hlen : xs.length < 1048576) (hn₀ : n₀ ≤ w.heap.size) (hL : Chain w n₀ v xs) :
    Calls Tryz.prog 40 #[v] w fun e w' => ∃ u, e = .returned u ∧ w'.ownsRow (w.heap.size + 2) 9 1 u (fsOf xs).length (whats (fsOf xs)) ∧ Below w.heap.size w w' := by
  obtain ⟨i0, hi, hz0, hz1, hz2⟩ := info_parts stringInfo
  have HR := Lib.hid (fun w => faults_make_any hL w)
  refine callsIn_wide (n := 0) |>.1 ?_
  refine callsIn_of_wp_marks Tryz.func40 rfl trivial ?_ rfl
  simp only [Tryz.ntmps40, List.size_toArray, List.length_cons, List.length_nil, Nat.reduceAdd, Nat.reduceSub, Array.replicate_succ, Array.replicate_zero, List.push_toArray, List.append_toArray, List.nil_append, List.cons_append]
  have HL := Lib.hid hL
  clear hL
  gi_wp2_with fail
  refine ⟨trivial, rfl, (callsIn_wide.2 (HR.out _)).mono ?_⟩
  rintro e w' ⟨rfl, rfl⟩
  gi_wp2_with fail
  have hbox : ((w.alloc (.cells #[.slice none 0 0] 68)).alloc (.cells #[v] 40)).heap[w.heap.size]? = some (.cells #[.slice none 0 0] 68 (0, 0)) := by
    rw [Below.heap_alloc _ _ _ (by simp)]; exact World.alloc_heap_new w _
  have hbox2 : ((w.alloc (.cells #[.slice none 0 0] 68)).alloc (.cells #[v] 40)).cell? ⟨w.heap.size + 1, 0, none⟩ = some v := by
    rw [World.cell?_alloc_at _ _ _ _ (by simp)]; rfl
  have hb2 : Below w.heap.size w ((w.alloc (.cells #[.slice none 0 0] 68)).alloc (.cells #[v] 40)) := ((Below.refl _ w).alloc (Nat.le_refl _) _).alloc (by simp) _
  have hs2 : ((w.alloc (.cells #[.slice none 0 0] 68)).alloc (.cells #[v] 40)).heap.size = w.heap.size + 2 := by simp
  generalize ((w.alloc (.cells #[.slice none 0 0] 68)).alloc (.cells #[v] 40)) = W2 at *
  have hL2 : Chain W2 n₀ v xs := HL.out.below hb2 hn₀
  have hseq := faults_seq (fr := frS) frS_cells (fun _ _ => rfl) (w := W2) hlen (by omega) hbox2 hL2
  refine rangeZ (gf := 68) (lb := #[.pointer (some ⟨w.heap.size + 1, 0, none⟩)]) rfl (Go.Proofs.enters_of Tryz.func68 (by kernel_rfl) rfl) hseq frS_cells (by omega) (fun _ => rfl)
    (WhI w) (fun _ _ _ => False)
    (fun s A B row hs hg hr => by
      obtain ⟨u, h1, h2, h3, h4⟩ := hs
      exact ⟨u, ownFrom_block (β := Unit) (by omega) () A B row h1 hg hr, ownFrom_row (β := Unit) (B := W2.heap.size) () A B row h2 hg hr, Go.ownFrom_below (β := Unit) (n₀ := w.heap.size) (Nat.le_refl _) (by omega) () A B row h3 hg hr, Nat.le_trans h4 hg.size⟩)
    (fun _ _ _ _ _ hs _ _ => hs.elim)
    ⟨_, hbox, World.ownsRow_nil _ _ _ _, hb2, by omega⟩
    (fun x => { tmps := #[v, undef, .slice none 0 0, .pointer (some ⟨w.heap.size, 0, none⟩), .pointer (some ⟨x.1, 0, none⟩), v, .func (.func 68) #[] #[.pointer (some ⟨w.heap.size + 1, 0, none⟩)], .pointer (some ⟨x.1, 0, none⟩), undef, undef, undef, undef, undef, undef, undef, undef], defers := [] })
    ?assign ?body ?done ?stop
  case assign =>
    intro l' x W3 K hK
    gi_wp2
    exact hK
  case body =>
    rintro l' pre ⟨b, p, s⟩ W3 ⟨u0, hb3, ho3, hB3, hsz3'⟩ hpre hsz3
    obtain ⟨hbn, u, hfo⟩ := hL2.fault_mem (b, p, s) (hpre.subset (by simp))
    have hfo3 : W3.heap[b]? = some (faultObj p s u) := by
      obtain ⟨_, u', hfo'⟩ := HL.out.fault_mem (b, p, s) (hpre.subset (by simp))
      have e1 := (hb2.block b (by dsimp at hbn; omega)).symm.trans hfo
      exact (hB3.block b (by dsimp at hbn; omega)).trans e1
    obtain ⟨hp0, hp1, hp2⟩ := faultObj_cell hfo3
    have hpl : pre.length < 1048576 := by have := hpre.length_le; have := fsOf_length xs; simp at *; omega
    have hbd1 : pre.length + 1 ≤ maxLen := by unfold maxLen; omega
    have hbd2 : (pre.length + 1) * 16 ≤ 140737488355328 := by omega
    have hc3 := cell_of_one hb3
    have hf3 := free_of_one hb3
    have hnews : ∀ j u, [Value.string s][j]? = some u → (W3.alloc (.cells #[.string s] 9)).drew.cell? ((⟨W3.heap.size, 0, none⟩ : Addr).add j) = some u := cell_one_new W3 (.string s) 9
    have HN := Lib.hid hnews
    have HO := Lib.hid ho3
    have HOD := Lib.hid ((ho3.alloc (.cells #[.string s] 9)).drew)
    have hOne := Lib.hid hb3
    have hLt := lt_of_block hb3
    have hlo : n₀ ≤ w.heap.size := hn₀
    clear hb3 hfo hfo3 hp0 hp2 ho3 hnews
    gi_wp2
    refine wpIn_region_any (by kernel_rfl) ?_
    change wpAnyIn _ _ _ _ _ _ _ _ _ (World.drew _)
    refine wpAnyIn_ready (rs := [0, 1]) (by kernel_rfl) (by simp) ?_
    refine AllReadyIn.cons rfl (fun K hK => ?_) ?_
    · go_simp
      refine hK _ _ ?_; clear hK K
      refine wpAnyIn_ready (rs := [1]) (by kernel_rfl) (by simp) ?_
      refine AllReadyIn.cons rfl (fun K hK => ?_) ?_
      · go_simp
        refine hK _ _ ?_; clear hK K
        refine wpAnyIn_ready (rs := [2]) (by kernel_rfl) (by simp) ?_
        refine AllReadyIn.cons rfl (fun K hK => ?_) ?_
        · go_simp
          refine hK _ _ ?_; clear hK K
          refine wpAnyIn_ready (rs := [3]) (by kernel_rfl) (by simp) ?_
          refine AllReadyIn.cons rfl (fun K hK => ?_) ?_
          · go_simp
            refine hK _ _ ?_; clear hK K
            refine wpAnyIn_ready (rs := [4]) (by kernel_rfl) (by simp) ?_
            refine AllReadyIn.cons rfl (fun K hK => ?_) ?_
            · go_simp
              refine hK _ _ ?_; clear hK K
              refine wpAnyIn_ready (rs := [5]) (by kernel_rfl) (by simp) ?_
              refine AllReadyIn.cons rfl (fun K hK => ?_) ?_
              · go_simp
                refine hK _ _ ?_; clear hK K
                refine wpAnyIn_ready (rs := [6]) (by kernel_rfl) (by simp) ?_
                refine AllReadyIn.cons rfl (fun K hK => ?_) ?_
                · refine stepIn_append rfl _ _ 68 rfl (w.heap.size + 2) 9 i0 (.string ByteArray.empty) 1 16 Tryz.underlying68 hi hz0 hz1 hz2 rfl (by decide) _ _ _ rfl HOD.out ⟨W3.heap.size, 0, none⟩ 1 1 [.string s] rfl rfl HN.out (by intro u hu; simp at hu; subst hu; rfl) hbd1 hbd2 (by show _ ≤ (W3.alloc _).heap.size; simp; omega) ?_
                  intro v' w1 hown1 hgrow
                  obtain ⟨g', cap', rfl, hg', hc1, hf1, hkeep, HREST⟩ := wh_app (hi := W2.heap.size) hOne.out HO.out hB3 hsz3' hlo hown1 hgrow
                  have HO1 := Lib.hid hown1
                  clear hown1 hgrow
                  refine hK _ _ ?_; clear hK K
                  refine wpAnyIn_ready (rs := [7]) (by kernel_rfl) (by simp) ?_
                  refine AllReadyIn.cons rfl (fun K hK => ?_) ?_
                  · go_simp
                    refine hK _ _ ?_; clear hK K
                    refine wpAnyIn_done (by kernel_rfl) ?_ _
                    obtain ⟨hB1, hs1, hq1⟩ := HREST.out
                    exact ⟨(hkeep.trans (Keep.setCell _ _ _ _ (p := ⟨w.heap.size, 0, none⟩) _ hn₀ (by show w.heap.size < W2.heap.size; omega))), _, one_setCell hq1, by unfold whats; rw [List.map_append, List.length_append]; exact ownsRow_setCell_other HO1.out (by simp [Value.ownBlock]; omega) _, hB1.setCell (p := ⟨w.heap.size, 0, none⟩) (Nat.le_refl _) _, by simpa [World.setCell] using hs1⟩
                  exact AllReadyIn.nil
                exact AllReadyIn.nil
              exact AllReadyIn.nil
            exact AllReadyIn.nil
          exact AllReadyIn.nil
        exact AllReadyIn.nil
      exact AllReadyIn.nil
    refine AllReadyIn.cons rfl (fun K hK => ?_) ?_
    · go_simp
      refine hK _ _ ?_; clear hK K
      refine wpAnyIn_ready (rs := [0, 2]) (by kernel_rfl) (by simp) ?_
      refine AllReadyIn.cons rfl (fun K hK => ?_) ?_
      · go_simp
        refine hK _ _ ?_; clear hK K
        refine wpAnyIn_ready (rs := [2]) (by kernel_rfl) (by simp) ?_
        refine AllReadyIn.cons rfl (fun K hK => ?_) ?_
        · go_simp
          refine hK _ _ ?_; clear hK K
          refine wpAnyIn_ready (rs := [3]) (by kernel_rfl) (by simp) ?_
          refine AllReadyIn.cons rfl (fun K hK => ?_) ?_
          · go_simp
            refine hK _ _ ?_; clear hK K
            refine wpAnyIn_ready (rs := [4]) (by kernel_rfl) (by simp) ?_
            refine AllReadyIn.cons rfl (fun K hK => ?_) ?_
            · go_simp
              refine hK _ _ ?_; clear hK K
              refine wpAnyIn_ready (rs := [5]) (by kernel_rfl) (by simp) ?_
              refine AllReadyIn.cons rfl (fun K hK => ?_) ?_
              · go_simp
                refine hK _ _ ?_; clear hK K
                refine wpAnyIn_ready (rs := [6]) (by kernel_rfl) (by simp) ?_
                refine AllReadyIn.cons rfl (fun K hK => ?_) ?_
                · refine stepIn_append rfl _ _ 68 rfl (w.heap.size + 2) 9 i0 (.string ByteArray.empty) 1 16 Tryz.underlying68 hi hz0 hz1 hz2 rfl (by decide) _ _ _ rfl HOD.out ⟨W3.heap.size, 0, none⟩ 1 1 [.string s] rfl rfl HN.out (by intro u hu; simp at hu; subst hu; rfl) hbd1 hbd2 (by show _ ≤ (W3.alloc _).heap.size; simp; omega) ?_
                  intro v' w1 hown1 hgrow
                  obtain ⟨g', cap', rfl, hg', hc1, hf1, hkeep, HREST⟩ := wh_app (hi := W2.heap.size) hOne.out HO.out hB3 hsz3' hlo hown1 hgrow
                  have HO1 := Lib.hid hown1
                  clear hown1 hgrow
                  refine hK _ _ ?_; clear hK K
                  refine wpAnyIn_ready (rs := [7]) (by kernel_rfl) (by simp) ?_
                  refine AllReadyIn.cons rfl (fun K hK => ?_) ?_
                  · go_simp
                    refine hK _ _ ?_; clear hK K
                    refine wpAnyIn_done (by kernel_rfl) ?_ _
                    obtain ⟨hB1, hs1, hq1⟩ := HREST.out
                    exact ⟨(hkeep.trans (Keep.setCell _ _ _ _ (p := ⟨w.heap.size, 0, none⟩) _ hn₀ (by show w.heap.size < W2.heap.size; omega))), _, one_setCell hq1, by unfold whats; rw [List.map_append, List.length_append]; exact ownsRow_setCell_other HO1.out (by simp [Value.ownBlock]; omega) _, hB1.setCell (p := ⟨w.heap.size, 0, none⟩) (Nat.le_refl _) _, by simpa [World.setCell] using hs1⟩
                  exact AllReadyIn.nil
                exact AllReadyIn.nil
              exact AllReadyIn.nil
            exact AllReadyIn.nil
          exact AllReadyIn.nil
        exact AllReadyIn.nil
      refine AllReadyIn.cons rfl (fun K hK => ?_) ?_
      · go_simp
        refine hK _ _ ?_; clear hK K
        refine wpAnyIn_ready (rs := [0, 3]) (by kernel_rfl) (by simp) ?_
        refine AllReadyIn.cons rfl (fun K hK => ?_) ?_
        · go_simp
          refine hK _ _ ?_; clear hK K
          refine wpAnyIn_ready (rs := [3]) (by kernel_rfl) (by simp) ?_
          refine AllReadyIn.cons rfl (fun K hK => ?_) ?_
          · go_simp
            refine hK _ _ ?_; clear hK K
            refine wpAnyIn_ready (rs := [4]) (by kernel_rfl) (by simp) ?_
            refine AllReadyIn.cons rfl (fun K hK => ?_) ?_
            · go_simp
              refine hK _ _ ?_; clear hK K
              refine wpAnyIn_ready (rs := [5]) (by kernel_rfl) (by simp) ?_
              refine AllReadyIn.cons rfl (fun K hK => ?_) ?_
              · go_simp
                refine hK _ _ ?_; clear hK K
                refine wpAnyIn_ready (rs := [6]) (by kernel_rfl) (by simp) ?_
                refine AllReadyIn.cons rfl (fun K hK => ?_) ?_
                · refine stepIn_append rfl _ _ 68 rfl (w.heap.size + 2) 9 i0 (.string ByteArray.empty) 1 16 Tryz.underlying68 hi hz0 hz1 hz2 rfl (by decide) _ _ _ rfl HOD.out ⟨W3.heap.size, 0, none⟩ 1 1 [.string s] rfl rfl HN.out (by intro u hu; simp at hu; subst hu; rfl) hbd1 hbd2 (by show _ ≤ (W3.alloc _).heap.size; simp; omega) ?_
                  intro v' w1 hown1 hgrow
                  obtain ⟨g', cap', rfl, hg', hc1, hf1, hkeep, HREST⟩ := wh_app (hi := W2.heap.size) hOne.out HO.out hB3 hsz3' hlo hown1 hgrow
                  have HO1 := Lib.hid hown1
                  clear hown1 hgrow
                  refine hK _ _ ?_; clear hK K
                  refine wpAnyIn_ready (rs := [7]) (by kernel_rfl) (by simp) ?_
                  refine AllReadyIn.cons rfl (fun K hK => ?_) ?_
                  · go_simp
                    refine hK _ _ ?_; clear hK K
                    refine wpAnyIn_done (by kernel_rfl) ?_ _
                    obtain ⟨hB1, hs1, hq1⟩ := HREST.out
                    exact ⟨(hkeep.trans (Keep.setCell _ _ _ _ (p := ⟨w.heap.size, 0, none⟩) _ hn₀ (by show w.heap.size < W2.heap.size; omega))), _, one_setCell hq1, by unfold whats; rw [List.map_append, List.length_append]; exact ownsRow_setCell_other HO1.out (by simp [Value.ownBlock]; omega) _, hB1.setCell (p := ⟨w.heap.size, 0, none⟩) (Nat.le_refl _) _, by simpa [World.setCell] using hs1⟩
                  exact AllReadyIn.nil
                exact AllReadyIn.nil
              exact AllReadyIn.nil
            exact AllReadyIn.nil
          exact AllReadyIn.nil
        refine AllReadyIn.cons rfl (fun K hK => ?_) ?_
        · go_simp
          refine hK _ _ ?_; clear hK K
          refine wpAnyIn_ready (rs := [0, 4]) (by kernel_rfl) (by simp) ?_
          refine AllReadyIn.cons rfl (fun K hK => ?_) ?_
          · go_simp
            refine hK _ _ ?_; clear hK K
            refine wpAnyIn_ready (rs := [4]) (by kernel_rfl) (by simp) ?_
            refine AllReadyIn.cons rfl (fun K hK => ?_) ?_
            · go_simp
              refine hK _ _ ?_; clear hK K
              refine wpAnyIn_ready (rs := [5]) (by kernel_rfl) (by simp) ?_
              refine AllReadyIn.cons rfl (fun K hK => ?_) ?_
              · go_simp
                refine hK _ _ ?_; clear hK K
                refine wpAnyIn_ready (rs := [6]) (by kernel_rfl) (by simp) ?_
                refine AllReadyIn.cons rfl (fun K hK => ?_) ?_
                · refine stepIn_append rfl _ _ 68 rfl (w.heap.size + 2) 9 i0 (.string ByteArray.empty) 1 16 Tryz.underlying68 hi hz0 hz1 hz2 rfl (by decide) _ _ _ rfl HOD.out ⟨W3.heap.size, 0, none⟩ 1 1 [.string s] rfl rfl HN.out (by intro u hu; simp at hu; subst hu; rfl) hbd1 hbd2 (by show _ ≤ (W3.alloc _).heap.size; simp; omega) ?_
                  intro v' w1 hown1 hgrow
                  obtain ⟨g', cap', rfl, hg', hc1, hf1, hkeep, HREST⟩ := wh_app (hi := W2.heap.size) hOne.out HO.out hB3 hsz3' hlo hown1 hgrow
                  have HO1 := Lib.hid hown1
                  clear hown1 hgrow
                  refine hK _ _ ?_; clear hK K
                  refine wpAnyIn_ready (rs := [7]) (by kernel_rfl) (by simp) ?_
                  refine AllReadyIn.cons rfl (fun K hK => ?_) ?_
                  · go_simp
                    refine hK _ _ ?_; clear hK K
                    refine wpAnyIn_done (by kernel_rfl) ?_ _
                    obtain ⟨hB1, hs1, hq1⟩ := HREST.out
                    exact ⟨(hkeep.trans (Keep.setCell _ _ _ _ (p := ⟨w.heap.size, 0, none⟩) _ hn₀ (by show w.heap.size < W2.heap.size; omega))), _, one_setCell hq1, by unfold whats; rw [List.map_append, List.length_append]; exact ownsRow_setCell_other HO1.out (by simp [Value.ownBlock]; omega) _, hB1.setCell (p := ⟨w.heap.size, 0, none⟩) (Nat.le_refl _) _, by simpa [World.setCell] using hs1⟩
                  exact AllReadyIn.nil
                exact AllReadyIn.nil
              exact AllReadyIn.nil
            exact AllReadyIn.nil
          refine AllReadyIn.cons rfl (fun K hK => ?_) ?_
          · go_simp
            refine hK _ _ ?_; clear hK K
            refine wpAnyIn_ready (rs := [0, 5]) (by kernel_rfl) (by simp) ?_
            refine AllReadyIn.cons rfl (fun K hK => ?_) ?_
            · go_simp
              refine hK _ _ ?_; clear hK K
              refine wpAnyIn_ready (rs := [5]) (by kernel_rfl) (by simp) ?_
              refine AllReadyIn.cons rfl (fun K hK => ?_) ?_
              · go_simp
                refine hK _ _ ?_; clear hK K
                refine wpAnyIn_ready (rs := [6]) (by kernel_rfl) (by simp) ?_
                refine AllReadyIn.cons rfl (fun K hK => ?_) ?_
                · refine stepIn_append rfl _ _ 68 rfl (w.heap.size + 2) 9 i0 (.string ByteArray.empty) 1 16 Tryz.underlying68 hi hz0 hz1 hz2 rfl (by decide) _ _ _ rfl HOD.out ⟨W3.heap.size, 0, none⟩ 1 1 [.string s] rfl rfl HN.out (by intro u hu; simp at hu; subst hu; rfl) hbd1 hbd2 (by show _ ≤ (W3.alloc _).heap.size; simp; omega) ?_
                  intro v' w1 hown1 hgrow
                  obtain ⟨g', cap', rfl, hg', hc1, hf1, hkeep, HREST⟩ := wh_app (hi := W2.heap.size) hOne.out HO.out hB3 hsz3' hlo hown1 hgrow
                  have HO1 := Lib.hid hown1
                  clear hown1 hgrow
                  refine hK _ _ ?_; clear hK K
                  refine wpAnyIn_ready (rs := [7]) (by kernel_rfl) (by simp) ?_
                  refine AllReadyIn.cons rfl (fun K hK => ?_) ?_
                  · go_simp
                    refine hK _ _ ?_; clear hK K
                    refine wpAnyIn_done (by kernel_rfl) ?_ _
                    obtain ⟨hB1, hs1, hq1⟩ := HREST.out
                    exact ⟨(hkeep.trans (Keep.setCell _ _ _ _ (p := ⟨w.heap.size, 0, none⟩) _ hn₀ (by show w.heap.size < W2.heap.size; omega))), _, one_setCell hq1, by unfold whats; rw [List.map_append, List.length_append]; exact ownsRow_setCell_other HO1.out (by simp [Value.ownBlock]; omega) _, hB1.setCell (p := ⟨w.heap.size, 0, none⟩) (Nat.le_refl _) _, by simpa [World.setCell] using hs1⟩
                  exact AllReadyIn.nil
                exact AllReadyIn.nil
              exact AllReadyIn.nil
            refine AllReadyIn.cons rfl (fun K hK => ?_) ?_
            · go_simp
              refine hK _ _ ?_; clear hK K
              refine wpAnyIn_ready (rs := [0]) (by kernel_rfl) (by simp) ?_
              refine AllReadyIn.cons rfl (fun K hK => ?_) ?_
              · go_simp
                refine hK _ _ ?_; clear hK K
                refine wpAnyIn_ready (rs := [6]) (by kernel_rfl) (by simp) ?_
                refine AllReadyIn.cons rfl (fun K hK => ?_) ?_
                · refine stepIn_append rfl _ _ 68 rfl (w.heap.size + 2) 9 i0 (.string ByteArray.empty) 1 16 Tryz.underlying68 hi hz0 hz1 hz2 rfl (by decide) _ _ _ rfl HOD.out ⟨W3.heap.size, 0, none⟩ 1 1 [.string s] rfl rfl HN.out (by intro u hu; simp at hu; subst hu; rfl) hbd1 hbd2 (by show _ ≤ (W3.alloc _).heap.size; simp; omega) ?_
                  intro v' w1 hown1 hgrow
                  obtain ⟨g', cap', rfl, hg', hc1, hf1, hkeep, HREST⟩ := wh_app (hi := W2.heap.size) hOne.out HO.out hB3 hsz3' hlo hown1 hgrow
                  have HO1 := Lib.hid hown1
                  clear hown1 hgrow
                  refine hK _ _ ?_; clear hK K
                  refine wpAnyIn_ready (rs := [7]) (by kernel_rfl) (by simp) ?_
                  refine AllReadyIn.cons rfl (fun K hK => ?_) ?_
                  · go_simp
                    refine hK _ _ ?_; clear hK K
                    refine wpAnyIn_done (by kernel_rfl) ?_ _
                    obtain ⟨hB1, hs1, hq1⟩ := HREST.out
                    exact ⟨(hkeep.trans (Keep.setCell _ _ _ _ (p := ⟨w.heap.size, 0, none⟩) _ hn₀ (by show w.heap.size < W2.heap.size; omega))), _, one_setCell hq1, by unfold whats; rw [List.map_append, List.length_append]; exact ownsRow_setCell_other HO1.out (by simp [Value.ownBlock]; omega) _, hB1.setCell (p := ⟨w.heap.size, 0, none⟩) (Nat.le_refl _) _, by simpa [World.setCell] using hs1⟩
                  exact AllReadyIn.nil
                exact AllReadyIn.nil
              exact AllReadyIn.nil
            exact AllReadyIn.nil
          exact AllReadyIn.nil
        exact AllReadyIn.nil
      exact AllReadyIn.nil
    exact AllReadyIn.nil
  case done =>
    rintro D ys W3 hD rfl ⟨u0, hb3, ho3, hB3, hsz3'⟩ hK
    have hc3 := cell_of_one hb3
    have hf3 := free_of_one hb3
    have HO := Lib.hid ho3
    have hsh := owns_shape0 ho3
    clear hb3 ho3
    rcases hsh with rfl | ⟨g, gc, rfl⟩
    · gi_wp2
      refine ⟨by simp, .inl ⟨_, _, rfl, run_takeDeferred hK, ?_⟩⟩
      have hfin := ownFrom_row (β := Unit) (B := 0) () W3 _ (some D) HO.out (grownBy_putObj' W3 D (.deferred none)) (fun r e => by cases e; exact ⟨Nat.zero_le _, _, hK, rfl⟩)
      refine ⟨_, results_tmp rfl _ _ _, .slice none 0 0, rfl, hfin, ?_⟩
      exact hB3.trans (belowK_b (w := w) (Nat.le_refl _) _ D _ _ (by omega) hK rfl rfl)
    · gi_wp2
      refine ⟨by simp, .inl ⟨_, _, rfl, run_takeDeferred hK, ?_⟩⟩
      have hfin := ownFrom_row (β := Unit) (B := 0) () W3 _ (some D) HO.out (grownBy_putObj' W3 D (.deferred none)) (fun r e => by cases e; exact ⟨Nat.zero_le _, _, hK, rfl⟩)
      refine ⟨_, results_tmp rfl _ _ _, .slice (some ⟨g, 0, none⟩) (fsOf xs).length gc, rfl, hfin, ?_⟩
      exact hB3.trans (belowK_b (w := w) (Nat.le_refl _) _ D _ _ (by omega) hK rfl rfl)
  case stop =>
    rintro D c pre W3 hD hpre h hK
    exact h.elim
end Go.Proofs.YtaalecdokidmnaaGreatDoor

namespace Go.Proofs.YtaalecdokidmnaaGreatDoor
open Go Go.RowKit

set_option maxRecDepth 100000 in
theorem new_ok (p : Int) (s : ByteArray) (w : World) :
    Calls Tryz.prog 47 #[.int .i64 0, .int .i64 p, .string s] w fun e w' => e = .returned .nilIface ∧ w = w' := by
  go_enter Tryz.func47, Tryz.ntmps47
  go_wp2
  go_ret
  exact ⟨rfl, rfl⟩
end Go.Proofs.YtaalecdokidmnaaGreatDoor

namespace Go.Proofs.YtaalecdokidmnaaGreatDoor
open Go Go.RowKit

abbrev Item := Int × ByteArray
/-- A slice of items that came in, as it reads. -/
def ItemsAt (w : World) (v : Value) (its : List Item) : Prop :=
  (v = .slice none 0 0 ∧ its = []) ∨ ∃ a cap, v = .slice (some a) its.length cap ∧ its.length ≤ cap ∧ cap ≤ maxLen ∧
    ∀ i x, its[i]? = some x → w.cell? (a.add (i * 2)) = some (.int .i64 x.1) ∧ w.cell? (a.add (i * 2 + 1)) = some (.string x.2)

end Go.Proofs.YtaalecdokidmnaaGreatDoor

/-! XPiece -/
namespace Go.Proofs.YtaalecdokidmnaaGreatDoor
open Go

variable {F : Fence} {n : Nat} {P : Program} {b : Frame} {a : Act} {k : List Go.Item} {cs : List Frame} {w : World} {Q : Exit → Act → World → Prop}

theorem stepR_scope {c : Code} : step P (lone (b.atR a (.code (.scope c) :: k)) cs w) = .next (lone (b.atR a (.code c :: .inScope c :: k)) cs w) :=
  step_lone_go (by simp [stepG, stepG.exec, Frame.atR])
theorem stepR_inScope {c : Code} : step P (lone (b.atR a (.inScope c :: k)) cs w) = .next (lone (b.atR a k) cs w) :=
  step_lone_go (by simp [stepG, stepG.exec, Frame.atR])

theorem wpIn_scope_straight {c : Code} (h : c.wpIn F n P (Exit.noGoto Q) a w) : (Code.scope c).wpIn F n P Q a w := by
  intro b k cs hro hb hr
  have h0 : (lone (b.atR a (.code (.scope c) :: k)) cs w).fenced P F := fenced_calm hb hr rfl
  obtain ⟨e, a₁, w₁, hq, harr⟩ := h b (.inScope c :: k) cs hro hb hr
  cases e with
  | normal => exact ⟨.normal, a₁, w₁, hq, .head h0 stepR_scope (StepsIn.trans harr (.one (fenced_calm hb hr rfl) stepR_inScope))⟩
  | exit id =>
    have hx : exitTo id (.inScope c :: k) = exitTo id k := by simp [exitTo]
    exact ⟨.exit id, a₁, w₁, hq, fun k' hk => .head h0 stepR_scope (harr.1 k' (by rw [hx]; exact hk)),
      fun hr' hk => let ⟨k₁, h1, h2⟩ := harr.2 hr' (by rw [hx]; exact hk); ⟨k₁, h1, .head h0 stepR_scope h2⟩⟩
  | goto l => exact hq.elim
  | ret => exact ⟨_, a₁, w₁, hq, .of_steps (.one h0 stepR_scope) harr⟩
  | panic ch => exact ⟨_, a₁, w₁, hq, .of_steps (.one h0 stepR_scope) harr⟩
  | outgrown => exact ⟨_, a₁, w₁, hq, .of_steps (.one h0 stepR_scope) harr⟩
end Go.Proofs.YtaalecdokidmnaaGreatDoor

namespace Go.Proofs.YtaalecdokidmnaaGreatDoor
open Go Go.RowKit

end Go.Proofs.YtaalecdokidmnaaGreatDoor

namespace Go.Proofs.YtaalecdokidmnaaGreatDoor
open Go Go.RowKit

end Go.Proofs.YtaalecdokidmnaaGreatDoor

namespace Go.Proofs.YtaalecdokidmnaaGreatDoor
open Go Go.RowKit

attribute [local go_sem] Oper.semAt_some

/-- One round of Each: the last piece, or one piece more. -/
theorem each_step (s : ByteArray) (a : Nat) (ha : a ≤ s.size) :
    (Lib.indexByte (bs (s.extract a s.size)) 45 = -1 ∧ placed a (spl ((bs s).drop a)) = [(a, s.extract a s.size)]) ∨
    ∃ m : Nat, Lib.indexByte (bs (s.extract a s.size)) 45 = (m : Int) ∧ a + m + 1 ≤ s.size ∧ placed a (spl ((bs s).drop a)) = (a, s.extract a (a + m)) :: placed (a + m + 1) (spl ((bs s).drop (a + m + 1))) := by
  rw [drop_extract, bs_ofL]
  rcases idx_cases ((bs s).drop a) with ⟨h1, h2⟩ | ⟨p, r, h1, h2, h3⟩
  · refine .inl ⟨h1, ?_⟩
    rw [spl_plain h2]; rfl
  · refine .inr ⟨p.length, h1, ?_, ?_⟩
    · have := congrArg List.length h2
      rw [List.length_drop, size_bs] at this
      simp at this; omega
    · have hr : (bs s).drop (a + p.length + 1) = r := by
        have e := congrArg (List.drop (p.length + 1)) h2
        rw [List.drop_drop, ← Nat.add_assoc] at e
        rw [e, show p ++ 45 :: r = (p ++ [45]) ++ r by simp, List.drop_left' (by simp)]
      have hp : s.extract a (a + p.length) = ofL p := by
        apply ofL_ext
        rw [bs_ofL, bs_extract, h2, show a + p.length - a = p.length by omega, List.take_left]
      rw [hr, hp]
      conv => lhs; rw [h2, spl_app, spl_plain h3]
      rfl

theorem slice_mid (s : ByteArray) (a m : Nat) (h : a + m ≤ s.size) (w : World) :
    (Instr.slice 9 (.string s) (some (.int .i64 (a : Int))) (some (.int .i64 ((a : Int) + (m : Int)))) none).run Tryz.prog w = .ok (.string (s.extract a (a + m))) w := by
  rw [run_slice_string w 9 s .i64 .i64 (a : Int) ((a : Int) + (m : Int)) Tryz.underlying9 (by omega) (by omega) (by omega), show ((a : Int) + (m : Int)).toNat = a + m by omega, Int.toNat_natCast]

end Go.Proofs.YtaalecdokidmnaaGreatDoor

namespace Go.Proofs.YtaalecdokidmnaaGreatDoor
open Go Go.RowKit

attribute [local go_sem] Oper.semAt_some

/-- The blocks that a round leaves alone: those below a call's start, and the iterator's own box. -/
def qOf (n b : Nat) (k : Nat) : Prop := k < n ∨ k = b

end Go.Proofs.YtaalecdokidmnaaGreatDoor

namespace Go.Proofs.YtaalecdokidmnaaGreatDoor
open Go Go.RowKit

end Go.Proofs.YtaalecdokidmnaaGreatDoor

namespace Go.Proofs.YtaalecdokidmnaaGreatDoor
open Go Go.RowKit

attribute [local go_sem] Oper.semAt_some

theorem badOf_append (a b : List (Nat × ByteArray)) : badOf (a ++ b) = if badOf a = none then badOf b else badOf a := by
  induction a with
  | nil => simp [badOf]
  | cons x r ih =>
    rw [List.cons_append]
    by_cases h : okS x.2 = true
    · simp only [badOf, h, if_true]; exact ih
    · simp [badOf, h]

def CkI (w : World) (pre : List (Nat × ByteArray)) (W : World) : Prop :=
  badOf pre = none ∧ W.heap[w.heap.size]? = some (.cells #[.int .i64 0] 53 (0, 0)) ∧ W.heap[w.heap.size + 1]? = some (.cells #[.int .i64 0] 3 (0, 0)) ∧ Below w.heap.size w W
def CkX (w : World) (c : Code) (pre : List (Nat × ByteArray)) (W : World) : Prop :=
  c = .exit 0 ∧ (∃ a : Nat, (∀ rest, badOf (pre ++ rest) = some a) ∧ W.heap[w.heap.size]? = some (.cells #[.int .i64 10] 53 (0, 0)) ∧ W.heap[w.heap.size + 1]? = some (.cells #[.int .i64 (a : Int)] 3 (0, 0))) ∧ Below w.heap.size w W

theorem ck_exit {w W3 : World} {k j : Int} {hi : Nat} {fr : Obj → Bool} {a : Nat} {pre : List (Nat × ByteArray)} (h0 : W3.heap[w.heap.size]? = some (.cells #[.int .i64 k] 53 (0, 0))) (h1 : W3.heap[w.heap.size + 1]? = some (.cells #[.int .i64 j] 3 (0, 0)))
    (hB : Below w.heap.size w W3) (hhi : w.heap.size + 2 ≤ hi) (hbad : ∀ rest, badOf (pre ++ rest) = some a) :
    KeepQ (qOf w.heap.size (w.heap.size + 2)) hi fr W3 ((W3.setCell ⟨w.heap.size, 0, none⟩ (.int .i64 10)).setCell ⟨w.heap.size + 1, 0, none⟩ (.int .i64 (a : Int))) ∧
      CkX w (.exit 0) pre ((W3.setCell ⟨w.heap.size, 0, none⟩ (.int .i64 10)).setCell ⟨w.heap.size + 1, 0, none⟩ (.int .i64 (a : Int))) := by
  have e1 : (W3.setCell ⟨w.heap.size, 0, none⟩ (.int .i64 10)).heap[w.heap.size + 1]? = some (.cells #[.int .i64 j] 3 (0, 0)) := (Below.heap_setCell _ _ _ _ (by show w.heap.size + 1 ≠ w.heap.size; omega)).trans h1
  refine ⟨(KeepQ.setCell _ _ _ _ (p := ⟨w.heap.size, 0, none⟩) _ (by unfold qOf; show ¬ (w.heap.size < w.heap.size ∨ w.heap.size = w.heap.size + 2); omega) (by show w.heap.size < hi; omega)).trans
      (KeepQ.setCell _ _ _ _ (p := ⟨w.heap.size + 1, 0, none⟩) _ (by unfold qOf; show ¬ (w.heap.size + 1 < w.heap.size ∨ w.heap.size + 1 = w.heap.size + 2); omega) (by show w.heap.size + 1 < hi; omega)), rfl, ⟨a, hbad, ?_, one_setCell e1⟩, ?_⟩
  · exact (Below.heap_setCell _ _ _ _ (by show w.heap.size ≠ w.heap.size + 1; omega)).trans (one_setCell h0)
  · exact (hB.setCell (p := ⟨w.heap.size, 0, none⟩) (Nat.le_refl _) _).setCell (p := ⟨w.heap.size + 1, 0, none⟩) (by show w.heap.size ≤ w.heap.size + 1; omega) _

end Go.Proofs.YtaalecdokidmnaaGreatDoor

namespace Go.Proofs.YtaalecdokidmnaaGreatDoor
open Go Go.RowKit

end Go.Proofs.YtaalecdokidmnaaGreatDoor

namespace Go.Proofs.YtaalecdokidmnaaGreatDoor
open Go Go.RowKit

end Go.Proofs.YtaalecdokidmnaaGreatDoor

/-! XETags -/
namespace Go.Proofs.YtaalecdokidmnaaGreatDoor
open Go Go.RowKit

theorem gC_reg (k : Nat) (hk : k < 26) : gC[k * 2 + 1]? = some (.bool (regG k)) := by
  have h : k = 0 ∨ k = 1 ∨ k = 2 ∨ k = 3 ∨ k = 4 ∨ k = 5 ∨ k = 6 ∨ k = 7 ∨ k = 8 ∨ k = 9 ∨ k = 10 ∨ k = 11 ∨ k = 12 ∨ k = 13 ∨ k = 14 ∨ k = 15 ∨ k = 16 ∨ k = 17 ∨ k = 18 ∨ k = 19 ∨ k = 20 ∨ k = 21 ∨ k = 22 ∨ k = 23 ∨ k = 24 ∨ k = 25 := by omega
  rcases h with rfl | rfl | rfl | rfl | rfl | rfl | rfl | rfl | rfl | rfl | rfl | rfl | rfl | rfl | rfl | rfl | rfl | rfl | rfl | rfl | rfl | rfl | rfl | rfl | rfl | rfl <;> rfl

end Go.Proofs.YtaalecdokidmnaaGreatDoor

/-! XWAll -/
namespace Go.Proofs.YtaalecdokidmnaaGreatDoor
open Go Go.RowKit

theorem between : ∀ {k a x : List UInt8}, ¬ a < k → a < k ++ x → k <+: a
  | [], _, _, _, _ => List.nil_prefix
  | _ :: _, [], _, h, _ => absurd (by simp) h
  | c :: k, d :: a, x, h1, h2 => by
    rw [List.cons_lt_cons_iff] at h1
    rw [List.cons_append, List.cons_lt_cons_iff] at h2
    rcases h2 with h2 | ⟨rfl, h2⟩
    · exact absurd (.inl h2) h1
    · rw [List.cons_prefix_cons]
      exact ⟨rfl, between (fun h => h1 (.inr ⟨rfl, h⟩)) h2⟩
end Go.Proofs.YtaalecdokidmnaaGreatDoor

namespace Go.Proofs.YtaalecdokidmnaaGreatDoor
open Go Go.RowKit

end Go.Proofs.YtaalecdokidmnaaGreatDoor

namespace Go.Proofs.YtaalecdokidmnaaGreatDoor
open Go Go.RowKit

attribute [local go_sem] Oper.semAt_some

end Go.Proofs.YtaalecdokidmnaaGreatDoor

namespace Go.Proofs.YtaalecdokidmnaaGreatDoor
open Go Go.RowKit

end Go.Proofs.YtaalecdokidmnaaGreatDoor

namespace Go.Proofs.YtaalecdokidmnaaGreatDoor
open Go Go.RowKit

end Go.Proofs.YtaalecdokidmnaaGreatDoor

namespace Go.Proofs.YtaalecdokidmnaaGreatDoor
open Go Go.RowKit

attribute [local go_sem] Oper.semAt_some

end Go.Proofs.YtaalecdokidmnaaGreatDoor

namespace Go.Proofs.YtaalecdokidmnaaGreatDoor
open Go Go.RowKit

attribute [local go_sem] Oper.semAt_some

end Go.Proofs.YtaalecdokidmnaaGreatDoor

namespace Go.Proofs.YtaalecdokidmnaaGreatDoor
open Go Go.RowKit

end Go.Proofs.YtaalecdokidmnaaGreatDoor

/-! XWApp -/
namespace Go.Proofs.YtaalecdokidmnaaGreatDoor
open Go Go.RowKit

theorem own_joinW {w : World} {base n : Nat} {v : Value} {A B : List ByteArray} (h : w.ownsRow base 9 1 v n (([] ++ strsW A) ++ strsW B)) : w.ownsRow base 9 1 v (A ++ B).length (strsW (A ++ B)) := by
  have e : n = (A ++ B).length := by have := h.1; simp [strsW] at this; simp; omega
  subst e
  rw [strsW_append]
  exact h
end Go.Proofs.YtaalecdokidmnaaGreatDoor

/-! XYMades -/
namespace Go.Proofs.YtaalecdokidmnaaGreatDoor
open Go Go.RowKit

end Go.Proofs.YtaalecdokidmnaaGreatDoor

namespace Go.Proofs.YtaalecdokidmnaaGreatDoor
open Go Go.RowKit

end Go.Proofs.YtaalecdokidmnaaGreatDoor

namespace Go.Proofs.YtaalecdokidmnaaGreatDoor
open Go Go.RowKit

end Go.Proofs.YtaalecdokidmnaaGreatDoor

namespace Go.Proofs.YtaalecdokidmnaaGreatDoor
open Go Go.RowKit

end Go.Proofs.YtaalecdokidmnaaGreatDoor

namespace Go.Proofs.YtaalecdokidmnaaGreatDoor
open Go Go.RowKit

structure AlL (x : Al) : Prop where
  k : (Lit.int .i64 x.k).wf = true
  a : x.a.size ≤ maxLen
  b : x.b.size ≤ maxLen
  l : x.l.size ≤ maxLen
  s : x.s.size ≤ maxLen
  r : x.r.size ≤ maxLen
end Go.Proofs.YtaalecdokidmnaaGreatDoor

