/-
  A range over a function whose variable is a new one each round, in memory (its address is taken): the law of XSeqs' rangeQ, with what the assignment makes. No program is named here.
-/
import Derived.Test.YthjfcfhibdpbnaaSeqs
namespace Go.Proofs.Ythjfcfhibdpbnaa
open Go Go.RowKit

set_option maxRecDepth 100000 in
theorem rangeA {P : Program} {α : Type} {n : Nat} {g : Operand} {ps : Array Tmp} {assign body : Code} {Q : Exit → Act → World → Prop} {a : Act} {w : World}
    {gf : Nat} {lb : Array Value} (hg : a.eval g = .func (.func gf) #[] lb) (eg : ∀ args w, (callFunc gf args).run P w = .ok (.enter gf args) w)
    {encs : α → Array Value} {q : Nat → Prop} {fr : Obj → Bool} {S Sp : List α → Prop} (hseq : SeqQ P gf lb encs q fr S Sp w) (hfr : ∀ o, fr o = true → o.isCells = true) (hq : ∀ k, q k → k < w.heap.size) (hps : ∀ x, (encs x).size = ps.size)
    (I : List α → World → Prop) (Ix : Code → List α → World → Prop) (hI : OwnFrom w.heap.size I) (hIx : ∀ c, OwnFrom w.heap.size (Ix c)) (h0 : I [] w) (a₁ : α → Nat → Act) (ob : α → Obj)
    (hassign : ∀ (l : Nat) (x : α) (W : World) (K : Act → World → Prop), K (a₁ x W.heap.size) (W.alloc (ob x)) →
      assign.wpIn (Fence.wide.inRound l) (n - 1 - 1) P (Exit.then K (fun _ _ _ => False)) { tmps := (ps.zip (encs x)).foldl (fun t (p, v) => t.setIfInBounds p v) a.tmps, defers := [] } W)
    (hbody : ∀ (l : Nat) (pre : List α) (x : α) (W : World) (N : Nat), I pre W → Sp (pre ++ [x]) → w.heap.size ≤ N → N < W.heap.size → W.heap[N]? = some (ob x) → body.wpIn (Fence.wide.inRound l) (n - 1 - 1) P (endQ q w.heap.size fr I Ix (pre ++ [x]) W) (a₁ x N) W)
    (hdone : ∀ (D : Nat) (xs : List α) (W : World), w.heap.size ≤ D → S xs → I xs W → W.heap[D]? = some (.deferred (some [])) → Q .normal { a with defers := { target := .collected D, args := #[] } :: a.defers } W)
    (hstop : ∀ (D : Nat) (c : Code) (pre : List α) (W : World), w.heap.size ≤ D → Sp pre → Ix c pre W → W.heap[D]? = some (.deferred (some [])) → c.wpIn Fence.wide n P Q { a with defers := { target := .collected D, args := #[] } :: a.defers } W) :
    (Code.rangeFunc g ps assign body).wpIn Fence.wide n P Q a w := by
  refine wpIn_rangeFunc ?_
  intro fn _
  have hro : Fence.wide.round = none := rfl
  rw [hro]
  obtain ⟨rec, hrec⟩ : ∃ rec : LoopState → Option Code → Loop, rec = fun st pe => { state := st, pending := pe, fn, tmps := a.tmps, params := ps, assign, body, defers := w.heap.size } := ⟨_, rfl⟩
  obtain ⟨W1, hW1⟩ : ∃ W1, (w.alloc (.deferred (some []))).alloc (.loop (rec .ready none)) = W1 := ⟨_, rfl⟩
  have hs1 : W1.heap.size = w.heap.size + 1 + 1 := by rw [← hW1]; simp
  have hL1 : W1.heap[w.heap.size + 1]? = some (.loop (rec .ready none)) := by
    have := World.alloc_heap_new (w.alloc (.deferred (some []))) (.loop (rec .ready none))
    rw [← hW1]; rwa [World.size_alloc] at this
  have hK1 : W1.heap[w.heap.size]? = some (.deferred (some [])) := by
    rw [← hW1]; exact (Below.heap_alloc _ _ _ (by simp)).trans (World.alloc_heap_new w _)
  have hI1 : I [] W1 := by rw [← hW1]; exact hI.alloc _ (hI.alloc _ h0)
  have hb1 : Below w.heap.size w W1 := by rw [← hW1]; exact ((Below.refl _ w).alloc (Nat.le_refl _) _).alloc (by simp) _
  refine ⟨w.heap.size + 1, [{ target := .collected w.heap.size, args := #[] }], W1, { target := .fn (.func gf) lb, args := #[.func (.yield (w.heap.size + 1)) #[] #[]] }, W1, gf,
    #[.func (.yield (w.heap.size + 1)) #[] #[]] ++ lb, W1, by rw [← hW1, hrec]; exact run_enterLoop_outer _ _ _ _ _, by simp only [resolve, hg]; simp [go_sem], fun _ _ => trivial, by simp [invoke, go_sem, eg], fun h => (by simp [Fence.wide] at h), ?_⟩
  refine (hseq (n - 1) (w.heap.size + 1)
    (fun pre W => (I pre W ∧ w.heap.size ≤ W.heap.size) ∧ (W.heap[w.heap.size + 1]? = some (.loop (rec .ready none)) ∧ W.heap[w.heap.size]? = some (.deferred (some []))))
    (fun pre W => ∃ c, Ix c pre W ∧ (W.heap[w.heap.size + 1]? = some (.loop (rec .done (some c))) ∧ W.heap[w.heap.size]? = some (.deferred (some []))))
    W1 hb1 ?own1 ?own2 ?round ⟨⟨hI1, by omega⟩, hL1, hK1⟩).mono ?after
  case own1 =>
    intro s A B row hs hg' hr
    exact ⟨⟨(ownFrom_le hI (by omega)) s A B row hs.1.1 hg' hr, Nat.le_trans hs.1.2 hg'.size⟩, ownFrom_block (β := Unit) (by omega) () A B row hs.2.1 hg' hr, ownFrom_block (β := Unit) (by omega) () A B row hs.2.2 hg' hr⟩
  case own2 =>
    rintro s A B row ⟨c, h1, h2, h3⟩ hg' hr
    exact ⟨c, (ownFrom_le (hIx c) (by omega)) s A B row h1 hg' hr, ownFrom_block (β := Unit) (by omega) () A B row h2 hg' hr, ownFrom_block (β := Unit) (by omega) () A B row h3 hg' hr⟩
  case round =>
    rintro pre x W ⟨⟨hi, hws⟩, hl, hk⟩ hlen
    have hlt : w.heap.size + 1 < W.heap.size := (Array.getElem?_eq_some_iff.1 hl).1
    have hy := run_yield (P := P) (args := encs x) hl (by rw [hrec]; exact hps x)
    rw [hrec] at hy
    refine ⟨fn, _, assign, body, hy, roundIn_of_wpIn (F := Fence.wide) trivial (hassign _ x W _ ?_)⟩
    clear hy
    obtain ⟨V, hV⟩ : ∃ V, W.alloc (ob x) = V := ⟨_, rfl⟩
    have hbV : Below W.heap.size W V := by rw [← hV]; exact (Below.refl _ W).alloc (Nat.le_refl _) _
    have hnV : V.heap[W.heap.size]? = some (ob x) := by rw [← hV]; exact World.alloc_heap_new W _
    have hlV := (hbV.block _ hlt).trans hl
    have hkV := (hbV.block w.heap.size (by omega)).trans hk
    have hltV : w.heap.size + 1 < V.heap.size := Nat.lt_of_lt_of_le hlt hbV.size
    have hiV : I pre V := by rw [← hV]; exact hI.alloc _ hi
    rw [hV]
    refine ⟨_, run_beginRound hlV (by rw [hrec]), ?_⟩
    obtain ⟨W2, hW2⟩ : ∃ W2, V.putObj (w.heap.size + 1) (.loop { rec .ready none with state := .busy }) = W2 := ⟨_, rfl⟩
    have hl2 : W2.heap[w.heap.size + 1]? = some (.loop { rec .ready none with state := .busy }) := by rw [← hW2]; exact World.putObj_heap_same hltV
    have hk2 : W2.heap[w.heap.size]? = some (.deferred (some [])) := by rw [← hW2]; exact (World.putObj_heap_other (by omega)).trans hkV
    have hw2 : KeepQ q W1.heap.size fr W W2 := by rw [← hW2]; exact (KeepQ.of_below hbV).trans (KeepQ.putObj _ hlV (fun h => by have := hq _ h; omega) (by omega))
    have hi2 : I pre W2 := by rw [← hW2]; exact hI.putObj _ hiV (by omega) hlV rfl
    have hn2 : W2.heap[W.heap.size]? = some (ob x) := by rw [← hW2]; exact (World.putObj_heap_other (by omega)).trans hnV
    rw [hW2]
    refine wpIn_mono (hbody _ pre x W2 W.heap.size hi2 hlen hws (by rw [← hW2]; simpa [World.putObj] using (Array.getElem?_eq_some_iff.1 hnV).1) hn2) ?_
    have fin : ∀ (jump : Option Code) (W3 : World), KeepQ q w.heap.size fr W2 W3 → ∃ W4, (Instr.endRound (w.heap.size + 1) jump).run P W3 = .ok (.bool jump.isNone) W4 ∧
        W4.heap[w.heap.size + 1]? = some (.loop (rec (if jump.isNone then .ready else .done) jump)) ∧ W4.heap[w.heap.size]? = some (.deferred (some [])) ∧ KeepQ q W1.heap.size fr W W4 ∧
        W3.grownBy W4 (some (w.heap.size + 1)) ∧ W3.heap[w.heap.size + 1]? = some (.loop { rec .ready none with state := .busy }) := by
      intro jump W3 hk3
      have nfr : ∀ o : Obj, o.isCells = false → fr o = false := fun o ho => by
        cases hfo : fr o with
        | false => rfl
        | true => rw [hfr o hfo] at ho; cases ho
      have hl3 := hk3.blk _ _ hl2 (.inr ⟨by omega, nfr _ rfl⟩)
      have hd3 := hk3.blk _ _ hk2 (.inr ⟨by omega, nfr _ rfl⟩)
      have hre := run_endRound (P := P) jump hl3
      rw [hrec] at hre
      refine ⟨_, hre, ?_, (World.putObj_heap_other (by omega)).trans hd3, ?_, grownBy_putObj' _ _ _, hl3⟩
      · rw [hrec]; exact World.putObj_heap_same (Array.getElem?_eq_some_iff.1 hl3).1
      · exact (hw2.trans (hk3.mono (fun _ h => h) (by omega))).trans (KeepQ.putObj _ hl3 (fun h => by have := hq _ h; omega) (by omega))
    rintro e a3 W3 hp
    have leave : ∀ c, KeepQ q w.heap.size fr W2 W3 → Ix c (pre ++ [x]) W3 → ∃ v W4, (Instr.endRound (w.heap.size + 1) (some c)).run P W3 = .ok v W4 ∧
        ((Ending.returned v = .returned (.bool true) ∧ (((I (pre ++ [x]) W4 ∧ w.heap.size ≤ W4.heap.size) ∧ (W4.heap[w.heap.size + 1]? = some (.loop (rec .ready none)) ∧ W4.heap[w.heap.size]? = some (.deferred (some [])))) ∧ KeepQ q W1.heap.size fr W W4)) ∨
          (Ending.returned v = .returned (.bool false) ∧ (∃ c, Ix c (pre ++ [x]) W4 ∧ (W4.heap[w.heap.size + 1]? = some (.loop (rec .done (some c))) ∧ W4.heap[w.heap.size]? = some (.deferred (some [])))) ∧ KeepQ q W1.heap.size fr W W4)) := by
      intro c hk3 hi3
      obtain ⟨W4, hr, hl4, hd4, hk4, hg4, ho⟩ := fin (some c) W3 hk3
      exact ⟨_, _, hr, .inr ⟨rfl, ⟨c, (hIx c) _ _ _ _ hi3 hg4 (fun r e => by cases e; exact ⟨by omega, _, ho, rfl⟩), hl4, hd4⟩, hk4⟩⟩
    cases e with
    | normal =>
      obtain ⟨hk3, hi3⟩ := hp
      obtain ⟨W4, hr, hl4, hd4, hk4, hg4, ho⟩ := fin none W3 hk3
      exact ⟨_, _, hr, .inl ⟨rfl, ⟨⟨hI _ _ _ _ hi3 hg4 (fun r e => by cases e; exact ⟨by omega, _, ho, rfl⟩), by have := hk4.size; omega⟩, hl4, hd4⟩, hk4⟩⟩
    | ret => exact leave _ hp.1 hp.2
    | exit id => exact leave _ hp.1 hp.2
    | goto t => exact leave _ hp.1 hp.2
    | panic ch => exact hp.elim
    | outgrown => exact hp.elim
  case after =>
    rintro e W2 ⟨⟨v, rfl⟩, (⟨xs, hS, ⟨hi, _⟩, hl, hk⟩ | ⟨pre, hSp, c, hi, hl, hk⟩)⟩
    · exact ⟨none, _, by have := run_endLoop (P := P) hl (by rw [hrec]; simp); rw [hrec] at this; exact this, hdone _ xs _ (Nat.le_refl _) hS (hI.putObj _ hi (by omega) hl rfl) ((World.putObj_heap_other (by omega)).trans hk)⟩
    · exact ⟨some c, _, by have := run_endLoop (P := P) hl (by rw [hrec]; simp); rw [hrec] at this; exact this, hstop _ c pre _ (Nat.le_refl _) hSp ((hIx c).putObj _ hi (by omega) hl rfl) ((World.putObj_heap_other (by omega)).trans hk)⟩
end Go.Proofs.Ythjfcfhibdpbnaa
