/-
  Package fault: Whats of an error whose row is known.
-/
import Derived.Test.YtajdfckppnedjaaPlace
import Derived.RangeFuncBox
import Derived.Maps.AppendAt
import Derived.OwnWalk
import Derived.OrdersIn
namespace Go.Proofs.Ytajdfckppnedjaa
open Go Go.RowKit

attribute [local go_sem] Oper.semAt_some

/-- append onto a row of the call's own, as one step of a region that draws its order, in whatever fence. -/
theorem stepIn_append {F : Fence} {n : Nat} {P : Program} {w : World} {ops : Array Oper} {o : Oper} {a : Act} {K : Act → World → Prop} {Q : Exit → Act → World → Prop} {E : Prop}
    (hg : o.guard = none) (s x : Operand) (t : TypeId) (hop : o.op = Op.call { callee := Callee.builtin Builtin.append, args := #[s, x], argTypes := #[t, t] })
    (base : Nat) (e : TypeId) (i : TypeInfo) (z : Value) (size bytes : Nat) (h1 : P.underlying t = some (.slice e)) (h2 : P.info? e = some i) (h3 : i.zero = some z) (h4 : i.size = size) (h5 : i.bytes = bytes) (h6 : z.cells.size = size) (h7 : 0 < size)
    (v : Value) (k : Nat) (xs : List Value) (hs : a.eval s = v) (hown : w.ownsRow base e size v k xs) (ad : Addr) (m c : Nat) (news : List Value) (hx : a.eval x = .slice (some ad) m c) (hn : news.length = m * size)
    (hc : ∀ j u, news[j]? = some u → w.cell? (ad.add j) = some u) (h1c : ∀ u ∈ news, u.oneCell' = true) (b1 : k + m ≤ maxLen) (b2 : (k + m) * bytes ≤ 140737488355328) (b3 : base ≤ w.heap.size)
    (hK : ∀ v' w', w'.ownsRow base e size v' (k + m) (xs ++ news) → w.grownBy w' v.ownBlock → K (a.put o.dst v') w') :
    if Region.wanted o (yielded ops a.tmps) = true then Oper.wpIn F n P o a w K Q else E := by
  have hw : Region.wanted o (yielded ops a.tmps) = true := by simp [Region.wanted, hg]
  rw [if_pos hw]
  obtain ⟨v', w', hrun, r1, r2, _⟩ := run_append_own (P := P) w base t o.type e i z size bytes h1 h2 h3 h4 h5 h6 h7 v k xs hown ad m c news hn hc h1c b1 b2 b3
  unfold Oper.wpIn
  refine ⟨?_, ?_⟩
  · simp [Oper.about, hop, resolve, Target.leads, Sem.run_pure]
  · rw [Oper.semAt_plain F _ _ (by rw [hop]; intro c hc'; cases hc')]
    simp [execOp, hop, resolve, invoke, builtin, hs, hx, hrun, Result.andThen]
    exact hK v' w' r1 r2

theorem fsOf_length (xs : List El) : (fsOf xs).length ≤ xs.length := by
  induction xs with
  | nil => simp [fsOf]
  | cons x r ih => cases x <;> simp [fsOf] <;> omega
def whats (l : List (Nat × Int × ByteArray)) : List Value := l.map fun x => .string x.2.2
theorem stringInfo : (Try.prog.info? 9).map (fun i => (i.zero, i.size, i.bytes)) = some (some (.string ByteArray.empty), 1, 16) := by kernel_rfl

def WhI (w : World) (pre : List (Nat × Int × ByteArray)) (W : World) : Prop :=
  ∃ v, W.heap[w.heap.size]? = some (.cells #[v] 25 (0, 0)) ∧ W.ownsRow (w.heap.size + 2) 9 1 v pre.length (whats pre) ∧ Below w.heap.size w W ∧ w.heap.size + 2 ≤ W.heap.size

theorem ownFrom_row {β : Type} {B base : Nat} {e : TypeId} {sz : Nat} {v : Value} {n : Nat} {xs : List Value} : OwnFrom B (fun (_ : β) W => W.ownsRow base e sz v n xs) := fun _ X Y row hs hg hr => by
  refine hs.kept hg ?_
  rcases hs.2 with ⟨rfl, _⟩ | ⟨g, cap, cur, rfl, _, hb, _⟩
  · exact .inl rfl
  · refine .inr (fun e => ?_)
    obtain ⟨_, o, ho, hc⟩ := hr g e.symm
    rw [hb] at ho
    cases ho
    simp [Obj.isCells] at hc

/-- What a round of Whats may turn: rows of texts. -/
def frS : Obj → Bool
  | .cells _ t _ => t == 9
  | _ => false
theorem frS_cells (o : Obj) (h : frS o = true) : o.isCells = true := by
  cases o <;> first | rfl | cases h

theorem owns_shape0 {w : World} {B : Nat} {e : TypeId} {sz : Nat} {v : Value} {n : Nat} {xs : List Value} (h : w.ownsRow B e sz v n xs) : v = .slice none 0 0 ∨ ∃ g cap, v = .slice (some ⟨g, 0, none⟩) n cap := by
  rcases h.2 with ⟨h, _⟩ | ⟨g, cap, _, h, _⟩
  · exact .inl h
  · exact .inr ⟨g, cap, h⟩

theorem wh_app {lo hi : Nat} {w W3 w1 : World} {j : Nat} {v v' s : Value} {xs ys : List Value}
    (hR : W3.heap[w.heap.size]? = some (.cells #[v] 25 (0, 0))) (hown : W3.ownsRow (w.heap.size + 2) 9 1 v j xs) (hB : Below w.heap.size w W3) (hsz : w.heap.size + 2 ≤ W3.heap.size) (hlo : lo ≤ w.heap.size)
    (hown1 : w1.ownsRow (w.heap.size + 2) 9 1 v' (j + 1) ys) (hgrow : ((W3.alloc (.cells #[s] 9)).drew).grownBy w1 v.ownBlock) :
    ∃ g' cap', v' = .slice (some ⟨g', 0, none⟩) (j + 1) cap' ∧ w.heap.size + 2 ≤ g' ∧ w1.cell? ⟨w.heap.size, 0, none⟩ = some v ∧ w1.frozen? ⟨w.heap.size, 0, none⟩ = false ∧ Keep lo hi frS W3 w1 ∧
      Hid (Below w.heap.size w w1 ∧ w.heap.size + 2 ≤ w1.heap.size ∧ w1.heap[w.heap.size]? = some (.cells #[v] 25 (0, 0))) := by
  have hgs := hgrow.size
  have hsd : (W3.alloc (.cells #[s] 9)).drew.heap.size = W3.heap.size + 1 := by show (W3.alloc _).heap.size = _; simp
  have hne : ∀ r, v.ownBlock = some r → w.heap.size + 2 ≤ r := fun r e => (hown.lt r e).1
  have hblk : ∀ k, k < W3.heap.size → (W3.alloc (.cells #[s] 9)).drew.heap[k]? = W3.heap[k]? := fun k hk => Below.heap_alloc W3 _ k hk
  have hR1' : w1.heap[w.heap.size]? = some (.cells #[v] 25 (0, 0)) := (hgrow.block _ (by omega) (fun e => by have := hne _ e.symm; omega)).trans ((hblk _ (by omega)).trans hR)
  have hB1 : Below w.heap.size w w1 := ((hB.alloc hB.size _).drew).grown hgrow (by omega) (fun r e => by have := hne r e; omega)
  obtain ⟨g', cap', rfl⟩ := ownsRow_succ hown1
  refine ⟨g', cap', rfl, (hown1.lt g' rfl).1, cell_of_one hR1', free_of_one hR1', ?_, hB1, by omega, hR1'⟩
  refine (Keep.of_below (A := W3) (((Below.refl _ W3).alloc (Nat.le_refl _) _).drew)).trans (Keep.grown hgrow (fun r e => ?_))
  have hr := hne r e
  refine ⟨by omega, .inr ?_⟩
  rcases hown.2 with ⟨rfl, _⟩ | ⟨g, cap, cur, rfl, _, hb, _⟩
  · cases e
  · cases e
    exact ⟨_, (hblk g (Array.getElem?_eq_some_iff.1 hb).1).trans hb, by simp [frS]⟩

end Go.Proofs.Ytajdfckppnedjaa
