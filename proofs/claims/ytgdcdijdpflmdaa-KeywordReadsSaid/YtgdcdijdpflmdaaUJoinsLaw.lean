/-
  KeywordJoins: the walk over the law.
-/
import Derived.Test.YtgdcdijdpflmdaaUBackLaw
import Derived.Test.YtgdcdijdpflmdaaUZ
import Derived.Deep.AppendLies
namespace Go.Proofs.Ytgdcdijdpflmdaa
open Go Go.RowKit

theorem wpList_build_none9 (w : World) {ops : Array Oper} {rest : List Oper} {o : Oper} {a : Act} {Q : Exit → Act → World → Prop} (hg : o.guard = none) (hop : o.op = Op.buildSlice 26 0 #[])
    (hK : wpList Try.prog ops Q rest (a.put o.dst (.slice (some ⟨w.heap.size, 0, none⟩) 0 0)) (w.alloc (.cells #[] 9))) : wpList Try.prog ops Q (o :: rest) a w := by
  refine wpList_plain hg fun K hK' => ?_
  unfold Oper.wp
  simp [execOp, hop, Result.andThen, go_sem]
  exact hK' _ _ hK
theorem lt_of_cellF' {w : World} {p : Addr} {v : Value} (h : w.cell? p = some v) : p.block < w.heap.size := World.block_lt_of_cell? _ _ h
theorem step_appX {w W14 : World} {B : Nat} {ops : Array Oper} {o : Oper} {a : Act} {K : Act → World → Prop} {Q : Exit → Act → World → Prop} {X : Prop} (s x : Operand) (x0 : TypeInfo) (xii : Try.prog.info? 53 = some x0) (xz0 : x0.zero = some (.agg #[.string ByteArray.empty, .slice none 0 0])) (xz1 : x0.size = 2) (xz2 : x0.bytes = 40) (hgd : o.guard = none)
    (ho : o.op = .call { callee := .builtin .append, args := #[s, x], argTypes := #[27, 27] }) (v : Value) (n : Nat) (xs : List Value) (hs : a.eval s = v) (hown : w.ownsRow B 53 2 v n xs) (hb : Below B W14 w) (hB : B ≤ w.heap.size)
    (b : Option Addr) (d : Nat) (Z : List ZE) (hx : a.eval x = .slice b Z.length d) (N : (b = none → Z.length = 0) ∧ ∀ ad, b = some ad → ∀ j u, (zcells Z)[j]? = some u → w.cell? (ad.add j) = some u) (hn : n + Z.length ≤ 1000)
    (h : ∀ v' w', w'.ownsRow B 53 2 v' (n + Z.length) (xs ++ zcells Z) → Below B W14 w' → B ≤ w'.heap.size → (∀ (k : Nat) (cs : Array Value), w.heap[k]? = some (.cells cs 41 (0, 0)) → w'.heap[k]? = some (.cells cs 41 (0, 0))) → K (a.put o.dst v') w') : if Region.wanted o (yielded ops a.tmps) = true then Oper.wp Try.prog o a w K Q else X := by
  refine step_append_any w hgd s x 27 ho B 53 x0 (.agg #[.string ByteArray.empty, .slice none 0 0]) 2 40 Try.underlying27 xii xz0 xz1 xz2 (by rfl) (by decide) v n xs hs hown b Z.length d (zcells Z) hx (zcells_len Z) N.1 N.2 zcells_one (by unfold maxLen; omega) (by omega) hB ?_
  intro v' w' h1 h2
  refine h v' w' h1 (hb.grown h2 hB (fun g hg => (hown.lt g hg).1)) (Nat.le_trans hB h2.size) (fun k cs hk => (h2.block k (lt_of_heap hk) (own_not_ty hown hk (by decide)).symm).trans hk)
theorem fin_alloc {w17 W14 : World} {base n : Nat} {x y : Value} {xs : List Value} (ho : w17.ownsRow base 53 2 y n xs) (hb : Below base W14 w17) (hs : base ≤ w17.heap.size) : (w17.alloc (.cells #[x, y] 41)).heap[w17.heap.size]? = some (.cells #[x, y] 41 (0, 0)) ∧ (w17.alloc (.cells #[x, y] 41)).ownsRow base 53 2 y n xs ∧ Below base W14 (w17.alloc (.cells #[x, y] 41)) :=
  ⟨World.alloc_heap_new w17 _, ho.alloc _, hb.alloc hs _⟩
theorem fin_set {w17 W14 : World} {base n B : Nat} {x y x0 y0 : Value} {xs : List Value} (hk : w17.heap[B]? = some (.cells #[x0, y0] 41 (0, 0))) (ho : w17.ownsRow base 53 2 y n xs) (hb : Below base W14 w17) (hs : base ≤ B) : ((w17.setCell ⟨B, 0, none⟩ x).setCell ⟨B, 1, none⟩ y).heap[B]? = some (.cells #[x, y] 41 (0, 0)) ∧ ((w17.setCell ⟨B, 0, none⟩ x).setCell ⟨B, 1, none⟩ y).ownsRow base 53 2 y n xs ∧ Below base W14 ((w17.setCell ⟨B, 0, none⟩ x).setCell ⟨B, 1, none⟩ y) :=
  ⟨cells_set (k := 1) (cells_set (k := 0) hk x) y, own_setOther (own_setOther ho (own_not_ty ho hk (by decide)) _) (own_not_ty ho hk (by decide)) _, (hb.setCell hs _).setCell hs _⟩
theorem own_noneX {W : World} {g base : Nat} (h : W.heap[g]? = some (.cells #[] 53 (0, 0))) (hb : base ≤ g) : W.ownsRow base 53 2 (.slice (some ⟨g, 0, none⟩) 0 0) 0 [] :=
  ⟨rfl, .inr ⟨g, 0, #[], rfl, hb, h, Nat.le_refl _, by decide, rfl, rfl⟩⟩
def caB : ByteArray := ⟨#[99, 97]⟩
theorem joins_read (a b : List ByteArray) : readK (a ++ caB :: b) = ((readK a).1, (readK a).2 ++ (readK (caB :: b)).2) ∧ (readK (caB :: b)).1 = [] ∧ 1 ≤ (readK (caB :: b)).2.length := by
  have hl : lowS caB = caB := by decide +kernel
  have hk : isK caB = true := by decide +kernel
  have e : readK (caB :: b) = ([], (caB, (readR (b.map lowS)).1) :: (readR (b.map lowS)).2) := by
    unfold readK
    rw [List.map_cons, hl, readR_key _ hk]
  refine ⟨?_, by rw [e], by rw [e]; simp⟩
  unfold readK at *
  rw [List.map_append]
  exact readR_app _ _ (by rw [e])
end Go.Proofs.Ytgdcdijdpflmdaa
