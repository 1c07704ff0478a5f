/-
  A map of texts to bools that the call itself has made (as layer 6's and layer 7's texts have it, for a seat that has neither).
-/
import Derived.Test.YtgdcdijdpflmdaaUMem
import Derived.Maps.OwnOps
import Derived.WalkLawsBesides
import Derived.OneCell
import Derived.Maps.OwnSet
import Derived.StringKeys
namespace Go.Proofs.Ytgdcdijdpflmdaa
open Go Go.RowKit Go.Maps

theorem snoc_indU {α : Type} {P : List α → Prop} (h0 : P []) (h1 : ∀ l x, P l → P (l ++ [x])) (l : List α) : P l := by
  have : ∀ r : List α, P r.reverse := fun r => by
    induction r with
    | nil => exact h0
    | cons a r ih => rw [List.reverse_cons]; exact h1 _ _ ih
  have h := this l.reverse
  rwa [List.reverse_reverse] at h
def keyLU (s : ByteArray) : Lit := .string s.data.toList
def hasTU (l : List ByteArray) (x : ByteArray) : Bool := l.any fun y => decide (y = x)
def setDU (l : List ByteArray) : DataW Unit := setOf (.lit (.bool true)) (l.map keyLU)
theorem keyL_litU (s : ByteArray) : WideAt.IsKeyLit (keyLU s) := by simp [keyLU, WideAt.IsKeyLit]
theorem keyL_sameU (a b : ByteArray) : (keyLU a).sameKey (keyLU b) = decide (a = b) := by
  by_cases h : a = b
  · subst h; simp [keyLU, Lit.sameKey]
  · have : ¬ a.data = b.data := fun e => h (by cases a; cases b; simp_all)
    simp [keyLU, Lit.sameKey, h, this]
theorem setD_litsU (l : List ByteArray) : ∀ x ∈ l.map keyLU, WideAt.IsKeyLit x := fun x hx => by obtain ⟨s, _, rfl⟩ := List.mem_map.1 hx; exact keyL_litU s
theorem setD_nilU : setDU [] = .map [] := rfl
theorem setD_snocU (l : List ByteArray) (x : ByteArray) : setDU (l ++ [x]) = (setDU l).put (keyLU x) (.lit (.bool true)) := by
  unfold setDU
  rw [List.map_append, List.map_cons, List.map_nil, setOf_snoc]
theorem setD_hasU (l : List ByteArray) (x : ByteArray) : Maps.has (setDU l) (keyLU x) = hasTU l x := by
  unfold setDU hasTU
  rw [has_setOf _ _ _ (setD_litsU l), List.any_map]
  congr 1
  funext y
  exact keyL_sameU y x
theorem setD_tidyU (l : List ByteArray) : Tidy (setDU l) := tidy_setOf _ _ (setD_litsU l)
theorem hasT_snocU (l : List ByteArray) (y x : ByteArray) : hasTU (l ++ [y]) x = (hasTU l x || decide (y = x)) := by simp [hasTU, List.any_append]
theorem setD_sizeU (l : List ByteArray) (x : ByteArray) : Maps.size (setDU (l ++ [x])) = if hasTU l x then Maps.size (setDU l) else Maps.size (setDU l) + 1 := by
  rw [setD_snocU, size_put (setD_tidyU l), setD_hasU]
theorem setD_atU (l : List ByteArray) (x : ByteArray) : (setDU l).atKey (keyLU x) (.lit (.bool false)) = .lit (.bool (hasTU l x)) := by
  induction l using snoc_indU with
  | h0 => rfl
  | h1 l y ih =>
    rw [setD_snocU, hasT_snocU]
    by_cases h : y = x
    · subst h
      rw [atKey_put_same (setD_tidyU l).isMap (keyL_litU y)]
      simp
    · rw [atKey_put_other (fun e => h (by
        have : x.data.toList = y.data.toList := by simpa [keyLU] using e
        exact (ofL_ext this).symm)), ih]
      simp [h]
theorem size_le_takeU (l : List ByteArray) : Maps.size (setDU l) ≤ l.length := by
  induction l using snoc_indU with
  | h0 => exact Nat.le_refl _
  | h1 l y ih =>
    rw [setD_sizeU]
    split <;> simp <;> omega
theorem plainElem_bool_invU {H : Type} {P : Program} {e : TypeId} (he : P.underlying e = some .bool) {v : Value} {z : DataW H × List MemPlace} (h : plainElem P e v = some z) : ∃ b, v = .bool b ∧ z = (.lit (.bool b), []) := by
  unfold plainElem at h
  rw [he] at h
  cases v <;> simp at h
  exact ⟨_, rfl, h.symm⟩
theorem wpList_lookup_own_boolU {H : Type} {P : Program} (w : World) {ops : Array Oper} {rest : List Oper} {o : Oper} {a : Act} {Q : Exit → Act → World → Prop}
    (hg : o.guard = none) (m x : Operand) (t : TypeId) (hop : o.op = Op.lookup t m x false)
    (k e : TypeId) (K : Keyed P k) (ht : P.underlying t = some (.map k e)) (he : P.underlying e = some .bool) (hz : (zeroValue e).run P w = .ok (.bool false) w) (b n : Nat) (D : DataW H)
    (hm : a.eval m = .map (some b)) (hown : w.ownsMap P k (plainElem P e) b n D) (key : Value) (kl : Lit) (hx : a.eval x = key) (hkey : keyOf P k key = some kl)
    (hK : ∀ c : Bool, D.atKey kl (.lit (.bool false)) = .lit (.bool c) → wpList P ops Q rest (a.put o.dst (.bool c)) w) :
    wpList P ops Q (o :: rest) a w := by
  refine wpList_plain hg fun K' hK' => ?_
  obtain ⟨v, ps, hrun, hv⟩ := hown.lookup K ht hz (plainElem_bool he false) hkey
  obtain ⟨c, rfl, hc⟩ := plainElem_bool_invU he hv
  simp only [Prod.mk.injEq] at hc
  unfold Oper.wp
  simp [execOp, hop, hm, hx, hrun, Result.andThen]
  exact hK' _ _ (hK c hc.1)

theorem law_strU : Maps.Keyed Try.prog 9 := Maps.string_keyed Try.underlying9
end Go.Proofs.Ytgdcdijdpflmdaa
