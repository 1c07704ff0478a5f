/-
  Package tag: every, over a row of texts, by what is asked of each. A map of texts to bools that the call itself has made: what was stored. Package tag: rows of rules, kept or not.
-/
import Derived.Test.YtpnhjpplfjamkaaGreatDoorFTag
import Derived.OneCell
import Derived.Maps.OwnSet
import Derived.StringKeys
/-! Package tag: every, over a row of texts, by what is asked of each. -/
namespace Go.Proofs.YtpnhjpplfjamkaaGreatDoor
open Go Go.RowKit

/-- A function asks this of each text of a row. -/
def Asks (w : World) (F : FuncId) (l : List ByteArray) (p : ByteArray → Bool) : Prop :=
  (∀ args w', (callFunc F args).run Tryz.prog w' = .ok (.enter F args) w') ∧ ∀ x ∈ l, ∀ w5, Below w.heap.size w w5 → Calls Tryz.prog F #[.string x] w5 fun e w' => e = .returned (.bool (p x)) ∧ Below w5.heap.size w5 w'
theorem Asks.below {w w' : World} {F : FuncId} {l : List ByteArray} {p : ByteArray → Bool} (h : Asks w F l p) (hb : Below w.heap.size w w') : Asks w' F l p :=
  ⟨h.1, fun x hx w5 h5 => h.2 x hx w5 (hb.trans (h5.mono hb.size))⟩

end Go.Proofs.YtpnhjpplfjamkaaGreatDoor

/-! A map of texts to bools that the call itself has made: what was stored. -/
namespace Go.Proofs.YtpnhjpplfjamkaaGreatDoor
open Go Go.RowKit Go.Maps

theorem snoc_ind {α : Type} {P : List α → Prop} (h0 : P []) (h1 : ∀ l x, P l → P (l ++ [x])) (l : List α) : P l := by
  have : ∀ r : List α, P r.reverse := fun r => by
    induction r with
    | nil => exact h0
    | cons a r ih => rw [List.reverse_cons]; exact h1 _ _ ih
  have h := this l.reverse
  rwa [List.reverse_reverse] at h
def keyL (s : ByteArray) : Lit := .string s.data.toList
def hasT (l : List ByteArray) (x : ByteArray) : Bool := l.any fun y => decide (y = x)
def setD (l : List ByteArray) : DataW Unit := setOf (.lit (.bool true)) (l.map keyL)
theorem keyL_lit (s : ByteArray) : WideAt.IsKeyLit (keyL s) := by simp [keyL, WideAt.IsKeyLit]
theorem setD_lits (l : List ByteArray) : ∀ x ∈ l.map keyL, WideAt.IsKeyLit x := fun x hx => by obtain ⟨s, _, rfl⟩ := List.mem_map.1 hx; exact keyL_lit s
theorem setD_snoc (l : List ByteArray) (x : ByteArray) : setD (l ++ [x]) = (setD l).put (keyL x) (.lit (.bool true)) := by
  unfold setD
  rw [List.map_append, List.map_cons, List.map_nil, setOf_snoc]
theorem setD_tidy (l : List ByteArray) : Tidy (setD l) := tidy_setOf _ _ (setD_lits l)
theorem hasT_snoc (l : List ByteArray) (y x : ByteArray) : hasT (l ++ [y]) x = (hasT l x || decide (y = x)) := by simp [hasT, List.any_append]
theorem setD_at (l : List ByteArray) (x : ByteArray) : (setD l).atKey (keyL x) (.lit (.bool false)) = .lit (.bool (hasT l x)) := by
  induction l using snoc_ind with
  | h0 => rfl
  | h1 l y ih =>
    rw [setD_snoc, hasT_snoc]
    by_cases h : y = x
    · subst h
      rw [atKey_put_same (setD_tidy l).isMap (keyL_lit y)]
      simp
    · rw [atKey_put_other (fun e => h (by
        have : x.data.toList = y.data.toList := by simpa [keyL] using e
        exact (ofL_ext this).symm)), ih]
      simp [h]
def diffT (pre : List ByteArray) (x : ByteArray) : Bool := pre.all fun y => decide (y ≠ x)
theorem diffT_has (l : List ByteArray) (x : ByteArray) : diffT l x = !hasT l x := by
  unfold diffT hasT
  induction l with
  | nil => rfl
  | cons a r ih => simp only [List.all_cons, List.any_cons, ih, Bool.not_or]; simp
end Go.Proofs.YtpnhjpplfjamkaaGreatDoor

/-! Package tag: rows of rules, kept or not. -/
namespace Go.Proofs.YtpnhjpplfjamkaaGreatDoor
open Go Go.RowKit

/-- A row of values, readable cell by cell. -/
def FRow (W : World) (v : Value) (l : List (Value × Bool)) : Prop :=
  ∃ ao cap, v = .slice ao l.length cap ∧ ∀ i x, l[i]? = some x → ∃ g, ao = some ⟨g, 0, none⟩ ∧ W.cell? ⟨g, i, none⟩ = some x.1
theorem FRow.below {W W' : World} {v : Value} {l : List (Value × Bool)} (h : FRow W v l) (hb : Below W.heap.size W W') : FRow W' v l := by
  obtain ⟨ao, cap, rfl, hc⟩ := h
  refine ⟨ao, cap, rfl, fun i x hx => ?_⟩
  obtain ⟨g, h1, h2⟩ := hc i x hx
  exact ⟨g, h1, (hb.cell (p := ⟨g, i, none⟩) (lt_of_cellF h2)).trans h2⟩
end Go.Proofs.YtpnhjpplfjamkaaGreatDoor
