/-
  The document's own answers for package split: Each, Split. The document's own answers for package split: Split. The document's own answers for package split: Sub, Check. Texts joined, plain. The document's own answers for package split: Join.
-/
import Derived.Test.YthjfcfhibdpbnaaPiece
import Derived.WideShapes
import Derived.Test.YthjfcfhibdpbnaaFault
/-! The document's own answers for package split: Each, Split. -/
namespace Go.Proofs.Ythjfcfhibdpbnaa
open Go Go.RowKit

def pcells (l : List (Nat × ByteArray)) : List Value := l.flatMap fun x => [.int .i64 (x.1 : Int), .string x.2]
theorem pcells_append (a b : List (Nat × ByteArray)) : pcells (a ++ b) = pcells a ++ pcells b := by simp [pcells]
theorem pcells_length (l : List (Nat × ByteArray)) : (pcells l).length = l.length * 2 := by
  induction l with
  | nil => rfl
  | cons x r ih => simp [pcells] at ih ⊢; omega
theorem pcells_get {l : List (Nat × ByteArray)} {i : Nat} {x : Nat × ByteArray} (h : l[i]? = some x) : (pcells l)[i * 2]? = some (.int .i64 (x.1 : Int)) ∧ (pcells l)[i * 2 + 1]? = some (.string x.2) := by
  induction l generalizing i with
  | nil => simp at h
  | cons y r ih =>
    have e : pcells (y :: r) = [.int .i64 (y.1 : Int), .string y.2] ++ pcells r := rfl
    cases i with
    | zero => simp at h; subst h; rw [e]; simp
    | succ i =>
      simp at h
      obtain ⟨h1, h2⟩ := ih h
      rw [e]
      constructor
      · rw [List.getElem?_append_right (by simp; omega)]; simp; rw [show (i + 1) * 2 - 2 = i * 2 by omega]; exact h1
      · rw [List.getElem?_append_right (by simp; omega)]; simp; rw [show (i + 1) * 2 - 1 = i * 2 + 1 by omega]; exact h2
/-- What the rounds of the document's Each keep. -/
def EaR (s : ByteArray) (k a : Nat) (pre : List (Nat × ByteArray)) : Prop :=
  (k ≤ s.size ∧ a ≤ k ∧ pieces s = pre ++ placed a (spl ((bs s).drop a)) ∧ (45 : UInt8) ∉ ((bs s).take k).drop a) ∨ (k = s.size + 1 ∧ pieces s = pre)
theorem EaR.start (s : ByteArray) : EaR s 0 0 [] := .inl ⟨Nat.zero_le _, Nat.le_refl _, rfl, by simp⟩
theorem EaR.pass {s : ByteArray} {k a : Nat} {pre : List (Nat × ByteArray)} (h : EaR s k a pre) (hk : k < s.size) (hc : s[k] ≠ 45) : EaR s (k + 1) a pre := by
  rcases h with ⟨_, h2, h3, h4⟩ | ⟨h1, _⟩
  · refine .inl ⟨hk, by omega, h3, ?_⟩
    rw [bs_take_succ s k hk, List.drop_append_of_le_length (by rw [List.length_take, size_bs]; omega), List.mem_append, not_or]
    exact ⟨h4, by simpa using fun e => hc e.symm⟩
  · omega
theorem drop_split (s : ByteArray) (k a : Nat) (hk : k < s.size) (ha : a ≤ k) (hc : s[k] = 45) : (bs s).drop a = ((bs s).take k).drop a ++ 45 :: (bs s).drop (k + 1) := by
  have e : bs s = (bs s).take k ++ 45 :: (bs s).drop (k + 1) := by
    have hk' : k < (bs s).length := by rw [size_bs]; exact hk
    have hg : (bs s)[k] = 45 := by
      have := bs_get s k hk
      rw [List.getElem?_eq_getElem hk'] at this
      rw [Option.some.inj this, hc]
    conv => lhs; rw [← List.take_append_drop k (bs s), List.drop_eq_getElem_cons hk', hg]
  conv => lhs; rw [e]
  rw [List.drop_append_of_le_length (by rw [List.length_take, size_bs]; omega)]
theorem extract_take (s : ByteArray) (a k : Nat) : s.extract a k = ofL (((bs s).take k).drop a) := by
  apply ofL_ext
  rw [bs_ofL, bs_extract, List.drop_take]
theorem EaR.put {s : ByteArray} {k a : Nat} {pre : List (Nat × ByteArray)} (h : EaR s k a pre) (hk : k < s.size) (hc : s[k] = 45) : EaR s (k + 1) (k + 1) (pre ++ [(a, s.extract a k)]) := by
  rcases h with ⟨_, h2, h3, h4⟩ | ⟨h1, _⟩
  · refine .inl ⟨hk, Nat.le_refl _, ?_, by rw [List.drop_of_length_le (by rw [List.length_take]; omega)]; simp⟩
    rw [h3, drop_split s k a hk h2 hc, spl_app, spl_plain h4, List.append_assoc]
    have hl : a + (((bs s).take k).drop a).length + 1 = k + 1 := by rw [List.length_drop, List.length_take, size_bs]; omega
    show pre ++ ((a, ofL (((bs s).take k).drop a)) :: placed (a + (((bs s).take k).drop a).length + 1) (spl ((bs s).drop (k + 1)))) = _
    rw [hl, extract_take]; rfl
  · omega
theorem EaR.last {s : ByteArray} {a : Nat} {pre : List (Nat × ByteArray)} (h : EaR s s.size a pre) : EaR s (s.size + 1) (s.size + 1) (pre ++ [(a, s.extract a s.size)]) := by
  rcases h with ⟨_, h2, h3, h4⟩ | ⟨h1, _⟩
  · refine .inr ⟨rfl, ?_⟩
    rw [List.take_of_length_le (by rw [size_bs]; exact Nat.le_refl _)] at h4
    rw [h3, spl_plain h4, drop_extract]; rfl
  · omega
theorem EaR.len {s : ByteArray} {k a : Nat} {pre : List (Nat × ByteArray)} (h : EaR s k a pre) : pre.length ≤ s.size + 1 := by
  have h1 : pre.length ≤ (pieces s).length := by
    rcases h with ⟨_, _, h3, _⟩ | ⟨_, h3⟩
    · rw [h3, List.length_append]; omega
    · rw [h3]; exact Nat.le_refl _
  have := splS_le s
  rw [pieces_length] at h1
  omega
theorem EaR.le {s : ByteArray} {k a : Nat} {pre : List (Nat × ByteArray)} (h : EaR s k a pre) (hk : k ≤ s.size) : a ≤ k := by
  rcases h with ⟨_, h2, _⟩ | ⟨h1, _⟩ <;> omega
theorem EaR.fin {s : ByteArray} {a : Nat} {pre : List (Nat × ByteArray)} (h : EaR s (s.size + 1) a pre) : pieces s = pre := by
  rcases h with ⟨h1, _⟩ | ⟨_, h⟩
  · omega
  · exact h

theorem cell_pair (w : World) (x y : Value) (t : TypeId) : ∀ j u, [x, y][j]? = some u → (w.alloc (.cells #[x, y] t)).cell? ((⟨w.heap.size, 0, none⟩ : Addr).add j) = some u := by
  intro j u h
  rw [Go.WideShapes.add_plain, Nat.zero_add]
  rcases j with _ | _ | j
  · simp at h; subst h; rw [World.cell?_alloc_at _ _ _ _ (by simp)]; rfl
  · simp at h; subst h; rw [World.cell?_alloc_at _ _ _ _ (by simp)]; rfl
  · simp at h

end Go.Proofs.Ythjfcfhibdpbnaa

/-! The document's own answers for package split: Split. -/
namespace Go.Proofs.Ythjfcfhibdpbnaa
open Go Go.RowKit

end Go.Proofs.Ythjfcfhibdpbnaa

/-! The document's own answers for package split: Sub, Check. -/
namespace Go.Proofs.Ythjfcfhibdpbnaa
open Go Go.RowKit

end Go.Proofs.Ythjfcfhibdpbnaa

/-! Texts joined, plain. -/
namespace Go.Proofs.Ythjfcfhibdpbnaa
open Go Go.RowKit

end Go.Proofs.Ythjfcfhibdpbnaa

/-! The document's own answers for package split: Join. -/
namespace Go.Proofs.Ythjfcfhibdpbnaa
open Go Go.RowKit

end Go.Proofs.Ythjfcfhibdpbnaa
