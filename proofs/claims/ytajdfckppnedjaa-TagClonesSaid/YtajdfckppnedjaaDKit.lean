/-
  What the laws of layer 4 share: contracts that go on from the start of the law.
-/
import Derived.Test.YtajdfckppnedjaaDAwake
import Derived.Test.YtajdfckppnedjaaDSame
namespace Go.Proofs.Ytajdfckppnedjaa
open Go Go.RowKit

/-- Where a piece stands. -/
theorem placed_at (s : ByteArray) : ∀ (n a : Nat), s.size - a = n → a ≤ s.size → ∀ y ∈ placed a (spl ((bs s).drop a)), y.1 + y.2.size ≤ s.size ∧ s.extract y.1 (y.1 + y.2.size) = y.2 := by
  intro n
  induction n using Nat.strongRecOn with
  | _ n ih =>
    intro a hn ha y hy
    rcases each_step s a ha with ⟨_, h2⟩ | ⟨m, _, h3, h2⟩
    · rw [h2] at hy
      obtain rfl := List.mem_singleton.1 hy
      have e : (s.extract a s.size).size = s.size - a := by rw [ByteArray.size_extract]; omega
      refine ⟨by simp only [e]; omega, ?_⟩
      simp only [e]
      rw [show a + (s.size - a) = s.size by omega]
    · rw [h2] at hy
      rcases List.mem_cons.1 hy with rfl | hy
      · have e : (s.extract a (a + m)).size = m := by rw [ByteArray.size_extract]; omega
        refine ⟨by simp only [e]; omega, ?_⟩
        simp only [e]
      · exact ih (s.size - (a + m + 1)) (by omega) (a + m + 1) rfl (by omega) y hy
theorem pieces_at {s : ByteArray} {y : Nat × ByteArray} (h : y ∈ pieces s) : y.1 + y.2.size ≤ s.size ∧ s.extract y.1 (y.1 + y.2.size) = y.2 :=
  placed_at s s.size 0 rfl (Nat.zero_le _) y h
theorem prefix_get {s : ByteArray} {pre : List (Nat × ByteArray)} {y : Nat × ByteArray} (h : pre ++ [y] <+: pieces s) : (pieces s)[pre.length]? = some y ∧ (splS s)[pre.length]? = some y.2 ∧ y ∈ pieces s ∧ pre.length + 1 ≤ (splS s).length := by
  have h1 : (pieces s)[pre.length]? = some y := by
    obtain ⟨r, hr⟩ := h
    rw [← hr, List.append_assoc, List.getElem?_append_right (Nat.le_refl _)]; simp
  refine ⟨h1, ?_, h.subset (by simp), ?_⟩
  · rw [← pieces_map, List.getElem?_map, h1]; rfl
  · have := h.length_le
    rw [pieces_length] at this
    simpa using this

theorem bs_glue (a b : ByteArray) : bs (a ++ ⟨#[45]⟩ ++ b) = bs a ++ 45 :: bs b := by
  simp [bs, ByteArray.data_append]
theorem size_glue (a b : ByteArray) : (a ++ ⟨#[45]⟩ ++ b).size = a.size + 1 + b.size := by
  rw [← size_bs, bs_glue, List.length_append, List.length_cons, size_bs, size_bs]; omega
theorem splS_glue (a b : ByteArray) : splS (a ++ ⟨#[45]⟩ ++ b) = splS a ++ splS b := by
  unfold splS; rw [bs_glue, spl_app, List.map_append]
theorem strs_one (l : List ByteArray) : ∀ u ∈ strs l, u.oneCell' = true := by
  intro u hu
  obtain ⟨p, _, rfl⟩ := List.mem_map.1 hu
  rfl
theorem strs_append (a b : List ByteArray) : strs (a ++ b) = strs a ++ strs b := List.map_append ..

end Go.Proofs.Ytajdfckppnedjaa
