/-
  Package pack: mayBe, packed, clearUnless, Pack. Package pack: Put and Get. strings.TrimRight of the byte 0; package pack: clearUnless, Unpack. The document's own May, Pack. The document's own Unpack.
-/
import Derived.Test.YthjfcfhibdpbnaaBMaths
import Derived.Test.YthjfcfhibdpbnaaBase
import Derived.Lib.EndianBits
import Derived.Defers
import Derived.Recover
import Derived.StillTailTactics
/-! Package pack: mayBe, packed, clearUnless, Pack. -/
namespace Go.Proofs.Ythjfcfhibdpbnaa
open Go Go.RowKit

/-- What Pack's rounds keep: the number so far, and that nothing is told yet. -/
structure PkI (t : ByteArray) (w : World) (k : Nat) (wr : World) : Prop where
  n : wr.cell? ⟨w.heap.size, 0, none⟩ = some (.int .u64 ((num k (bs t) : Nat) : Int))
  ok : wr.cell? ⟨w.heap.size + 1, 0, none⟩ = some (.bool false)
  fn : wr.frozen? ⟨w.heap.size, 0, none⟩ = false
  fo : wr.frozen? ⟨w.heap.size + 1, 0, none⟩ = false
  bel : Below w.heap.size w wr

theorem PkI.turn {t : ByteArray} {w wr : World} {k j : Nat} (h : PkI t w k wr) (v : Int) (hv : v = ((num j (bs t) : Nat) : Int)) : PkI t w j (wr.setCell ⟨w.heap.size, 0, none⟩ (.int .u64 v)) := by
  obtain ⟨r1, r2, r3, r4, r5⟩ := h
  exact ⟨by rw [hv]; exact World.cell?_setCell_same _ _ _ r1, (World.cell?_setCell_other _ _ _ _ (by simp)).trans r2, by rw [World.frozen?_setCell]; exact r3, by rw [World.frozen?_setCell]; exact r4, r5.setCell (p := ⟨w.heap.size, 0, none⟩) (Nat.le_refl _) _⟩
theorem PkI.drew {t : ByteArray} {w wr : World} {k : Nat} (h : PkI t w k wr) : PkI t w k wr.drew := by
  obtain ⟨r1, r2, r3, r4, r5⟩ := h
  exact ⟨r1, r2, r3, r4, r5.drew⟩
end Go.Proofs.Ythjfcfhibdpbnaa

/-! Package pack: Put and Get. -/
namespace Go.Proofs.Ythjfcfhibdpbnaa
open Go Go.RowKit

/-- What Put's rounds keep. -/
def PuI (n k : Nat) (w : World) (i : Nat) (wr : World) : Prop :=
  wr.ownsRow w.heap.size 5 1 (.slice (some ⟨w.heap.size, 0, none⟩) k k) k (bcells (List.replicate (k - i) 0 ++ putL n i)) ∧ Below w.heap.size w wr
theorem PuI.start {n k : Nat} {w w1 : World} (h : w1.ownsRow w.heap.size 5 1 (.slice (some ⟨w.heap.size, 0, none⟩) k k) k (madeCells (Value.int .u8 0).cells (k * 1)).toList) (hg : w.grownBy w1 none) : PuI n k w 0 w1 := by
  refine ⟨?_, (Below.refl _ w).grown hg (Nat.le_refl _) (fun _ h => by cases h)⟩
  rw [made_bcells] at h
  simpa [putL] using h
theorem PuI.cell {n k i : Nat} {w wr : World} (h : PuI n k w i wr) (hi : i < k) : (∃ v, wr.cell? ⟨w.heap.size, k - 1 - i, none⟩ = some v) ∧ wr.frozen? ⟨w.heap.size, k - 1 - i, none⟩ = false := by
  refine ⟨?_, h.1.frozenAt _⟩
  rw [h.1.cellAt _ (by omega)]
  have hl : k - 1 - i < (bcells (List.replicate (k - i) 0 ++ putL n i)).length := by rw [length_bcells, List.length_append, List.length_replicate, length_putL]; omega
  exact ⟨_, List.getElem?_eq_getElem hl⟩
theorem put_set (n k i : Nat) (hi : i < k) : (List.replicate (k - i) 0 ++ putL n i).set (k - 1 - i) (byteAt n i) = List.replicate (k - (i + 1)) 0 ++ putL n (i + 1) := by
  rw [List.set_append_left _ _ (by rw [List.length_replicate]; omega), show k - i = (k - (i + 1)) + 1 by omega, List.replicate_succ', List.set_append_right _ _ (by rw [List.length_replicate]; omega), List.length_replicate, show k - 1 - i - (k - (i + 1)) = 0 by omega]
  simp [putL]
theorem PuI.step {n k i : Nat} {w wr : World} (h : PuI n k w i wr) (hi : i < k) : PuI n k w (i + 1) (wr.setCell ⟨w.heap.size, k - 1 - i, none⟩ (.int .u8 ((byteAt n i).toNat : Int))) := by
  refine ⟨?_, h.2.setCell (p := ⟨w.heap.size, k - 1 - i, none⟩) (Nat.le_refl _) _⟩
  have h1 := (h.1.stored (k - 1 - i) (.int .u8 ((byteAt n i).toNat : Int))).1
  rw [bcells_set, put_set n k i hi] at h1
  exact h1
theorem PuI.conv {n k : Nat} {w wr : World} (h : PuI n k w k wr) : (convert 94 9 (.slice (some ⟨w.heap.size, 0, none⟩) k k)).run Try.prog wr = .ok (.string (ofL (putL n k))) wr := by
  have h1 := h.1
  rw [Nat.sub_self, List.replicate_zero, List.nil_append] at h1
  have hl := length_putL n k
  have := conv_owned (v := .slice (some ⟨w.heap.size, 0, none⟩) k k) (B := w.heap.size) (w := wr) (putL n k)
  rw [hl] at this
  exact this h1

/- Get. -/
end Go.Proofs.Ythjfcfhibdpbnaa

/-! strings.TrimRight of the byte 0; package pack: clearUnless, Unpack. -/
namespace Go.Proofs.Ythjfcfhibdpbnaa
open Go Go.RowKit

/-- What the rounds keep: a text that trims to the same. -/
def TrI (s t : ByteArray) : Prop := t.size ≤ s.size ∧ trimZ (bs t) = trimZ (bs s)
theorem bs_last {t : ByteArray} {m : Nat} (h : t.size = m + 1) : bs t = bs (t.extract 0 m) ++ [t[m]'(by omega)] := by
  have hl : m < (bs t).length := by rw [size_bs]; omega
  rw [bs_extract, List.drop_zero, Nat.sub_zero]
  have e : (bs t).take (m + 1) = (bs t).take m ++ [t[m]'(by omega)] := bs_take_succ t m (by omega)
  rw [List.take_of_length_le (by rw [size_bs]; omega)] at e
  exact e
theorem TrI.step {s t : ByteArray} {m : Nat} (h : TrI s t) (hm : t.size = m + 1) (hc : (t[m]'(by omega)).toNat = 0) : TrI s (t.extract 0 m) := by
  refine ⟨by rw [ByteArray.size_extract]; have := h.1; omega, ?_⟩
  rw [← h.2, bs_last hm, show t[m]'(by omega) = 0 from UInt8.toNat_inj.1 (by simpa using hc), trimZ_zero]
theorem TrI.stop {s t : ByteArray} {m : Nat} (h : TrI s t) (hm : t.size = m + 1) (hc : (t[m]'(by omega)).toNat ≠ 0) : t = ofL (trimZ (bs s)) := by
  have e := bs_last hm
  rw [← h.2, e, trimZ_stop _ _ (fun h0 => hc (by rw [h0]; rfl)), ← e]
  exact (ofL_bs t).symm
theorem TrI.empty {s t : ByteArray} (h : TrI s t) (hm : t.size = 0) : t = ofL (trimZ (bs s)) := by
  have e : bs t = [] := List.eq_nil_of_length_eq_zero (by rw [size_bs]; exact hm)
  rw [← h.2, e, trimZ_nil, ← e]
  exact (ofL_bs t).symm

end Go.Proofs.Ythjfcfhibdpbnaa

/-! The document's own May, Pack. -/
namespace Go.Proofs.Ythjfcfhibdpbnaa
open Go Go.RowKit

end Go.Proofs.Ythjfcfhibdpbnaa

/-! The document's own Unpack. -/
namespace Go.Proofs.Ythjfcfhibdpbnaa
open Go Go.RowKit

/- The bytes up to the first 0. -/
def preL (l : List UInt8) : List UInt8 := l.takeWhile (· != 0)
theorem preL_zeros (l : List UInt8) (k : Nat) (h : ∀ c ∈ l, c ≠ 0) : preL (l ++ List.replicate k 0) = l := by
  unfold preL
  induction l with
  | nil => cases k <;> simp [List.replicate_succ]
  | cons c r ih =>
    have hc : (c != 0) = true := by simpa using h c (by simp)
    rw [List.cons_append, List.takeWhile_cons, if_pos hc, ih fun x hx => h x (by simp [hx])]
def preS (n : Nat) : ByteArray := ofL (preL (putL n 8))
/-- What the rounds keep. -/
structure UnI (n : Nat) (w : World) (i1 : Nat) (t : ByteArray) (wr : World) : Prop where
  le : i1 ≤ 8
  tx : bs t = (putL n 8).take (8 - i1)
  nz : ∀ c ∈ bs t, c ≠ 0
  r1 : wr.cell? ⟨w.heap.size, 0, none⟩ = some (.string ⟨#[]⟩)
  r2 : wr.cell? ⟨w.heap.size, 1, none⟩ = some (.bool false)
  r3 : wr.frozen? ⟨w.heap.size, 0, none⟩ = false
  r4 : wr.frozen? ⟨w.heap.size, 1, none⟩ = false
  sz : w.heap.size < wr.heap.size
  bel : Below w.heap.size w wr
theorem putL_get (n k j : Nat) (h : j < k) : (putL n k)[j]? = some (byteAt n (k - 1 - j)) := by
  induction k generalizing j with
  | zero => omega
  | succ k ih =>
    cases j with
    | zero => simp [putL]
    | succ j => rw [putL, List.getElem?_cons_succ, ih j (by omega)]; congr 2; omega
theorem takeWhile_stop (l r : List UInt8) (h : ∀ c ∈ l, c ≠ 0) : preL (l ++ 0 :: r) = l := by
  unfold preL
  induction l with
  | nil => simp
  | cons c q ih =>
    have hc : (c != 0) = true := by simpa using h c (by simp)
    rw [List.cons_append, List.takeWhile_cons, if_pos hc, ih fun x hx => h x (by simp [hx])]
theorem UnI.fin {n : Nat} {w wr : World} {t : ByteArray} (h : UnI n w 0 t wr) : t = preS n := by
  have h1 := h.tx
  rw [Nat.sub_zero, List.take_of_length_le (by rw [length_putL]; omega)] at h1
  unfold preS
  have h2 := preL_zeros (bs t) 0 h.nz
  rw [List.replicate_zero, List.append_nil, h1] at h2
  rw [h2, ← h1]
  exact (ofL_bs t).symm
theorem UnI.stop {n i : Nat} {w wr : World} {t : ByteArray} (h : UnI n w (i + 1) t wr) (hz : byteAt n i = 0) : t = preS n := by
  have hi := h.le
  have hg := putL_get n 8 (8 - (i + 1)) (by omega)
  rw [show 8 - 1 - (8 - (i + 1)) = i by omega, hz] at hg
  obtain ⟨hlt, hg'⟩ := List.getElem?_eq_some_iff.1 hg
  have e : putL n 8 = bs t ++ 0 :: (putL n 8).drop (8 - (i + 1) + 1) := by
    conv => lhs; rw [← List.take_append_drop (8 - (i + 1)) (putL n 8)]
    rw [h.tx, List.drop_eq_getElem_cons hlt, hg']
  unfold preS
  rw [e, takeWhile_stop _ _ h.nz]
  exact (ofL_bs t).symm
theorem UnI.step {n i : Nat} {w wr wx : World} {t : ByteArray} (h : UnI n w (i + 1) t wr) (hz : byteAt n i ≠ 0) (hb : Below wr.heap.size wr wx) : UnI n w i (t ++ ofL [byteAt n i]) wx := by
  obtain ⟨h1, h2, h3, h4, h5, h6, h7, h8, h9⟩ := h
  have hg := putL_get n 8 (8 - (i + 1)) (by omega)
  rw [show 8 - 1 - (8 - (i + 1)) = i by omega] at hg
  have e : bs (t ++ ofL [byteAt n i]) = bs t ++ [byteAt n i] := by
    conv => lhs; rw [← ofL_bs t, ofL_append, bs_ofL]
  refine ⟨by omega, ?_, ?_, (hb.cell (p := ⟨w.heap.size, 0, none⟩) h8).trans h4, (hb.cell (p := ⟨w.heap.size, 1, none⟩) h8).trans h5, (hb.frozen (p := ⟨w.heap.size, 0, none⟩) h8).trans h6, (hb.frozen (p := ⟨w.heap.size, 1, none⟩) h8).trans h7, Nat.lt_of_lt_of_le h8 hb.size, h9.trans (hb.mono (Nat.le_of_lt h8))⟩
  · rw [e, h2, show 8 - i = 8 - (i + 1) + 1 by omega, List.take_add_one, hg]; rfl
  · rw [e]
    intro c hc
    rcases List.mem_append.1 hc with hc | hc
    · exact h3 c hc
    · rw [List.mem_singleton.1 hc]; exact hz
end Go.Proofs.Ythjfcfhibdpbnaa
