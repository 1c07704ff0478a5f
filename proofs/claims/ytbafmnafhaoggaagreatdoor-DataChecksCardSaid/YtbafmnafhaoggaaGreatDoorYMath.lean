/-
  Aliases as texts: which are right, their rows and keys, what rows are decoded to, and how aliases stand (plain mathematics).
-/
import Derived.Test.YtbafmnafhaoggaaGreatDoorBMaths
import Derived.Test.YtbafmnafhaoggaaGreatDoorKinds
import Derived.Test.YtbafmnafhaoggaaGreatDoorGrandR
namespace Go.Proofs.YtbafmnafhaoggaaGreatDoor
open Go Go.RowKit

/-- An alias. -/
structure Al where
  k : Int
  a : ByteArray
  b : ByteArray
  l : ByteArray
  s : ByteArray
  r : ByteArray

def smallS (s : ByteArray) : Bool := decide (s = lowS s)
def noneS (s : ByteArray) : Bool := decide (s.size = 0)
def maybeS (p : ByteArray → Bool) (s : ByteArray) : Bool := noneS s || p s
def wordS (lo hi : Nat) (s : ByteArray) : Bool := decide (lo ≤ s.size) && (decide (s.size ≤ hi) && alnumS s)
def numI (s : ByteArray) : Int := 10 * ((((bs s).getD 0 0).toNat : Int) - 48) + ((((bs s).getD 1 0).toNat : Int) - 48)
def numberS (s : ByteArray) : Bool := decide (s.size = 2) && (digitS s && (nameV (numI s)).2)

theorem smallS_iff (s : ByteArray) : smallS s = true ↔ lowS s = s := by
  unfold smallS; rw [decide_eq_true_iff]; exact ⟨fun h => h.symm, fun h => h.symm⟩
theorem size_zero {s : ByteArray} (h : s.size = 0) : s = ⟨#[]⟩ := by
  apply ofL_ext
  have : (bs s).length = 0 := by rw [size_bs]; exact h
  rw [List.length_eq_zero_iff.1 this]
/-- What the five texts must be. -/
structure Fv where
  f1 : ByteArray → Bool
  f2 : ByteArray → Bool
  f3 : ByteArray → Bool
  f4 : ByteArray → Bool
  f5 : ByteArray → Bool
def mustA (f : Fv) (x : Al) : Bool :=
  (f.f1 x.a && smallS x.a) && ((f.f2 x.b && smallS x.b) && ((f.f3 x.l && smallS x.l) && ((f.f4 x.s && smallS x.s) && (f.f5 x.r && smallS x.r))))
def fvs : Nat → Fv
  | 1 => ⟨numberS, noneS, languageS, maybeS scriptS, maybeS regionS⟩
  | 2 => ⟨languageS, regionS, languageS, noneS, noneS⟩
  | 3 => ⟨languageS, noneS, languageS, maybeS scriptS, maybeS regionS⟩
  | 4 => ⟨scriptS, noneS, noneS, scriptS, noneS⟩
  | 5 => ⟨regionS, noneS, noneS, noneS, regionS⟩
  | 6 => ⟨variantS, noneS, maybeS variantS, noneS, noneS⟩
  | _ => ⟨wordS 2 2, wordS 3 8, wordS 3 8, noneS, noneS⟩
def rightA (x : Al) : Bool := decide (1 ≤ x.k ∧ x.k ≤ 7) && mustA (fvs x.k.toNat) x

/-- What holds of a text that may be: at most eight bytes, letters and digits. -/
def Fine (p : ByteArray → Bool) : Prop := ∀ s, p s = true → s.size ≤ 8 ∧ ∀ c ∈ bs s, isN c = true
theorem fine_has {q : UInt8 → Bool} {s : ByteArray} (h : has q s = true) : ∀ c ∈ bs s, q c = true := by
  unfold has at h
  rw [Bool.and_eq_true] at h
  exact List.all_eq_true.1 h.2
theorem isA_isN {c : UInt8} (h : isA c = true) : isN c = true := by unfold isN; rw [h]; rfl
theorem isD_isN {c : UInt8} (h : isD c = true) : isN c = true := by unfold isN; rw [h, Bool.or_true]
theorem fine_none : Fine noneS := fun s h => by
  rw [size_zero (of_decide_eq_true h)]
  exact ⟨by decide, fun c hc => by simp at hc⟩
theorem fine_maybe {p : ByteArray → Bool} (h : Fine p) : Fine (maybeS p) := fun s hs => by
  unfold maybeS at hs
  rw [Bool.or_eq_true] at hs
  rcases hs with hs | hs
  · exact fine_none s hs
  · exact h s hs
theorem fine_letters (lo hi : Nat) (hh : hi ≤ 8) : Fine fun s => lettersS s lo hi := fun s h => by
  unfold lettersS alphaS at h
  rw [Bool.and_eq_true, Bool.and_eq_true, decide_eq_true_iff, decide_eq_true_iff] at h
  exact ⟨by omega, fun c hc => isA_isN (fine_has h.1 c hc)⟩
theorem fine_language : Fine languageS := fine_letters 2 8 (by decide)
theorem fine_script : Fine scriptS := fine_letters 4 4 (by decide)
theorem fine_region : Fine regionS := fun s h => by
  unfold regionS at h
  rw [Bool.or_eq_true] at h
  rcases h with h | h
  · exact fine_letters 2 2 (by decide) s h
  · rw [Bool.and_eq_true, decide_eq_true_iff] at h
    exact ⟨by omega, fun c hc => isD_isN (fine_has h.2 c hc)⟩
theorem fine_variant : Fine variantS := fun s h => by
  unfold variantS alnumS at h
  rw [Bool.and_eq_true] at h
  refine ⟨?_, fine_has h.1⟩
  have h2 := h.2
  rw [Bool.or_eq_true, Bool.and_eq_true, Bool.and_eq_true, decide_eq_true_iff, decide_eq_true_iff, decide_eq_true_iff] at h2
  omega
theorem fine_word (lo hi : Nat) (hh : hi ≤ 8) : Fine (wordS lo hi) := fun s h => by
  unfold wordS alnumS at h
  rw [Bool.and_eq_true, Bool.and_eq_true, decide_eq_true_iff, decide_eq_true_iff] at h
  exact ⟨by omega, fine_has h.2.2⟩
theorem fine_number : Fine numberS := fun s h => by
  unfold numberS digitS at h
  rw [Bool.and_eq_true, Bool.and_eq_true, decide_eq_true_iff] at h
  exact ⟨by omega, fun c hc => isD_isN (fine_has h.2.1 c hc)⟩

theorem isN_isP : ∀ c, isN c = true → lowB c = c → isP c = true := byte_all _ (by decide +kernel)
theorem pack_fine {p : ByteArray → Bool} (hp : Fine p) {s : ByteArray} (h : (p s && smallS s) = true) : packT s = true ∧ lowS s = s := by
  rw [Bool.and_eq_true] at h
  obtain ⟨h1, h2⟩ := hp s h.1
  have h3 := (smallS_iff s).1 h.2
  refine ⟨(packT_iff s).2 ⟨h1, fun c hc => isN_isP c (h2 c hc) ?_⟩, h3⟩
  have h4 : (bs s).map lowB = bs s := by
    conv => rhs; rw [← h3]
    exact (low_bs s).symm
  obtain ⟨i, hi⟩ := List.getElem?_of_mem hc
  have h5 := congrArg (fun z => z[i]?) h4
  simp only [List.getElem?_map, hi, Option.map_some, Option.some.injEq] at h5
  exact h5

structure Packs (x : Al) : Prop where
  a : packT x.a = true ∧ lowS x.a = x.a
  b : packT x.b = true ∧ lowS x.b = x.b
  l : packT x.l = true ∧ lowS x.l = x.l
  s : packT x.s = true ∧ lowS x.s = x.s
  r : packT x.r = true ∧ lowS x.r = x.r
theorem packs_must {f : Fv} (g1 : Fine f.f1) (g2 : Fine f.f2) (g3 : Fine f.f3) (g4 : Fine f.f4) (g5 : Fine f.f5) {x : Al} (h : mustA f x = true) : Packs x := by
  unfold mustA at h
  rw [Bool.and_eq_true, Bool.and_eq_true (f.f2 x.b && smallS x.b), Bool.and_eq_true (f.f3 x.l && smallS x.l), Bool.and_eq_true (f.f4 x.s && smallS x.s)] at h
  obtain ⟨h1, h2, h3, h4, h5⟩ := h
  exact ⟨pack_fine g1 h1, pack_fine g2 h2, pack_fine g3 h3, pack_fine g4 h4, pack_fine g5 h5⟩
theorem fine_fvs (n : Nat) : Fine (fvs n).f1 ∧ Fine (fvs n).f2 ∧ Fine (fvs n).f3 ∧ Fine (fvs n).f4 ∧ Fine (fvs n).f5 := by
  unfold fvs
  split
  · exact ⟨fine_number, fine_none, fine_language, fine_maybe fine_script, fine_maybe fine_region⟩
  · exact ⟨fine_language, fine_region, fine_language, fine_none, fine_none⟩
  · exact ⟨fine_language, fine_none, fine_language, fine_maybe fine_script, fine_maybe fine_region⟩
  · exact ⟨fine_script, fine_none, fine_none, fine_script, fine_none⟩
  · exact ⟨fine_region, fine_none, fine_none, fine_none, fine_region⟩
  · exact ⟨fine_variant, fine_none, fine_maybe fine_variant, fine_none, fine_none⟩
  · exact ⟨fine_word 2 2 (by decide), fine_word 3 8 (by decide), fine_word 3 8 (by decide), fine_none, fine_none⟩
theorem right_kind {x : Al} (h : rightA x = true) : 1 ≤ x.k ∧ x.k ≤ 7 := by
  unfold rightA at h
  rw [Bool.and_eq_true, decide_eq_true_iff] at h
  exact h.1
theorem right_packs {x : Al} (h : rightA x = true) : Packs x := by
  unfold rightA at h
  rw [Bool.and_eq_true] at h
  obtain ⟨g1, g2, g3, g4, g5⟩ := fine_fvs x.k.toNat
  exact packs_must g1 g2 g3 g4 g5 h.2

/-- An alias's texts, and its row. -/
def txs (x : Al) : List ByteArray := [x.a, x.b, x.l, x.s, x.r]
def put8L (t : ByteArray) : List UInt8 := putL (packN t) 8
def rowUp (x : Al) (j : Nat) : List UInt8 := putL x.k.toNat 1 ++ ((txs x).take j).flatMap put8L
def rowL (x : Al) : List UInt8 := putL x.k.toNat 1 ++ (put8L x.a ++ (put8L x.b ++ (put8L x.l ++ (put8L x.s ++ put8L x.r))))
def rowB (x : Al) : ByteArray := ofL (rowL x)
theorem rowUp_zero (x : Al) : rowUp x 0 = putL x.k.toNat 1 := by simp [rowUp]
theorem rowUp_five (x : Al) : rowUp x 5 = rowL x := by simp [rowUp, rowL, txs]
theorem rowUp_succ (x : Al) (j : Nat) (t : ByteArray) (h : (txs x)[j]? = some t) : rowUp x (j + 1) = rowUp x j ++ put8L t := by
  have e : (txs x).take (j + 1) = (txs x).take j ++ [t] := by rw [List.take_add_one, h]; rfl
  unfold rowUp
  rw [e, List.flatMap_append, List.append_assoc]
  simp
theorem length_put8 (t : ByteArray) : (put8L t).length = 8 := length_putL _ _
theorem length_rowL (x : Al) : (rowL x).length = 41 := by simp [rowL, length_put8, length_putL]
theorem size_rowB (x : Al) : (rowB x).size = 41 := by unfold rowB; rw [size_ofL, length_rowL]
/-! What rows are decoded to. -/
def getN (r : ByteArray) (p n : Nat) : Nat := if p + n ≤ r.size then num n ((bs r).drop p) else 0
def unA (r : ByteArray) : Al := ⟨(getN r 0 1 : Nat), unT (getN r 1 8), unT (getN r 9 8), unT (getN r 17 8), unT (getN r 25 8), unT (getN r 33 8)⟩
def okA (r : ByteArray) : Bool := rightA (unA r) && decide (rowB (unA r) = r)
def zeroA : Al := ⟨0, ⟨#[]⟩, ⟨#[]⟩, ⟨#[]⟩, ⟨#[]⟩, ⟨#[]⟩⟩
def decV (r : ByteArray) : Al := if okA r then unA r else zeroA
theorem num_take (m : Nat) (l : List UInt8) : num m (l.take m) = num m l := by
  induction m generalizing l with
  | zero => rfl
  | succ m ih =>
    cases l with
    | nil => rfl
    | cons c r => simp [num, ih]
theorem size_unT (n : Nat) : (unT n).size ≤ 8 := by
  unfold unT
  by_cases h : packT (unS n) = true
  · rw [if_pos h]; exact size_unS n
  · rw [if_neg h]; decide
theorem unT_packN {s : ByteArray} (h : packT s = true ∧ lowS s = s) : unT (packN s) = s ∧ packT (unS (packN s)) = true := by
  have e : packN s = num 8 (bs s) := by unfold packN; rw [h.2, if_pos h.1]
  rw [e]
  have h2 := unS_num h.1
  unfold unT
  rw [h2, if_pos h.1]
  exact ⟨rfl, h.1⟩
theorem getN_in {r : ByteArray} {p n : Nat} (h : p + n ≤ r.size) : getN r p n = num n ((bs r).drop p) := by unfold getN; rw [if_pos h]
/-- A right alias is decoded of its row. -/
theorem getN_row (x : Al) (p : Nat) (l r : List UInt8) (t : ByteArray) (hp : l.length = p) (h : rowL x = l ++ (put8L t ++ r)) : getN (rowB x) p 8 = packN t := by
  have hl := congrArg List.length h
  rw [length_rowL, List.length_append, List.length_append, length_put8] at hl
  rw [getN_in (by rw [size_rowB]; omega)]
  show num 8 ((bs (ofL (rowL x))).drop p) = _
  rw [bs_ofL, h, List.drop_left' hp, ← num_take, List.take_left' (length_put8 t)]
  unfold put8L
  rw [num_putL, Nat.mod_eq_of_lt (packN_lt t)]
theorem dec_right {x : Al} (h : rightA x = true) : unA (rowB x) = x ∧ okA (rowB x) = true := by
  have hp := right_packs h
  have hk := right_kind h
  have e : unA (rowB x) = x := by
    have e0 : getN (rowB x) 0 1 = x.k.toNat := by
      rw [getN_in (by rw [size_rowB]; decide)]
      show num 1 ((bs (ofL (rowL x))).drop 0) = _
      rw [bs_ofL, List.drop_zero, ← num_take]
      unfold rowL
      rw [List.take_left' (length_putL _ _), num_putL]
      omega
    unfold unA
    rw [e0, getN_row x 1 (putL x.k.toNat 1) _ x.a (length_putL _ _) rfl,
      getN_row x 9 (putL x.k.toNat 1 ++ put8L x.a) (put8L x.l ++ (put8L x.s ++ put8L x.r)) x.b (by simp [length_putL, length_put8]) (by simp [rowL]),
      getN_row x 17 (putL x.k.toNat 1 ++ (put8L x.a ++ put8L x.b)) (put8L x.s ++ put8L x.r) x.l (by simp [length_putL, length_put8]) (by simp [rowL]),
      getN_row x 25 (putL x.k.toNat 1 ++ (put8L x.a ++ (put8L x.b ++ put8L x.l))) (put8L x.r) x.s (by simp [length_putL, length_put8]) (by simp [rowL]),
      getN_row x 33 (putL x.k.toNat 1 ++ (put8L x.a ++ (put8L x.b ++ (put8L x.l ++ put8L x.s)))) [] x.r (by simp [length_putL, length_put8]) (by simp [rowL])]
    rw [(unT_packN hp.a).1, (unT_packN hp.b).1, (unT_packN hp.l).1, (unT_packN hp.s).1, (unT_packN hp.r).1, Int.toNat_of_nonneg (by omega)]
  refine ⟨e, ?_⟩
  unfold okA
  rw [e, h, decide_eq_true rfl]
  rfl

/-! How aliases stand. -/
end Go.Proofs.YtbafmnafhaoggaaGreatDoor
