/-
  Package ascii, in plain words: bytes of four kinds, their cases; texts as lists of bytes: their cases, what they have, how they stand. No dump. Package pack, in plain words: bytes of packed texts, the number of a text, the bytes of a number, a text without the zeros behind it. No dump. Package split, in plain words: a text's pieces, as lists of bytes; where they begin; joined; trimmed; the first that is no subtag. No dump. Layer 5's texts: the grandfathered tags in their order; where a text stands among them. No dump.
-/
import Derived.WalkKit
import Derived.Lib.Join
import Derived.Lib.IndexLaws
/-! Package ascii, in plain words: bytes of four kinds, their cases; texts as lists of bytes: their cases, what they have, how they stand. No dump. -/
namespace Go.Proofs.YtbafmnafhaoggaaGreatDoor

def isU (c : UInt8) : Bool := decide (65 ≤ c.toNat ∧ c.toNat ≤ 90)
def isL (c : UInt8) : Bool := decide (97 ≤ c.toNat ∧ c.toNat ≤ 122)
def isD (c : UInt8) : Bool := decide (48 ≤ c.toNat ∧ c.toNat ≤ 57)
def isA (c : UInt8) : Bool := isU c || isL c
def isN (c : UInt8) : Bool := isA c || isD c
def lowB (c : UInt8) : UInt8 := if isU c then c + 32 else c
theorem byte_all (P : UInt8 → Prop) (h : ∀ n : Fin 256, P (UInt8.ofNat n.val)) (c : UInt8) : P c := by
  have := h ⟨c.toNat, c.toNat_lt⟩
  simpa using this

theorem isU_iff (c : UInt8) : isU c = true ↔ 65 ≤ c.toNat ∧ c.toNat ≤ 90 := by unfold isU; exact decide_eq_true_iff
theorem isL_iff (c : UInt8) : isL c = true ↔ 97 ≤ c.toNat ∧ c.toNat ≤ 122 := by unfold isL; exact decide_eq_true_iff
theorem isD_iff (c : UInt8) : isD c = true ↔ 48 ≤ c.toNat ∧ c.toNat ≤ 57 := by unfold isD; exact decide_eq_true_iff

theorem isA_not_isD : ∀ c, isA c = true → isD c = false := byte_all _ (by decide +kernel)
theorem low_nat_U : ∀ c, isU c = true → (lowB c).toNat = c.toNat + 32 := byte_all _ (by decide +kernel)
theorem low_nat : ∀ c, isU c = false → lowB c = c := byte_all _ (by decide +kernel)
/-- The four kinds, as walks ask them. -/
inductive Kd (c : UInt8) : Prop
  | up (h1 : 65 ≤ c.toNat) (h2 : c.toNat ≤ 90)
  | low (h1 : 97 ≤ c.toNat) (h2 : c.toNat ≤ 122)
  | dig (h1 : 48 ≤ c.toNat) (h2 : c.toNat ≤ 57)
  | non (h1 : c.toNat < 65 ∨ 90 < c.toNat) (h2 : c.toNat < 97 ∨ 122 < c.toNat) (h3 : c.toNat < 48 ∨ 57 < c.toNat)
theorem kd (c : UInt8) : Kd c := by
  by_cases h1 : 65 ≤ c.toNat ∧ c.toNat ≤ 90
  · exact .up h1.1 h1.2
  · by_cases h2 : 97 ≤ c.toNat ∧ c.toNat ≤ 122
    · exact .low h2.1 h2.2
    · by_cases h3 : 48 ≤ c.toNat ∧ c.toNat ≤ 57
      · exact .dig h3.1 h3.2
      · exact .non (by omega) (by omega) (by omega)

/- Texts. -/
abbrev bs (s : ByteArray) : List UInt8 := s.data.toList
def ofL (l : List UInt8) : ByteArray := ⟨l.toArray⟩
theorem bs_ofL (l : List UInt8) : bs (ofL l) = l := by simp [bs, ofL]
theorem ofL_bs (s : ByteArray) : ofL (bs s) = s := by simp [bs, ofL]
theorem size_bs (s : ByteArray) : (bs s).length = s.size := rfl
theorem size_ofL (l : List UInt8) : (ofL l).size = l.length := by show l.toArray.size = l.length; simp
theorem ofL_ext {a b : ByteArray} (h : bs a = bs b) : a = b := by rw [← ofL_bs a, h, ofL_bs]

def lowS (s : ByteArray) : ByteArray := ofL ((bs s).map lowB)
def has (p : UInt8 → Bool) (s : ByteArray) : Bool := !(bs s).isEmpty && (bs s).all p
def alphaS (s : ByteArray) : Bool := has isA s
def digitS (s : ByteArray) : Bool := has isD s
def alnumS (s : ByteArray) : Bool := has isN s
def classS (s : ByteArray) : Int := if alphaS s then 1 else if digitS s then 2 else if alnumS s then 3 else 0
def cmpL : List UInt8 → List UInt8 → Int
  | [], [] => 0
  | [], _ :: _ => -1
  | _ :: _, [] => 1
  | x :: a, y :: b => if x.toNat < y.toNat then -1 else if y.toNat < x.toNat then 1 else cmpL a b
def cmpS (a b : ByteArray) : Int := cmpL ((bs a).map lowB) ((bs b).map lowB)
theorem size_lowS (s : ByteArray) : (lowS s).size = s.size := by simp [lowS, size_ofL]
end Go.Proofs.YtbafmnafhaoggaaGreatDoor

/-! Package pack, in plain words: bytes of packed texts, the number of a text, the bytes of a number, a text without the zeros behind it. No dump. -/
namespace Go.Proofs.YtbafmnafhaoggaaGreatDoor

def isP (c : UInt8) : Bool := isL c || isD c || c == 42 || c == 33 || c == 36
theorem isP_nz : ∀ c, isP c = true → c ≠ 0 := byte_all _ (by decide +kernel)

/-- The number of the first m bytes of a list, the greatest first, zeros behind it. -/
def num : Nat → List UInt8 → Nat
  | 0, _ => 0
  | _ + 1, [] => 0
  | m + 1, c :: r => c.toNat * 256 ^ m + num m r
theorem num_nil (m : Nat) : num m [] = 0 := by cases m <;> rfl
theorem num_lt (m : Nat) (l : List UInt8) : num m l < 256 ^ m := by
  induction m generalizing l with
  | zero => simp [num]
  | succ m ih =>
    cases l with
    | nil => rw [num]; exact Nat.pow_pos (by decide)
    | cons c r =>
      have h1 := ih r
      have h2 : (c.toNat + 1) * 256 ^ m ≤ 256 * 256 ^ m := Nat.mul_le_mul_right _ (by have := c.toNat_lt; omega)
      rw [Nat.succ_mul] at h2
      rw [num, Nat.pow_succ, Nat.mul_comm (256 ^ m)]
      omega
theorem num_succ (k : Nat) (l : List UInt8) : num (k + 1) l = num k l * 256 + (l[k]?.getD 0).toNat := by
  induction k generalizing l with
  | zero =>
    cases l with
    | nil => rfl
    | cons c r => simp [num]
  | succ k ih =>
    cases l with
    | nil => simp [num_nil]
    | cons c r =>
      rw [num, ih r, num, List.getElem?_cons_succ, Nat.add_mul, Nat.mul_assoc, ← Nat.pow_succ, Nat.add_assoc]
/-- The byte of a number at a place, from the lowest; the lowest bytes of a number, the greatest first. -/
def byteAt (n i : Nat) : UInt8 := UInt8.ofNat (n / 256 ^ i)
def putL (n : Nat) : Nat → List UInt8
  | 0 => []
  | i + 1 => byteAt n i :: putL n i
theorem byteAt_nat (n i : Nat) : (byteAt n i).toNat = n / 256 ^ i % 256 := by simp [byteAt]
theorem length_putL (n k : Nat) : (putL n k).length = k := by induction k <;> simp_all [putL]
theorem num_putL (m n : Nat) : num m (putL n m) = n % 256 ^ m := by
  induction m with
  | zero => rw [Nat.pow_zero, Nat.mod_one]; rfl
  | succ m ih => rw [putL, num, ih, byteAt_nat, Nat.mod_pow_succ, Nat.mul_comm, Nat.add_comm]
theorem putL_add (a x m : Nat) (j : Nat) (h : j ≤ m) : putL (a * 256 ^ m + x) j = putL x j := by
  induction j with
  | zero => rfl
  | succ j ih =>
    rw [putL, putL, ih (by omega)]
    congr 1
    apply UInt8.toNat_inj.1
    rw [byteAt_nat, byteAt_nat]
    have e : a * 256 ^ m = (a * 256 ^ (m - j - 1) * 256) * 256 ^ j := by
      rw [Nat.mul_assoc, Nat.mul_assoc, ← Nat.pow_succ', ← Nat.pow_add]
      congr 2; omega
    rw [e, Nat.add_comm, Nat.add_mul_div_right _ _ (Nat.pow_pos (by decide)), Nat.add_mul_mod_self_right]
theorem putL_zero (m : Nat) : putL 0 m = List.replicate m 0 := by
  induction m with
  | zero => rfl
  | succ m ih => rw [putL, ih, List.replicate_succ]; simp [byteAt]
theorem putL_num (m : Nat) (l : List UInt8) (h : l.length ≤ m) : putL (num m l) m = l ++ List.replicate (m - l.length) 0 := by
  induction m generalizing l with
  | zero => have := List.eq_nil_of_length_eq_zero (l := l) (by omega); subst this; rfl
  | succ m ih =>
    cases l with
    | nil => rw [num_nil, putL_zero]; rfl
    | cons c r =>
      have hr : r.length ≤ m := by simpa using h
      rw [num, putL, putL_add _ _ _ _ (Nat.le_refl _), ih r hr, List.cons_append, List.length_cons, Nat.add_sub_add_right]
      congr 1
      apply UInt8.toNat_inj.1
      rw [byteAt_nat, Nat.add_comm, Nat.add_mul_div_right _ _ (Nat.pow_pos (by decide)), Nat.div_eq_of_lt (num_lt m r), Nat.zero_add]
      exact Nat.mod_eq_of_lt c.toNat_lt
/- How numbers and texts stand. -/
/- A text without the zeros behind it. -/
def trimZ (l : List UInt8) : List UInt8 := (l.reverse.dropWhile (· == 0)).reverse
theorem trimZ_nil : trimZ [] = [] := rfl
theorem trimZ_zero (l : List UInt8) : trimZ (l ++ [0]) = trimZ l := by simp [trimZ]
theorem trimZ_stop (l : List UInt8) (c : UInt8) (h : c ≠ 0) : trimZ (l ++ [c]) = l ++ [c] := by
  have : (c == 0) = false := by rw [beq_eq_false_iff_ne]; exact h
  simp [trimZ, this]
theorem trimZ_zeros (l : List UInt8) (k : Nat) : trimZ (l ++ List.replicate k 0) = trimZ l := by
  induction k with
  | zero => simp
  | succ k ih => rw [List.replicate_succ', ← List.append_assoc, trimZ_zero, ih]
theorem trimZ_all (l : List UInt8) (h : ∀ c ∈ l, c ≠ 0) : trimZ l = l := by
  rcases List.eq_nil_or_concat l with rfl | ⟨r, c, rfl⟩
  · rfl
  · rw [List.concat_eq_append] at *
    exact trimZ_stop r c (h c (by simp))
theorem trimZ_parts (l : List UInt8) : ∃ k, l = trimZ l ++ List.replicate k 0 := by
  generalize hn : l.length = n
  induction n generalizing l with
  | zero => rw [List.eq_nil_of_length_eq_zero hn]; exact ⟨0, rfl⟩
  | succ n ih =>
    rcases List.eq_nil_or_concat l with rfl | ⟨r, c, rfl⟩
    · simp at hn
    · rw [List.concat_eq_append] at *
      by_cases hc : c = 0
      · subst hc
        obtain ⟨k, hk⟩ := ih r (by simpa using hn)
        rw [trimZ_zero]
        exact ⟨k + 1, by rw [List.replicate_succ', ← List.append_assoc, ← hk]⟩
      · exact ⟨0, by rw [trimZ_stop r c hc]; simp⟩
theorem length_trimZ (l : List UInt8) : (trimZ l).length ≤ l.length := by
  obtain ⟨k, hk⟩ := trimZ_parts l
  have := congrArg List.length hk
  rw [List.length_append] at this
  omega

/- Packed texts; what Pack and Unpack tell. -/
def packT (s : ByteArray) : Bool := decide (s.size ≤ 8) && (bs s).all isP
def packN (s : ByteArray) : Nat := if packT (lowS s) then num 8 (bs (lowS s)) else 0
theorem packT_iff (s : ByteArray) : packT s = true ↔ s.size ≤ 8 ∧ ∀ c ∈ bs s, isP c = true := by
  unfold packT; rw [Bool.and_eq_true, decide_eq_true_iff, List.all_eq_true]
theorem packN_lt (s : ByteArray) : packN s < 256 ^ 8 := by
  unfold packN; split
  · exact num_lt 8 _
  · decide
def unS (n : Nat) : ByteArray := ofL (trimZ (putL n 8))
def unT (n : Nat) : ByteArray := if packT (unS n) then unS n else ofL []
theorem size_unS (n : Nat) : (unS n).size ≤ 8 := by
  unfold unS; rw [size_ofL]
  have := length_trimZ (putL n 8)
  rw [length_putL] at this
  exact this
theorem unS_num {s : ByteArray} (h : packT s = true) : unS (num 8 (bs s)) = s := by
  have h' := (packT_iff s).1 h
  unfold unS
  rw [putL_num 8 (bs s) h'.1, trimZ_zeros, trimZ_all _ fun c hc => isP_nz c (h'.2 c hc)]
  exact ofL_bs s
end Go.Proofs.YtbafmnafhaoggaaGreatDoor

/-! Package split, in plain words: a text's pieces, as lists of bytes; where they begin; joined; trimmed; the first that is no subtag. No dump. -/
namespace Go.Proofs.YtbafmnafhaoggaaGreatDoor

/-- A text's pieces. -/
def spl : List UInt8 → List (List UInt8)
  | [] => [[]]
  | c :: r => if c = 45 then [] :: spl r else (c :: (spl r).headD []) :: (spl r).tail
/- Trimmed. -/
/- Pieces, and where they begin. -/
def placed : Nat → List (List UInt8) → List (Nat × ByteArray)
  | _, [] => []
  | n, p :: r => (n, ofL p) :: placed (n + p.length + 1) r
def pieces (s : ByteArray) : List (Nat × ByteArray) := placed 0 (spl (bs s))
/- The first piece that is no subtag. -/
def okS (s : ByteArray) : Bool := decide (s.size ≤ 8) && alnumS s
def badOf : List (Nat × ByteArray) → Option Nat
  | [] => none
  | x :: r => if okS x.2 then badOf r else some x.1
def chkS (s : ByteArray) : Option Nat := badOf (pieces s)
end Go.Proofs.YtbafmnafhaoggaaGreatDoor

/-! Layer 5's texts: the grandfathered tags in their order; where a text stands among them. No dump. -/
namespace Go.Proofs.YtbafmnafhaoggaaGreatDoor

/-- The tags, in order, and which are regular. -/
def gL : List (ByteArray × Bool) := [
  (⟨#[97, 114, 116, 45, 108, 111, 106, 98, 97, 110]⟩, true),
  (⟨#[99, 101, 108, 45, 103, 97, 117, 108, 105, 115, 104]⟩, true),
  (⟨#[101, 110, 45, 103, 98, 45, 111, 101, 100]⟩, false),
  (⟨#[105, 45, 97, 109, 105]⟩, false),
  (⟨#[105, 45, 98, 110, 110]⟩, false),
  (⟨#[105, 45, 100, 101, 102, 97, 117, 108, 116]⟩, false),
  (⟨#[105, 45, 101, 110, 111, 99, 104, 105, 97, 110]⟩, false),
  (⟨#[105, 45, 104, 97, 107]⟩, false),
  (⟨#[105, 45, 107, 108, 105, 110, 103, 111, 110]⟩, false),
  (⟨#[105, 45, 108, 117, 120]⟩, false),
  (⟨#[105, 45, 109, 105, 110, 103, 111]⟩, false),
  (⟨#[105, 45, 110, 97, 118, 97, 106, 111]⟩, false),
  (⟨#[105, 45, 112, 119, 110]⟩, false),
  (⟨#[105, 45, 116, 97, 111]⟩, false),
  (⟨#[105, 45, 116, 97, 121]⟩, false),
  (⟨#[105, 45, 116, 115, 117]⟩, false),
  (⟨#[110, 111, 45, 98, 111, 107]⟩, true),
  (⟨#[110, 111, 45, 110, 121, 110]⟩, true),
  (⟨#[115, 103, 110, 45, 98, 101, 45, 102, 114]⟩, false),
  (⟨#[115, 103, 110, 45, 98, 101, 45, 110, 108]⟩, false),
  (⟨#[115, 103, 110, 45, 99, 104, 45, 100, 101]⟩, false),
  (⟨#[122, 104, 45, 103, 117, 111, 121, 117]⟩, true),
  (⟨#[122, 104, 45, 104, 97, 107, 107, 97]⟩, true),
  (⟨#[122, 104, 45, 109, 105, 110]⟩, true),
  (⟨#[122, 104, 45, 109, 105, 110, 45, 110, 97, 110]⟩, true),
  (⟨#[122, 104, 45, 120, 105, 97, 110, 103]⟩, true)]
def nameG (k : Nat) : ByteArray := (gL.getD k (ByteArray.empty, false)).1
def regG (k : Nat) : Bool := (gL.getD k (ByteArray.empty, false)).2
/-- The tags as the document's own list has them: a regular one with its star. -/
def gS : List ByteArray := [
  ⟨#[97, 114, 116, 45, 108, 111, 106, 98, 97, 110, 42]⟩,
  ⟨#[99, 101, 108, 45, 103, 97, 117, 108, 105, 115, 104, 42]⟩,
  ⟨#[101, 110, 45, 103, 98, 45, 111, 101, 100]⟩,
  ⟨#[105, 45, 97, 109, 105]⟩,
  ⟨#[105, 45, 98, 110, 110]⟩,
  ⟨#[105, 45, 100, 101, 102, 97, 117, 108, 116]⟩,
  ⟨#[105, 45, 101, 110, 111, 99, 104, 105, 97, 110]⟩,
  ⟨#[105, 45, 104, 97, 107]⟩,
  ⟨#[105, 45, 107, 108, 105, 110, 103, 111, 110]⟩,
  ⟨#[105, 45, 108, 117, 120]⟩,
  ⟨#[105, 45, 109, 105, 110, 103, 111]⟩,
  ⟨#[105, 45, 110, 97, 118, 97, 106, 111]⟩,
  ⟨#[105, 45, 112, 119, 110]⟩,
  ⟨#[105, 45, 116, 97, 111]⟩,
  ⟨#[105, 45, 116, 97, 121]⟩,
  ⟨#[105, 45, 116, 115, 117]⟩,
  ⟨#[110, 111, 45, 98, 111, 107, 42]⟩,
  ⟨#[110, 111, 45, 110, 121, 110, 42]⟩,
  ⟨#[115, 103, 110, 45, 98, 101, 45, 102, 114]⟩,
  ⟨#[115, 103, 110, 45, 98, 101, 45, 110, 108]⟩,
  ⟨#[115, 103, 110, 45, 99, 104, 45, 100, 101]⟩,
  ⟨#[122, 104, 45, 103, 117, 111, 121, 117, 42]⟩,
  ⟨#[122, 104, 45, 104, 97, 107, 107, 97, 42]⟩,
  ⟨#[122, 104, 45, 109, 105, 110, 42]⟩,
  ⟨#[122, 104, 45, 109, 105, 110, 45, 110, 97, 110, 42]⟩,
  ⟨#[122, 104, 45, 120, 105, 97, 110, 103, 42]⟩]
def starG (k : Nat) : ByteArray := gS.getD k ByteArray.empty

theorem low_bs (s : ByteArray) : bs (lowS s) = (bs s).map lowB := by simp [lowS, bs_ofL]
end Go.Proofs.YtbafmnafhaoggaaGreatDoor
