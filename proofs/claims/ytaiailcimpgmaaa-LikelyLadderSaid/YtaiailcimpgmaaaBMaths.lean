/-
  Package ascii, in plain words: bytes of four kinds, their cases; texts as lists of bytes: their cases, what they have, how they stand. No dump. Package pack, in plain words: bytes of packed texts, the number of a text, the bytes of a number, a text without the zeros behind it. No dump. Package split, in plain words: a text's pieces, as lists of bytes; where they begin; joined; trimmed; the first that is no subtag. No dump. Layer 5's texts: the grandfathered tags in their order; where a text stands among them. No dump.
-/
import Derived.WalkKit
import Derived.Lib.Join
import Derived.Lib.IndexLaws
/-! Package ascii, in plain words: bytes of four kinds, their cases; texts as lists of bytes: their cases, what they have, how they stand. No dump. -/
namespace Go.Proofs.Ytaiailcimpgmaaa

def isU (c : UInt8) : Bool := decide (65 ≤ c.toNat ∧ c.toNat ≤ 90)
def isL (c : UInt8) : Bool := decide (97 ≤ c.toNat ∧ c.toNat ≤ 122)
def isD (c : UInt8) : Bool := decide (48 ≤ c.toNat ∧ c.toNat ≤ 57)
def isA (c : UInt8) : Bool := isU c || isL c
def isN (c : UInt8) : Bool := isA c || isD c
def lowB (c : UInt8) : UInt8 := if isU c then c + 32 else c
def upB (c : UInt8) : UInt8 := if isL c then c - 32 else c

theorem byte_all (P : UInt8 → Prop) (h : ∀ n : Fin 256, P (UInt8.ofNat n.val)) (c : UInt8) : P c := by
  have := h ⟨c.toNat, c.toNat_lt⟩
  simpa using this

theorem isU_iff (c : UInt8) : isU c = true ↔ 65 ≤ c.toNat ∧ c.toNat ≤ 90 := by unfold isU; exact decide_eq_true_iff
theorem isL_iff (c : UInt8) : isL c = true ↔ 97 ≤ c.toNat ∧ c.toNat ≤ 122 := by unfold isL; exact decide_eq_true_iff
theorem isD_iff (c : UInt8) : isD c = true ↔ 48 ≤ c.toNat ∧ c.toNat ≤ 57 := by unfold isD; exact decide_eq_true_iff

theorem low_low : ∀ c, lowB (lowB c) = lowB c := byte_all _ (by decide +kernel)
theorem low_up : ∀ c, lowB (upB c) = lowB c := byte_all _ (by decide +kernel)
theorem up_low : ∀ c, upB (lowB c) = upB c := byte_all _ (by decide +kernel)
theorem up_up : ∀ c, upB (upB c) = upB c := byte_all _ (by decide +kernel)
theorem isA_low : ∀ c, isA (lowB c) = isA c := byte_all _ (by decide +kernel)
theorem isA_up : ∀ c, isA (upB c) = isA c := byte_all _ (by decide +kernel)
theorem isD_low : ∀ c, isD (lowB c) = isD c := byte_all _ (by decide +kernel)
theorem isD_up : ∀ c, isD (upB c) = isD c := byte_all _ (by decide +kernel)
theorem isA_not_isD : ∀ c, isA c = true → isD c = false := byte_all _ (by decide +kernel)
theorem low_nat_U : ∀ c, isU c = true → (lowB c).toNat = c.toNat + 32 := byte_all _ (by decide +kernel)
theorem low_nat : ∀ c, isU c = false → lowB c = c := byte_all _ (by decide +kernel)
theorem up_nat_L : ∀ c, isL c = true → (upB c).toNat + 32 = c.toNat := byte_all _ (by decide +kernel)
theorem up_nat : ∀ c, isL c = false → upB c = c := byte_all _ (by decide +kernel)

/-- The four kinds, as walks ask them. -/
inductive Kd (c : UInt8) : Prop
  | up (h1 : 65 ≤ c.toNat) (h2 : c.toNat ≤ 90)
  | low (h1 : 97 ≤ c.toNat) (h2 : c.toNat ≤ 122)
  | dig (h1 : 48 ≤ c.toNat) (h2 : c.toNat ≤ 57)
  | non (h1 : c.toNat < 65 ∨ 90 < c.toNat) (h2 : c.toNat < 97 ∨ 122 < c.toNat) (h3 : c.toNat < 48 ∨ 57 < c.toNat)
theorem kd (c : UInt8) : Kd c := by
  by_cases h1 : 65 ≤ c.toNat ∧ c.toNat ≤ 90
  · exact .up h1.1 h1.2
  · by_cases h2 : 97 ≤ c.toNat ∧ c.toNat ≤ 122
    · exact .low h2.1 h2.2
    · by_cases h3 : 48 ≤ c.toNat ∧ c.toNat ≤ 57
      · exact .dig h3.1 h3.2
      · exact .non (by omega) (by omega) (by omega)

/- Texts. -/
abbrev bs (s : ByteArray) : List UInt8 := s.data.toList
def ofL (l : List UInt8) : ByteArray := ⟨l.toArray⟩
theorem bs_ofL (l : List UInt8) : bs (ofL l) = l := by simp [bs, ofL]
theorem ofL_bs (s : ByteArray) : ofL (bs s) = s := by simp [bs, ofL]
theorem size_bs (s : ByteArray) : (bs s).length = s.size := rfl
theorem size_ofL (l : List UInt8) : (ofL l).size = l.length := by show l.toArray.size = l.length; simp
theorem ofL_ext {a b : ByteArray} (h : bs a = bs b) : a = b := by rw [← ofL_bs a, h, ofL_bs]

def titleL : List UInt8 → List UInt8
  | [] => []
  | c :: r => upB c :: r.map lowB
def lowS (s : ByteArray) : ByteArray := ofL ((bs s).map lowB)
def upS (s : ByteArray) : ByteArray := ofL ((bs s).map upB)
def titleS (s : ByteArray) : ByteArray := ofL (titleL (bs s))
def has (p : UInt8 → Bool) (s : ByteArray) : Bool := !(bs s).isEmpty && (bs s).all p
def alphaS (s : ByteArray) : Bool := has isA s
def digitS (s : ByteArray) : Bool := has isD s
def alnumS (s : ByteArray) : Bool := has isN s
def classS (s : ByteArray) : Int := if alphaS s then 1 else if digitS s then 2 else if alnumS s then 3 else 0
def cmpL : List UInt8 → List UInt8 → Int
  | [], [] => 0
  | [], _ :: _ => -1
  | _ :: _, [] => 1
  | x :: a, y :: b => if x.toNat < y.toNat then -1 else if y.toNat < x.toNat then 1 else cmpL a b
def cmpS (a b : ByteArray) : Int := cmpL ((bs a).map lowB) ((bs b).map lowB)
def sameS (a b : ByteArray) : Bool := decide (cmpS a b = 0)

theorem size_lowS (s : ByteArray) : (lowS s).size = s.size := by simp [lowS, size_ofL]
theorem size_upS (s : ByteArray) : (upS s).size = s.size := by simp [upS, size_ofL]
theorem length_titleL (l : List UInt8) : (titleL l).length = l.length := by cases l <;> simp [titleL]
theorem size_titleS (s : ByteArray) : (titleS s).size = s.size := by simp [titleS, size_ofL, length_titleL]
theorem low_lowS (s : ByteArray) : lowS (lowS s) = lowS s := by simp [lowS, bs_ofL, Function.comp_def, low_low]
theorem low_upS (s : ByteArray) : lowS (upS s) = lowS s := by simp [lowS, upS, bs_ofL, Function.comp_def, low_up]
theorem up_lowS (s : ByteArray) : upS (lowS s) = upS s := by simp [lowS, upS, bs_ofL, Function.comp_def, up_low]
theorem titleL_titleL (l : List UInt8) : titleL (titleL l) = titleL l := by cases l <;> simp [titleL, up_up, Function.comp_def, low_low]
theorem title_titleS (s : ByteArray) : titleS (titleS s) = titleS s := by simp [titleS, bs_ofL, titleL_titleL]
theorem low_titleL (l : List UInt8) : (titleL l).map lowB = l.map lowB := by cases l <;> simp [titleL, low_up, Function.comp_def, low_low]
theorem low_titleS (s : ByteArray) : lowS (titleS s) = lowS s := by simp only [lowS, titleS, bs_ofL, low_titleL]

theorem has_map (p : UInt8 → Bool) (f : UInt8 → UInt8) (h : ∀ c, p (f c) = p c) (s : ByteArray) : has p (ofL ((bs s).map f)) = has p s := by
  simp [has, bs_ofL, List.all_map, Function.comp_def, h]
theorem isN_low (c : UInt8) : isN (lowB c) = isN c := by simp [isN, isA_low, isD_low]
theorem isN_up (c : UInt8) : isN (upB c) = isN c := by simp [isN, isA_up, isD_up]
theorem class_low (s : ByteArray) : classS (lowS s) = classS s := by
  unfold classS alphaS digitS alnumS lowS
  rw [has_map _ _ isA_low, has_map _ _ isD_low, has_map _ _ isN_low]
theorem class_up (s : ByteArray) : classS (upS s) = classS s := by
  unfold classS alphaS digitS alnumS upS
  rw [has_map _ _ isA_up, has_map _ _ isD_up, has_map _ _ isN_up]

theorem cmpL_self (l : List UInt8) : cmpL l l = 0 := by induction l <;> simp_all [cmpL]
theorem cmpL_range (a b : List UInt8) : cmpL a b = -1 ∨ cmpL a b = 0 ∨ cmpL a b = 1 := by
  induction a generalizing b with
  | nil => cases b <;> simp [cmpL]
  | cons x a ih =>
    cases b with
    | nil => simp [cmpL]
    | cons y b => simp only [cmpL]; split; · simp
                  split; · simp
                  exact ih b
theorem cmpL_swap (a b : List UInt8) : cmpL b a = - cmpL a b := by
  induction a generalizing b with
  | nil => cases b <;> simp [cmpL]
  | cons x a ih =>
    cases b with
    | nil => simp [cmpL]
    | cons y b =>
      simp only [cmpL]
      by_cases h1 : x.toNat < y.toNat
      · rw [if_neg (by omega), if_pos h1, if_pos h1]; rfl
      · by_cases h2 : y.toNat < x.toNat
        · rw [if_pos h2, if_neg h1, if_pos h2]
        · rw [if_neg h2, if_neg h1, if_neg h1, if_neg h2]; exact ih b
theorem cmpL_zero {a b : List UInt8} (h : cmpL a b = 0) : a = b := by
  induction a generalizing b with
  | nil => cases b <;> simp_all [cmpL]
  | cons x a ih =>
    cases b with
    | nil => simp [cmpL] at h
    | cons y b =>
      simp only [cmpL] at h
      by_cases h1 : x.toNat < y.toNat
      · rw [if_pos h1] at h; simp at h
      · by_cases h2 : y.toNat < x.toNat
        · rw [if_neg h1, if_pos h2] at h; simp at h
        · rw [if_neg h1, if_neg h2] at h
          rw [ih h, UInt8.toNat_inj.1 (by omega : x.toNat = y.toNat)]
theorem cmpL_trans (a b c : List UInt8) : (cmpL a b ≤ 0 → cmpL b c ≤ 0 → cmpL a c ≤ 0) := by
  induction a generalizing b c with
  | nil => cases b <;> cases c <;> simp [cmpL]
  | cons x a ih =>
    cases b with
    | nil => simp [cmpL]
    | cons y b =>
      cases c with
      | nil => simp [cmpL]
      | cons z c =>
        simp only [cmpL]
        intro h1 h2
        by_cases h3 : x.toNat < y.toNat
        · by_cases h4 : y.toNat < z.toNat
          · rw [if_pos (by omega)]; omega
          · rw [if_neg h4] at h2
            by_cases h5 : z.toNat < y.toNat
            · rw [if_pos h5] at h2; omega
            · rw [if_pos (by omega)]; omega
        · rw [if_neg h3] at h1
          by_cases h6 : y.toNat < x.toNat
          · rw [if_pos h6] at h1; omega
          · rw [if_neg h6] at h1
            by_cases h4 : y.toNat < z.toNat
            · rw [if_pos (by omega)]; omega
            · rw [if_neg h4] at h2
              by_cases h5 : z.toNat < y.toNat
              · rw [if_pos h5] at h2; omega
              · rw [if_neg h5] at h2
                rw [if_neg (by omega), if_neg (by omega)]
                exact ih b c h1 h2
theorem cmpL_append (a b : List UInt8) (h : b ≠ []) : cmpL a (a ++ b) = -1 := by
  induction a with
  | nil => cases b <;> simp_all [cmpL]
  | cons x a ih => simp [cmpL, ih]
theorem cmpS_swap (a b : ByteArray) : cmpS b a = - cmpS a b := cmpL_swap _ _
theorem cmpS_range (a b : ByteArray) : cmpS a b = -1 ∨ cmpS a b = 0 ∨ cmpS a b = 1 := cmpL_range _ _
theorem cmpS_up_low (a b : ByteArray) : cmpS (upS a) (lowS b) = cmpS a b := by
  simp [cmpS, upS, lowS, bs_ofL, Function.comp_def, low_up, low_low]
theorem cmpS_title (a : ByteArray) : cmpS a (titleS a) = 0 := by
  simp [cmpS, titleS, bs_ofL, low_titleL, cmpL_self]
theorem cmpS_of_zero {a b : ByteArray} (h : cmpS a b = 0) (c : ByteArray) : cmpS b c = cmpS a c := by
  unfold cmpS at *; rw [cmpL_zero h]
end Go.Proofs.Ytaiailcimpgmaaa

/-! Package pack, in plain words: bytes of packed texts, the number of a text, the bytes of a number, a text without the zeros behind it. No dump. -/
namespace Go.Proofs.Ytaiailcimpgmaaa

def isP (c : UInt8) : Bool := isL c || isD c || c == 42 || c == 33 || c == 36
theorem isP_low : ∀ c, isP c = true → lowB c = c := byte_all _ (by decide +kernel)
theorem isP_nz : ∀ c, isP c = true → c ≠ 0 := byte_all _ (by decide +kernel)

/-- The number of the first m bytes of a list, the greatest first, zeros behind it. -/
def num : Nat → List UInt8 → Nat
  | 0, _ => 0
  | _ + 1, [] => 0
  | m + 1, c :: r => c.toNat * 256 ^ m + num m r
theorem num_nil (m : Nat) : num m [] = 0 := by cases m <;> rfl
theorem num_lt (m : Nat) (l : List UInt8) : num m l < 256 ^ m := by
  induction m generalizing l with
  | zero => simp [num]
  | succ m ih =>
    cases l with
    | nil => rw [num]; exact Nat.pow_pos (by decide)
    | cons c r =>
      have h1 := ih r
      have h2 : (c.toNat + 1) * 256 ^ m ≤ 256 * 256 ^ m := Nat.mul_le_mul_right _ (by have := c.toNat_lt; omega)
      rw [Nat.succ_mul] at h2
      rw [num, Nat.pow_succ, Nat.mul_comm (256 ^ m)]
      omega
theorem num_succ (k : Nat) (l : List UInt8) : num (k + 1) l = num k l * 256 + (l[k]?.getD 0).toNat := by
  induction k generalizing l with
  | zero =>
    cases l with
    | nil => rfl
    | cons c r => simp [num]
  | succ k ih =>
    cases l with
    | nil => simp [num_nil]
    | cons c r =>
      rw [num, ih r, num, List.getElem?_cons_succ, Nat.add_mul, Nat.mul_assoc, ← Nat.pow_succ, Nat.add_assoc]
theorem num_zeros (m k : Nat) : num m (List.replicate k 0) = 0 := by
  induction m generalizing k with
  | zero => rfl
  | succ m ih =>
    cases k with
    | zero => rfl
    | succ k => rw [List.replicate_succ, num, ih]; simp
theorem num_append_zeros (m k : Nat) (l : List UInt8) : num m (l ++ List.replicate k 0) = num m l := by
  induction m generalizing l with
  | zero => rfl
  | succ m ih =>
    cases l with
    | nil => rw [List.nil_append, num_zeros, num_nil]
    | cons c r => rw [List.cons_append, num, num, ih]

/-- The byte of a number at a place, from the lowest; the lowest bytes of a number, the greatest first. -/
def byteAt (n i : Nat) : UInt8 := UInt8.ofNat (n / 256 ^ i)
def putL (n : Nat) : Nat → List UInt8
  | 0 => []
  | i + 1 => byteAt n i :: putL n i
theorem byteAt_nat (n i : Nat) : (byteAt n i).toNat = n / 256 ^ i % 256 := by simp [byteAt]
theorem length_putL (n k : Nat) : (putL n k).length = k := by induction k <;> simp_all [putL]
theorem num_putL (m n : Nat) : num m (putL n m) = n % 256 ^ m := by
  induction m with
  | zero => rw [Nat.pow_zero, Nat.mod_one]; rfl
  | succ m ih => rw [putL, num, ih, byteAt_nat, Nat.mod_pow_succ, Nat.mul_comm, Nat.add_comm]
theorem putL_add (a x m : Nat) (j : Nat) (h : j ≤ m) : putL (a * 256 ^ m + x) j = putL x j := by
  induction j with
  | zero => rfl
  | succ j ih =>
    rw [putL, putL, ih (by omega)]
    congr 1
    apply UInt8.toNat_inj.1
    rw [byteAt_nat, byteAt_nat]
    have e : a * 256 ^ m = (a * 256 ^ (m - j - 1) * 256) * 256 ^ j := by
      rw [Nat.mul_assoc, Nat.mul_assoc, ← Nat.pow_succ', ← Nat.pow_add]
      congr 2; omega
    rw [e, Nat.add_comm, Nat.add_mul_div_right _ _ (Nat.pow_pos (by decide)), Nat.add_mul_mod_self_right]
theorem putL_zero (m : Nat) : putL 0 m = List.replicate m 0 := by
  induction m with
  | zero => rfl
  | succ m ih => rw [putL, ih, List.replicate_succ]; simp [byteAt]
theorem putL_num (m : Nat) (l : List UInt8) (h : l.length ≤ m) : putL (num m l) m = l ++ List.replicate (m - l.length) 0 := by
  induction m generalizing l with
  | zero => have := List.eq_nil_of_length_eq_zero (l := l) (by omega); subst this; rfl
  | succ m ih =>
    cases l with
    | nil => rw [num_nil, putL_zero]; rfl
    | cons c r =>
      have hr : r.length ≤ m := by simpa using h
      rw [num, putL, putL_add _ _ _ _ (Nat.le_refl _), ih r hr, List.cons_append, List.length_cons, Nat.add_sub_add_right]
      congr 1
      apply UInt8.toNat_inj.1
      rw [byteAt_nat, Nat.add_comm, Nat.add_mul_div_right _ _ (Nat.pow_pos (by decide)), Nat.div_eq_of_lt (num_lt m r), Nat.zero_add]
      exact Nat.mod_eq_of_lt c.toNat_lt
theorem putL_halves (n : Nat) : putL n 8 = putL (n / 4294967296) 4 ++ putL n 4 := by
  simp [putL, byteAt, Nat.div_div_eq_div_mul]
theorem putL_inj (a b : Nat) (ha : a < 256 ^ 8) (hb : b < 256 ^ 8) (h : putL a 8 = putL b 8) : a = b := by
  have h1 := num_putL 8 a
  rw [h, num_putL, Nat.mod_eq_of_lt ha, Nat.mod_eq_of_lt hb] at h1
  exact h1.symm

/- How numbers and texts stand. -/
theorem cons_num {c d : UInt8} (m : Nat) (r s : List UInt8) : c.toNat < d.toNat → num (m + 1) (c :: r) < num (m + 1) (d :: s) := by
  intro h
  have h1 := num_lt m r
  have h2 : (c.toNat + 1) * 256 ^ m ≤ d.toNat * 256 ^ m := Nat.mul_le_mul_right _ h
  rw [Nat.succ_mul] at h2
  rw [num, num]
  omega
theorem cons_num_same {c d : UInt8} (m : Nat) (r s : List UInt8) (h : c.toNat = d.toNat) : (num (m + 1) (c :: r) < num (m + 1) (d :: s) ↔ num m r < num m s) := by
  rw [num, num, h]; omega
theorem num_pos {c : UInt8} (m : Nat) (r : List UInt8) (h : c ≠ 0) : 0 < num (m + 1) (c :: r) := by
  have h0 : 0 < c.toNat := by
    rcases Nat.eq_zero_or_pos c.toNat with e | e
    · exact absurd (UInt8.toNat_inj.1 (by simpa using e)) h
    · exact e
  have : 0 < c.toNat * 256 ^ m := Nat.mul_pos h0 (Nat.pow_pos (by decide))
  rw [num]; omega
theorem cmpL_num (m : Nat) (a b : List UInt8) (ha : a.length ≤ m) (hb : b.length ≤ m) (pa : ∀ c ∈ a, c ≠ 0) (pb : ∀ c ∈ b, c ≠ 0) :
    cmpL a b = if num m a < num m b then -1 else if num m b < num m a then 1 else 0 := by
  induction m generalizing a b with
  | zero =>
    rw [List.eq_nil_of_length_eq_zero (l := a) (by omega), List.eq_nil_of_length_eq_zero (l := b) (by omega)]; rfl
  | succ m ih =>
    cases a with
    | nil =>
      cases b with
      | nil => simp [cmpL]
      | cons d s => rw [num_nil, if_pos (num_pos m s (pb d (by simp)))]; rfl
    | cons c r =>
      cases b with
      | nil => rw [num_nil, if_neg (by omega), if_pos (num_pos m r (pa c (by simp)))]; rfl
      | cons d s =>
        rw [cmpL]
        by_cases h1 : c.toNat < d.toNat
        · rw [if_pos h1, if_pos (cons_num m r s h1)]
        · rw [if_neg h1]
          by_cases h2 : d.toNat < c.toNat
          · have := cons_num m s r h2
            rw [if_pos h2, if_neg (by omega), if_pos this]
          · rw [if_neg h2]
            have e1 := cons_num_same m r s (c := c) (d := d) (by omega)
            have e2 := cons_num_same m s r (c := d) (d := c) (by omega)
            rw [ih r s (by simpa using ha) (by simpa using hb) (fun x hx => pa x (by simp [hx])) (fun x hx => pb x (by simp [hx]))]
            simp only [e1, e2]
theorem less_num (m : Nat) (a b : List UInt8) (ha : a.length = m) (hb : b.length = m) : Op.bytesLess a b = decide (num m a < num m b) := by
  induction m generalizing a b with
  | zero =>
    rw [List.eq_nil_of_length_eq_zero ha, List.eq_nil_of_length_eq_zero hb]; rfl
  | succ m ih =>
    cases a with
    | nil => simp at ha
    | cons c r =>
      cases b with
      | nil => simp at hb
      | cons d s =>
        rw [Op.bytesLess, ih r s (by simpa using ha) (by simpa using hb)]
        by_cases h1 : c.toNat < d.toNat
        · rw [decide_eq_true (cons_num m r s h1), show decide (c < d) = true from decide_eq_true (UInt8.lt_iff_toNat_lt.2 h1)]; rfl
        · rw [show decide (c < d) = false from decide_eq_false (fun h => h1 (UInt8.lt_iff_toNat_lt.1 h))]
          by_cases h2 : d.toNat < c.toNat
          · have h3 : (c == d) = false := by
              rw [beq_eq_false_iff_ne]; rintro rfl; omega
            have := cons_num m s r h2
            rw [h3, decide_eq_false (show ¬ num (m + 1) (c :: r) < num (m + 1) (d :: s) by omega)]; rfl
          · have e : c = d := UInt8.toNat_inj.1 (by omega)
            subst e
            have e1 := cons_num_same m r s (c := c) (d := c) rfl
            simp only [e1, beq_self_eq_true, Bool.false_or, Bool.true_and]

/- A text without the zeros behind it. -/
def trimZ (l : List UInt8) : List UInt8 := (l.reverse.dropWhile (· == 0)).reverse
theorem trimZ_nil : trimZ [] = [] := rfl
theorem trimZ_zero (l : List UInt8) : trimZ (l ++ [0]) = trimZ l := by simp [trimZ]
theorem trimZ_stop (l : List UInt8) (c : UInt8) (h : c ≠ 0) : trimZ (l ++ [c]) = l ++ [c] := by
  have : (c == 0) = false := by rw [beq_eq_false_iff_ne]; exact h
  simp [trimZ, this]
theorem trimZ_zeros (l : List UInt8) (k : Nat) : trimZ (l ++ List.replicate k 0) = trimZ l := by
  induction k with
  | zero => simp
  | succ k ih => rw [List.replicate_succ', ← List.append_assoc, trimZ_zero, ih]
theorem trimZ_all (l : List UInt8) (h : ∀ c ∈ l, c ≠ 0) : trimZ l = l := by
  rcases List.eq_nil_or_concat l with rfl | ⟨r, c, rfl⟩
  · rfl
  · rw [List.concat_eq_append] at *
    exact trimZ_stop r c (h c (by simp))
theorem trimZ_parts (l : List UInt8) : ∃ k, l = trimZ l ++ List.replicate k 0 := by
  generalize hn : l.length = n
  induction n generalizing l with
  | zero => rw [List.eq_nil_of_length_eq_zero hn]; exact ⟨0, rfl⟩
  | succ n ih =>
    rcases List.eq_nil_or_concat l with rfl | ⟨r, c, rfl⟩
    · simp at hn
    · rw [List.concat_eq_append] at *
      by_cases hc : c = 0
      · subst hc
        obtain ⟨k, hk⟩ := ih r (by simpa using hn)
        rw [trimZ_zero]
        exact ⟨k + 1, by rw [List.replicate_succ', ← List.append_assoc, ← hk]⟩
      · exact ⟨0, by rw [trimZ_stop r c hc]; simp⟩
theorem length_trimZ (l : List UInt8) : (trimZ l).length ≤ l.length := by
  obtain ⟨k, hk⟩ := trimZ_parts l
  have := congrArg List.length hk
  rw [List.length_append] at this
  omega

/- Packed texts; what Pack and Unpack tell. -/
def packT (s : ByteArray) : Bool := decide (s.size ≤ 8) && (bs s).all isP
def packN (s : ByteArray) : Nat := if packT (lowS s) then num 8 (bs (lowS s)) else 0
theorem packT_iff (s : ByteArray) : packT s = true ↔ s.size ≤ 8 ∧ ∀ c ∈ bs s, isP c = true := by
  unfold packT; rw [Bool.and_eq_true, decide_eq_true_iff, List.all_eq_true]
theorem packN_lt (s : ByteArray) : packN s < 256 ^ 8 := by
  unfold packN; split
  · exact num_lt 8 _
  · decide
theorem low_packed {s : ByteArray} (h : packT s = true) : lowS s = s := by
  rw [packT_iff] at h
  unfold lowS
  rw [List.map_congr_left (g := id) fun c hc => isP_low c (h.2 c hc), List.map_id]
  exact ofL_bs s
def unS (n : Nat) : ByteArray := ofL (trimZ (putL n 8))
def unT (n : Nat) : ByteArray := if packT (unS n) then unS n else ofL []
theorem size_unS (n : Nat) : (unS n).size ≤ 8 := by
  unfold unS; rw [size_ofL]
  have := length_trimZ (putL n 8)
  rw [length_putL] at this
  exact this
theorem num_unS (n : Nat) (h : n < 256 ^ 8) : num 8 (bs (unS n)) = n := by
  unfold unS
  rw [bs_ofL]
  obtain ⟨k, hk⟩ := trimZ_parts (putL n 8)
  have h1 := num_append_zeros 8 k (trimZ (putL n 8))
  rw [← hk, num_putL, Nat.mod_eq_of_lt h] at h1
  exact h1.symm
theorem unS_num {s : ByteArray} (h : packT s = true) : unS (num 8 (bs s)) = s := by
  have h' := (packT_iff s).1 h
  unfold unS
  rw [putL_num 8 (bs s) h'.1, trimZ_zeros, trimZ_all _ fun c hc => isP_nz c (h'.2 c hc)]
  exact ofL_bs s
end Go.Proofs.Ytaiailcimpgmaaa

/-! Package split, in plain words: a text's pieces, as lists of bytes; where they begin; joined; trimmed; the first that is no subtag. No dump. -/
namespace Go.Proofs.Ytaiailcimpgmaaa

/-- A text's pieces. -/
def spl : List UInt8 → List (List UInt8)
  | [] => [[]]
  | c :: r => if c = 45 then [] :: spl r else (c :: (spl r).headD []) :: (spl r).tail
theorem spl_cons (l : List UInt8) : ∃ h t, spl l = h :: t := by
  cases l with
  | nil => exact ⟨[], [], rfl⟩
  | cons c r => unfold spl; split <;> exact ⟨_, _, rfl⟩
theorem spl_ne (l : List UInt8) : spl l ≠ [] := by
  obtain ⟨h, t, e⟩ := spl_cons l
  rw [e]; exact List.cons_ne_nil _ _
theorem spl_pos (l : List UInt8) : 0 < (spl l).length := List.length_pos_iff.2 (spl_ne l)
theorem spl_plain {l : List UInt8} (h : (45 : UInt8) ∉ l) : spl l = [l] := by
  induction l with
  | nil => rfl
  | cons c r ih =>
    rw [List.mem_cons, not_or] at h
    unfold spl
    rw [if_neg (fun e => h.1 e.symm), ih h.2]; rfl
theorem spl_app (a b : List UInt8) : spl (a ++ 45 :: b) = spl a ++ spl b := by
  induction a with
  | nil => simp [spl]
  | cons c r ih =>
    obtain ⟨h, t, e⟩ := spl_cons r
    simp only [List.cons_append, spl, ih, e]
    split <;> simp
/-- Pieces joined. -/
def joinP (ps : List (List UInt8)) : List UInt8 := Lib.join ps [45]
theorem joinP_nil : joinP [] = [] := rfl
theorem joinP_one (p : List UInt8) : joinP [p] = p := Lib.join_one _ _
theorem joinP_cons (p : List UInt8) {ps : List (List UInt8)} (h : ps ≠ []) : joinP (p :: ps) = p ++ 45 :: joinP ps := by
  cases ps with
  | nil => exact absurd rfl h
  | cons q r => unfold joinP; rw [Lib.join_cons, Lib.join_cons]; simp [Lib.joinTail]
theorem joinP_snoc {ps : List (List UInt8)} (h : ps ≠ []) (p : List UInt8) : joinP (ps ++ [p]) = joinP ps ++ 45 :: p := by
  induction ps with
  | nil => exact absurd rfl h
  | cons q r ih =>
    cases r with
    | nil => rw [List.cons_append, List.nil_append, joinP_cons _ (by simp), joinP_one, joinP_one]
    | cons x y => rw [List.cons_append, joinP_cons q (List.append_ne_nil_of_left_ne_nil (List.cons_ne_nil x y) [p]), ih (by simp), joinP_cons q (List.cons_ne_nil x y)]; simp
theorem joinP_spl (l : List UInt8) : joinP (spl l) = l := by
  induction l with
  | nil => rfl
  | cons c r ih =>
    obtain ⟨h, t, e⟩ := spl_cons r
    unfold spl
    rw [e] at ih ⊢
    split
    · rename_i hc
      rw [joinP_cons _ (by simp), ih, hc]; rfl
    · unfold joinP at *
      rw [Lib.join_cons] at ih ⊢
      simp only [List.headD_cons, List.tail_cons, List.cons_append, ih]
theorem spl_joinP {ps : List (List UInt8)} (h0 : ps ≠ []) (h : ∀ p ∈ ps, (45 : UInt8) ∉ p) : spl (joinP ps) = ps := by
  induction ps with
  | nil => exact absurd rfl h0
  | cons p r ih =>
    cases r with
    | nil => rw [joinP_one]; exact spl_plain (h p (by simp))
    | cons q t =>
      rw [joinP_cons _ (by simp), spl_app, ih (by simp) (fun x hx => h x (List.mem_cons_of_mem _ hx)), spl_plain (h p (by simp))]; rfl
theorem spl_mem (l : List UInt8) : ∀ p ∈ spl l, (45 : UInt8) ∉ p := by
  induction l with
  | nil => intro p hp; simp [spl] at hp; simp [hp]
  | cons c r ih =>
    obtain ⟨h, t, e⟩ := spl_cons r
    intro p hp
    unfold spl at hp
    rw [e] at hp ih
    split at hp
    · rcases List.mem_cons.1 hp with rfl | hp
      · simp
      · exact ih p hp
    · rename_i hc
      simp only [List.headD_cons, List.tail_cons] at hp
      rcases List.mem_cons.1 hp with rfl | hp
      · rw [List.mem_cons, not_or]; exact ⟨fun e => hc e.symm, ih h (by simp)⟩
      · exact ih p (List.mem_cons_of_mem _ hp)
theorem spl_len (l : List UInt8) : (spl l).length ≤ l.length + 1 := by
  induction l with
  | nil => simp [spl]
  | cons c r ih =>
    obtain ⟨h, t, e⟩ := spl_cons r
    unfold spl
    rw [e] at ih ⊢
    split <;> simp at ih ⊢ <;> omega
theorem spl_mem_len (l : List UInt8) : ∀ p ∈ spl l, p.length ≤ l.length := by
  induction l with
  | nil => intro p hp; simp [spl] at hp; simp [hp]
  | cons c r ih =>
    obtain ⟨h, t, e⟩ := spl_cons r
    intro p hp
    unfold spl at hp
    rw [e] at hp ih
    split at hp
    · rcases List.mem_cons.1 hp with rfl | hp
      · simp
      · have := ih p hp; simp; omega
    · simp only [List.headD_cons, List.tail_cons] at hp
      rcases List.mem_cons.1 hp with rfl | hp
      · have := ih h (by simp); simp; omega
      · have := ih p (List.mem_cons_of_mem _ hp); simp; omega

/-- The first mark of a text, and what stands ahead of it and behind it. -/
theorem idx_cases (l : List UInt8) : (Lib.indexByte l 45 = -1 ∧ (45 : UInt8) ∉ l) ∨ ∃ p r, Lib.indexByte l 45 = (p.length : Int) ∧ l = p ++ 45 :: r ∧ (45 : UInt8) ∉ p := by
  by_cases h : Lib.indexByte l 45 = -1
  · refine .inl ⟨h, fun hm => ?_⟩
    obtain ⟨k, hk⟩ := List.mem_iff_getElem?.1 hm
    exact Lib.indexByte_none h k hk
  · have hge := Lib.indexByte_ge l 45
    obtain ⟨o, ho⟩ := Int.eq_ofNat_of_zero_le (show 0 ≤ Lib.indexByte l 45 by omega)
    obtain ⟨h1, h2⟩ := Lib.indexByte_some ho
    obtain ⟨hol, hoe⟩ := List.getElem?_eq_some_iff.1 h1
    refine .inr ⟨l.take o, l.drop (o + 1), ?_, ?_, fun hm => ?_⟩
    · rw [ho, List.length_take, Nat.min_eq_left (by omega)]
    · rw [← hoe, ← List.drop_eq_getElem_cons hol, List.take_append_drop]
    · obtain ⟨k, hk⟩ := List.mem_iff_getElem?.1 hm
      rw [List.getElem?_take] at hk
      split at hk
      · exact h2 k (by assumption) hk
      · cases hk

/-- Where the last mark of the first k bytes stands, or -1. -/
def lastK (l : List UInt8) : Nat → Int
  | 0 => -1
  | k + 1 => if l[k]? = some 45 then (k : Int) else lastK l k
def lastM (l : List UInt8) : Int := lastK l l.length
theorem lastK_cases (l : List UInt8) : ∀ k, k ≤ l.length → (lastK l k = -1 ∧ (45 : UInt8) ∉ l.take k) ∨ ∃ a p, lastK l k = (a.length : Int) ∧ l.take k = a ++ 45 :: p ∧ (45 : UInt8) ∉ p
  | 0, _ => .inl ⟨rfl, by simp⟩
  | k + 1, hk => by
    have he : l.take (k + 1) = l.take k ++ [l[k]'(by omega)] := List.take_succ_eq_append_getElem (by omega)
    have hg : l[k]? = some (l[k]'(by omega)) := List.getElem?_eq_getElem (by omega)
    unfold lastK
    rw [hg, he]
    by_cases h : l[k]'(by omega) = 45
    · rw [if_pos (by rw [h]), h]
      refine .inr ⟨l.take k, [], ?_, rfl, by simp⟩
      rw [List.length_take, Nat.min_eq_left (by omega)]
    · rw [if_neg (fun e => h (Option.some.inj e))]
      rcases lastK_cases l k (by omega) with ⟨h1, h2⟩ | ⟨a, p, h1, h2, h3⟩
      · exact .inl ⟨h1, by rw [List.mem_append, not_or]; exact ⟨h2, by simpa using fun e => h e.symm⟩⟩
      · refine .inr ⟨a, p ++ [l[k]'(by omega)], h1, by rw [h2]; simp, ?_⟩
        rw [List.mem_append, not_or]; exact ⟨h3, by simpa using fun e => h e.symm⟩
theorem lastM_cases (l : List UInt8) : (lastM l = -1 ∧ (45 : UInt8) ∉ l) ∨ ∃ a p, lastM l = (a.length : Int) ∧ l = a ++ 45 :: p ∧ (45 : UInt8) ∉ p := by
  have := lastK_cases l l.length (Nat.le_refl _)
  rwa [List.take_length] at this

/- Trimmed. -/
def stripR : List (List UInt8) → List (List UInt8)
  | p :: q :: r => if p.length = 1 then stripR (q :: r) else p :: q :: r
  | r => r
def stripP (ps : List (List UInt8)) : List (List UInt8) := (stripR ps.reverse).reverse
theorem stripP_nil : stripP [] = [] := rfl
theorem stripP_one (p : List UInt8) : stripP [p] = [p] := rfl
theorem stripP_snoc {qs : List (List UInt8)} (h : qs ≠ []) (p : List UInt8) : stripP (qs ++ [p]) = if p.length = 1 then stripP qs else qs ++ [p] := by
  unfold stripP
  rw [List.reverse_append, List.reverse_cons, List.reverse_nil, List.nil_append, List.cons_append, List.nil_append]
  cases hq : qs.reverse with
  | nil => exact absurd (List.reverse_eq_nil_iff.1 hq) h
  | cons x y =>
    simp only [stripR]
    split
    · rfl
    · rw [List.reverse_cons, ← hq, List.reverse_reverse]
/-- A text without its last piece, and the pieces of one byte ahead of that. -/
def trimL (l : List UInt8) : List UInt8 := joinP (stripP (spl l).dropLast)
def trimS (s : ByteArray) : ByteArray := ofL (trimL (bs s))
/-- What is left of a text that has lost its last piece. -/
def cutL (a : List UInt8) : List UInt8 := joinP (stripP (spl a))
theorem trimL_none {l : List UInt8} (h : (45 : UInt8) ∉ l) : trimL l = [] := by unfold trimL; rw [spl_plain h]; rfl
theorem trimL_some {a p : List UInt8} (h : (45 : UInt8) ∉ p) : trimL (a ++ 45 :: p) = cutL a := by
  unfold trimL cutL; rw [spl_app, spl_plain h, List.dropLast_concat]
/-- Does a text end with a piece of just one byte, and a mark ahead of it? -/
def singleL (l : List UInt8) : Prop := ∃ a c, l = a ++ [45, c] ∧ c ≠ 45
theorem cutL_single {a : List UInt8} {c : UInt8} (h : c ≠ 45) : cutL (a ++ [45, c]) = cutL a := by
  unfold cutL
  have hc : (45 : UInt8) ∉ [c] := by simpa using fun e => h e.symm
  rw [show a ++ [45, c] = a ++ 45 :: [c] from rfl, spl_app, spl_plain hc, stripP_snoc (spl_ne a), if_pos (show [c].length = 1 from rfl)]
theorem cutL_stop {l : List UInt8} (h : ¬ singleL l) : cutL l = l := by
  unfold cutL
  rcases lastM_cases l with ⟨_, hn⟩ | ⟨a, p, _, hl, hp⟩
  · rw [spl_plain hn, stripP_one, joinP_one]
  · rw [hl, spl_app, spl_plain hp, stripP_snoc (spl_ne a)]
    rw [if_neg (fun hlen => ?_)]
    · rw [joinP_snoc (spl_ne a), joinP_spl]
    · obtain ⟨c, rfl⟩ : ∃ c, p = [c] := List.length_eq_one_iff.1 hlen
      exact h ⟨a, c, by rw [hl], fun e => hp (by simp [e])⟩

/- Pieces, and where they begin. -/
def placed : Nat → List (List UInt8) → List (Nat × ByteArray)
  | _, [] => []
  | n, p :: r => (n, ofL p) :: placed (n + p.length + 1) r
def pieces (s : ByteArray) : List (Nat × ByteArray) := placed 0 (spl (bs s))
theorem placed_map (n : Nat) (ps : List (List UInt8)) : (placed n ps).map (·.2) = ps.map ofL := by
  induction ps generalizing n with
  | nil => rfl
  | cons p r ih => simp [placed, ih]
theorem placed_length (n : Nat) (ps : List (List UInt8)) : (placed n ps).length = ps.length := by
  induction ps generalizing n with
  | nil => rfl
  | cons p r ih => simp [placed, ih]
def splS (s : ByteArray) : List ByteArray := (spl (bs s)).map ofL
theorem pieces_map (s : ByteArray) : (pieces s).map (·.2) = splS s := placed_map _ _
theorem pieces_length (s : ByteArray) : (pieces s).length = (splS s).length := by rw [← pieces_map, List.length_map]
theorem splS_length (s : ByteArray) : (splS s).length = (spl (bs s)).length := List.length_map ..
theorem splS_pos (s : ByteArray) : 0 < (splS s).length := by rw [splS_length]; exact spl_pos _
theorem splS_le (s : ByteArray) : (splS s).length ≤ s.size + 1 := by rw [splS_length, ← size_bs]; exact spl_len _
theorem splS_size (s : ByteArray) : ∀ p ∈ splS s, p.size ≤ s.size := by
  intro p hp
  obtain ⟨q, hq, rfl⟩ := List.mem_map.1 hp
  rw [size_ofL, ← size_bs]; exact spl_mem_len _ _ hq

/- The first piece that is no subtag. -/
def okL (p : List UInt8) : Bool := decide (p.length ≤ 8) && alnumS (ofL p)
def okS (s : ByteArray) : Bool := decide (s.size ≤ 8) && alnumS s
theorem okS_ofL (p : List UInt8) : okS (ofL p) = okL p := by unfold okS okL; rw [size_ofL]
def badOf : List (Nat × ByteArray) → Option Nat
  | [] => none
  | x :: r => if okS x.2 then badOf r else some x.1
theorem badOf_none (l : List (Nat × ByteArray)) : badOf l = none ↔ ∀ x ∈ l, okS x.2 = true := by
  induction l with
  | nil => simp [badOf]
  | cons x r ih =>
    unfold badOf
    split
    · rename_i h; simp [ih, h]
    · rename_i h; simp [h]
def chkS (s : ByteArray) : Option Nat := badOf (pieces s)
theorem chkS_none (s : ByteArray) : chkS s = none ↔ ∀ p ∈ spl (bs s), okL p = true := by
  unfold chkS
  rw [badOf_none]
  constructor
  · intro h p hp
    have h1 : ofL p ∈ (pieces s).map (·.2) := by rw [pieces_map]; exact List.mem_map.2 ⟨p, hp, rfl⟩
    obtain ⟨x, hx, hxe⟩ := List.mem_map.1 h1
    rw [← okS_ofL, ← hxe]; exact h x hx
  · intro h x hx
    have h1 : x.2 ∈ splS s := by rw [← pieces_map]; exact List.mem_map.2 ⟨x, hx, rfl⟩
    obtain ⟨p, hp, hpe⟩ := List.mem_map.1 h1
    rw [← hpe, okS_ofL]; exact h p hp
end Go.Proofs.Ytaiailcimpgmaaa

/-! Layer 5's texts: the grandfathered tags in their order; where a text stands among them. No dump. -/
namespace Go.Proofs.Ytaiailcimpgmaaa

/-- The tags, in order, and which are regular. -/
def gL : List (ByteArray × Bool) := [
  (⟨#[97, 114, 116, 45, 108, 111, 106, 98, 97, 110]⟩, true),
  (⟨#[99, 101, 108, 45, 103, 97, 117, 108, 105, 115, 104]⟩, true),
  (⟨#[101, 110, 45, 103, 98, 45, 111, 101, 100]⟩, false),
  (⟨#[105, 45, 97, 109, 105]⟩, false),
  (⟨#[105, 45, 98, 110, 110]⟩, false),
  (⟨#[105, 45, 100, 101, 102, 97, 117, 108, 116]⟩, false),
  (⟨#[105, 45, 101, 110, 111, 99, 104, 105, 97, 110]⟩, false),
  (⟨#[105, 45, 104, 97, 107]⟩, false),
  (⟨#[105, 45, 107, 108, 105, 110, 103, 111, 110]⟩, false),
  (⟨#[105, 45, 108, 117, 120]⟩, false),
  (⟨#[105, 45, 109, 105, 110, 103, 111]⟩, false),
  (⟨#[105, 45, 110, 97, 118, 97, 106, 111]⟩, false),
  (⟨#[105, 45, 112, 119, 110]⟩, false),
  (⟨#[105, 45, 116, 97, 111]⟩, false),
  (⟨#[105, 45, 116, 97, 121]⟩, false),
  (⟨#[105, 45, 116, 115, 117]⟩, false),
  (⟨#[110, 111, 45, 98, 111, 107]⟩, true),
  (⟨#[110, 111, 45, 110, 121, 110]⟩, true),
  (⟨#[115, 103, 110, 45, 98, 101, 45, 102, 114]⟩, false),
  (⟨#[115, 103, 110, 45, 98, 101, 45, 110, 108]⟩, false),
  (⟨#[115, 103, 110, 45, 99, 104, 45, 100, 101]⟩, false),
  (⟨#[122, 104, 45, 103, 117, 111, 121, 117]⟩, true),
  (⟨#[122, 104, 45, 104, 97, 107, 107, 97]⟩, true),
  (⟨#[122, 104, 45, 109, 105, 110]⟩, true),
  (⟨#[122, 104, 45, 109, 105, 110, 45, 110, 97, 110]⟩, true),
  (⟨#[122, 104, 45, 120, 105, 97, 110, 103]⟩, true)]
def nameG (k : Nat) : ByteArray := (gL.getD k (ByteArray.empty, false)).1
def regG (k : Nat) : Bool := (gL.getD k (ByteArray.empty, false)).2
/-- The tags as the document's own list has them: a regular one with its star. -/
def gS : List ByteArray := [
  ⟨#[97, 114, 116, 45, 108, 111, 106, 98, 97, 110, 42]⟩,
  ⟨#[99, 101, 108, 45, 103, 97, 117, 108, 105, 115, 104, 42]⟩,
  ⟨#[101, 110, 45, 103, 98, 45, 111, 101, 100]⟩,
  ⟨#[105, 45, 97, 109, 105]⟩,
  ⟨#[105, 45, 98, 110, 110]⟩,
  ⟨#[105, 45, 100, 101, 102, 97, 117, 108, 116]⟩,
  ⟨#[105, 45, 101, 110, 111, 99, 104, 105, 97, 110]⟩,
  ⟨#[105, 45, 104, 97, 107]⟩,
  ⟨#[105, 45, 107, 108, 105, 110, 103, 111, 110]⟩,
  ⟨#[105, 45, 108, 117, 120]⟩,
  ⟨#[105, 45, 109, 105, 110, 103, 111]⟩,
  ⟨#[105, 45, 110, 97, 118, 97, 106, 111]⟩,
  ⟨#[105, 45, 112, 119, 110]⟩,
  ⟨#[105, 45, 116, 97, 111]⟩,
  ⟨#[105, 45, 116, 97, 121]⟩,
  ⟨#[105, 45, 116, 115, 117]⟩,
  ⟨#[110, 111, 45, 98, 111, 107, 42]⟩,
  ⟨#[110, 111, 45, 110, 121, 110, 42]⟩,
  ⟨#[115, 103, 110, 45, 98, 101, 45, 102, 114]⟩,
  ⟨#[115, 103, 110, 45, 98, 101, 45, 110, 108]⟩,
  ⟨#[115, 103, 110, 45, 99, 104, 45, 100, 101]⟩,
  ⟨#[122, 104, 45, 103, 117, 111, 121, 117, 42]⟩,
  ⟨#[122, 104, 45, 104, 97, 107, 107, 97, 42]⟩,
  ⟨#[122, 104, 45, 109, 105, 110, 42]⟩,
  ⟨#[122, 104, 45, 109, 105, 110, 45, 110, 97, 110, 42]⟩,
  ⟨#[122, 104, 45, 120, 105, 97, 110, 103, 42]⟩]
def starG (k : Nat) : ByteArray := gS.getD k ByteArray.empty

theorem name_all (P : Nat → Prop) (h : ∀ k : Fin 26, P k.val) (k : Nat) (hk : k < 26) : P k := h ⟨k, hk⟩
theorem name_low (k : Nat) (hk : k < 26) : lowS (nameG k) = nameG k := name_all (fun k => lowS (nameG k) = nameG k) (by decide +kernel) k hk
theorem name_size (k : Nat) (hk : k < 26) : 3 ≤ (nameG k).size ∧ (nameG k).size ≤ 11 := name_all (fun k => 3 ≤ (nameG k).size ∧ (nameG k).size ≤ 11) (by decide +kernel) k hk
theorem star_size (k : Nat) (hk : k < 26) : 1 ≤ (starG k).size ∧ (starG k).size ≤ 12 := name_all (fun k => 1 ≤ (starG k).size ∧ (starG k).size ≤ 12) (by decide +kernel) k hk
theorem star_reg (k : Nat) (hk : k < 26) (h : regG k = true) : (starG k).data[(starG k).size - 1]? = some 42 ∧ (starG k).extract 0 ((starG k).size - 1) = nameG k :=
  name_all (fun k => regG k = true → (starG k).data[(starG k).size - 1]? = some 42 ∧ (starG k).extract 0 ((starG k).size - 1) = nameG k) (by decide +kernel) k hk h
theorem star_not (k : Nat) (hk : k < 26) (h : regG k = false) : (starG k).data[(starG k).size - 1]? ≠ some 42 ∧ starG k = nameG k :=
  name_all (fun k => regG k = false → (starG k).data[(starG k).size - 1]? ≠ some 42 ∧ starG k = nameG k) (by decide +kernel) k hk h
theorem star_ne (k : Nat) (hk : k < 26) : decide (starG k ≠ nameG k) = regG k := name_all (fun k => decide (starG k ≠ nameG k) = regG k) (by decide +kernel) k hk
theorem name_lt2 : ∀ j k : Fin 26, j.val < k.val → cmpS (nameG j.val) (nameG k.val) = -1 := by decide +kernel
theorem name_lt (j k : Nat) (hk : k < 26) (h : j < k) : cmpS (nameG j) (nameG k) = -1 := name_lt2 ⟨j, by omega⟩ ⟨k, hk⟩ h
theorem name_inj (j k : Nat) (hj : j < 26) (hk : k < 26) (h : nameG j = nameG k) : j = k := by
  rcases Nat.lt_trichotomy j k with h1 | h1 | h1
  · have := name_lt j k hk h1
    rw [h, show cmpS (nameG k) (nameG k) = 0 from cmpL_self _] at this
    cases this
  · exact h1
  · have := name_lt k j hj h1
    rw [h, show cmpS (nameG k) (nameG k) = 0 from cmpL_self _] at this
    cases this

theorem low_bs (s : ByteArray) : bs (lowS s) = (bs s).map lowB := by simp [lowS, bs_ofL]
theorem same_low (a b : ByteArray) : sameS a b = true ↔ lowS a = lowS b := by
  unfold sameS
  rw [decide_eq_true_iff]
  constructor
  · intro h
    exact ofL_ext (by rw [low_bs, low_bs]; exact cmpL_zero h)
  · intro h
    unfold cmpS
    rw [← low_bs, ← low_bs, h]
    exact cmpL_self _

/-- Where a text stands: the first tag that is not ahead of it. -/
def searchV (s : ByteArray) : Nat := (List.range 26).findIdx fun k => decide (0 ≤ cmpS (nameG k) s)
theorem search_le (s : ByteArray) : searchV s ≤ 26 := by
  have := List.findIdx_le_length (p := fun k => decide (0 ≤ cmpS (nameG k) s)) (xs := List.range 26)
  rw [List.length_range] at this
  exact this
theorem search_iff (s : ByteArray) (i : Nat) (hi : i < 26) : 0 ≤ cmpS (nameG i) s ↔ searchV s ≤ i := by
  constructor
  · intro h
    rcases Nat.lt_or_ge i (searchV s) with h1 | h1
    · have := List.not_of_lt_findIdx (p := fun k => decide (0 ≤ cmpS (nameG k) s)) (xs := List.range 26) h1
      simp at this
      omega
    · exact h1
  · intro h
    have hl : searchV s < (List.range 26).length := by rw [List.length_range]; omega
    have h0 := List.findIdx_getElem (p := fun k => decide (0 ≤ cmpS (nameG k) s)) (xs := List.range 26) (w := hl)
    have h1 : decide (0 ≤ cmpS (nameG ((List.range 26)[searchV s]'hl)) s) = true := h0
    rw [List.getElem_range, decide_eq_true_iff] at h1
    clear h0
    rcases Nat.lt_or_eq_of_le h with h2 | h2
    · have h3 := name_lt _ i hi h2
      have h4 : cmpS s (nameG i) ≤ 0 := cmpL_trans _ ((bs (nameG (searchV s))).map lowB) _ (by have := cmpS_swap (nameG (searchV s)) s; unfold cmpS at this h1; rw [this]; omega) (by unfold cmpS at h3; rw [h3]; decide)
      have := cmpS_swap s (nameG i)
      omega
    · rw [← h2]; exact h1

/-- Which tag a text is. -/
def findV (s : ByteArray) : Option Nat := if searchV s < 26 ∧ sameS (nameG (searchV s)) s = true then some (searchV s) else none
theorem findV_iff (s : ByteArray) (k : Nat) (hk : k < 26) : findV s = some k ↔ lowS s = nameG k := by
  unfold findV
  constructor
  · intro h
    split at h
    · rename_i h1
      obtain rfl := Option.some.inj h
      rw [← name_low _ hk]
      exact ((same_low _ _).1 h1.2).symm
    · cases h
  · intro h
    have h0 : lowS (nameG k) = lowS s := by rw [name_low k hk, h]
    have hz : cmpS (nameG k) s = 0 := by
      have := (same_low _ _).2 h0
      unfold sameS at this
      exact of_decide_eq_true this
    have h1 : searchV s ≤ k := (search_iff s k hk).1 (by omega)
    have h2 : searchV s = k := by
      rcases Nat.lt_or_eq_of_le h1 with h3 | h3
      · have h4 := (search_iff s (searchV s) (by omega)).2 (Nat.le_refl _)
        have h5 := name_lt (searchV s) k hk h3
        have h6 : cmpS (nameG (searchV s)) (nameG k) = cmpS (nameG (searchV s)) s := by
          unfold cmpS
          rw [← low_bs, ← low_bs, ← low_bs, h0]
        omega
      · exact h3
    rw [h2, if_pos ⟨hk, (same_low _ _).2 h0⟩]
theorem findV_lt {s : ByteArray} {k : Nat} (h : findV s = some k) : k < 26 := by
  unfold findV at h
  split at h
  · rename_i h1; obtain rfl := Option.some.inj h; exact h1.1
  · cases h
theorem findV_none (s : ByteArray) (h : findV s = none) (k : Nat) (hk : k < 26) : lowS s ≠ nameG k := fun e => by rw [(findV_iff s k hk).2 e] at h; cases h
theorem findV_name (k : Nat) (hk : k < 26) : findV (nameG k) = some k := (findV_iff _ k hk).2 (name_low k hk)
end Go.Proofs.Ytaiailcimpgmaaa
