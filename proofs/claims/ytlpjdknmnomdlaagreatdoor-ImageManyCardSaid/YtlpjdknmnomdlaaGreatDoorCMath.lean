/-
  Package pack, in plain words: bytes of packed texts, the number of a text, the bytes of a number, a text without the zeros behind it. No dump.
-/
import Derived.Test.YtlpjdknmnomdlaaGreatDoorBMath
namespace Go.Proofs.YtlpjdknmnomdlaaGreatDoor

def isP (c : UInt8) : Bool := isL c || isD c || c == 42 || c == 33 || c == 36
theorem isP_low : ∀ c, isP c = true → lowB c = c := byte_all _ (by decide +kernel)
theorem isP_nz : ∀ c, isP c = true → c ≠ 0 := byte_all _ (by decide +kernel)

/-- The number of the first m bytes of a list, the greatest first, zeros behind it. -/
def num : Nat → List UInt8 → Nat
  | 0, _ => 0
  | _ + 1, [] => 0
  | m + 1, c :: r => c.toNat * 256 ^ m + num m r
theorem num_nil (m : Nat) : num m [] = 0 := by cases m <;> rfl
theorem num_lt (m : Nat) (l : List UInt8) : num m l < 256 ^ m := by
  induction m generalizing l with
  | zero => simp [num]
  | succ m ih =>
    cases l with
    | nil => rw [num]; exact Nat.pow_pos (by decide)
    | cons c r =>
      have h1 := ih r
      have h2 : (c.toNat + 1) * 256 ^ m ≤ 256 * 256 ^ m := Nat.mul_le_mul_right _ (by have := c.toNat_lt; omega)
      rw [Nat.succ_mul] at h2
      rw [num, Nat.pow_succ, Nat.mul_comm (256 ^ m)]
      omega
theorem num_succ (k : Nat) (l : List UInt8) : num (k + 1) l = num k l * 256 + (l[k]?.getD 0).toNat := by
  induction k generalizing l with
  | zero =>
    cases l with
    | nil => rfl
    | cons c r => simp [num]
  | succ k ih =>
    cases l with
    | nil => simp [num_nil]
    | cons c r =>
      rw [num, ih r, num, List.getElem?_cons_succ, Nat.add_mul, Nat.mul_assoc, ← Nat.pow_succ, Nat.add_assoc]
theorem num_zeros (m k : Nat) : num m (List.replicate k 0) = 0 := by
  induction m generalizing k with
  | zero => rfl
  | succ m ih =>
    cases k with
    | zero => rfl
    | succ k => rw [List.replicate_succ, num, ih]; simp
theorem num_append_zeros (m k : Nat) (l : List UInt8) : num m (l ++ List.replicate k 0) = num m l := by
  induction m generalizing l with
  | zero => rfl
  | succ m ih =>
    cases l with
    | nil => rw [List.nil_append, num_zeros, num_nil]
    | cons c r => rw [List.cons_append, num, num, ih]

/-- The byte of a number at a place, from the lowest; the lowest bytes of a number, the greatest first. -/
def byteAt (n i : Nat) : UInt8 := UInt8.ofNat (n / 256 ^ i)
def putL (n : Nat) : Nat → List UInt8
  | 0 => []
  | i + 1 => byteAt n i :: putL n i
theorem byteAt_nat (n i : Nat) : (byteAt n i).toNat = n / 256 ^ i % 256 := by simp [byteAt]
theorem length_putL (n k : Nat) : (putL n k).length = k := by induction k <;> simp_all [putL]
theorem num_putL (m n : Nat) : num m (putL n m) = n % 256 ^ m := by
  induction m with
  | zero => rw [Nat.pow_zero, Nat.mod_one]; rfl
  | succ m ih => rw [putL, num, ih, byteAt_nat, Nat.mod_pow_succ, Nat.mul_comm, Nat.add_comm]
theorem putL_add (a x m : Nat) (j : Nat) (h : j ≤ m) : putL (a * 256 ^ m + x) j = putL x j := by
  induction j with
  | zero => rfl
  | succ j ih =>
    rw [putL, putL, ih (by omega)]
    congr 1
    apply UInt8.toNat_inj.1
    rw [byteAt_nat, byteAt_nat]
    have e : a * 256 ^ m = (a * 256 ^ (m - j - 1) * 256) * 256 ^ j := by
      rw [Nat.mul_assoc, Nat.mul_assoc, ← Nat.pow_succ', ← Nat.pow_add]
      congr 2; omega
    rw [e, Nat.add_comm, Nat.add_mul_div_right _ _ (Nat.pow_pos (by decide)), Nat.add_mul_mod_self_right]
theorem putL_zero (m : Nat) : putL 0 m = List.replicate m 0 := by
  induction m with
  | zero => rfl
  | succ m ih => rw [putL, ih, List.replicate_succ]; simp [byteAt]
theorem putL_num (m : Nat) (l : List UInt8) (h : l.length ≤ m) : putL (num m l) m = l ++ List.replicate (m - l.length) 0 := by
  induction m generalizing l with
  | zero => have := List.eq_nil_of_length_eq_zero (l := l) (by omega); subst this; rfl
  | succ m ih =>
    cases l with
    | nil => rw [num_nil, putL_zero]; rfl
    | cons c r =>
      have hr : r.length ≤ m := by simpa using h
      rw [num, putL, putL_add _ _ _ _ (Nat.le_refl _), ih r hr, List.cons_append, List.length_cons, Nat.add_sub_add_right]
      congr 1
      apply UInt8.toNat_inj.1
      rw [byteAt_nat, Nat.add_comm, Nat.add_mul_div_right _ _ (Nat.pow_pos (by decide)), Nat.div_eq_of_lt (num_lt m r), Nat.zero_add]
      exact Nat.mod_eq_of_lt c.toNat_lt
theorem putL_halves (n : Nat) : putL n 8 = putL (n / 4294967296) 4 ++ putL n 4 := by
  simp [putL, byteAt, Nat.div_div_eq_div_mul]
theorem putL_inj (a b : Nat) (ha : a < 256 ^ 8) (hb : b < 256 ^ 8) (h : putL a 8 = putL b 8) : a = b := by
  have h1 := num_putL 8 a
  rw [h, num_putL, Nat.mod_eq_of_lt ha, Nat.mod_eq_of_lt hb] at h1
  exact h1.symm

/- How numbers and texts stand. -/
theorem cons_num {c d : UInt8} (m : Nat) (r s : List UInt8) : c.toNat < d.toNat → num (m + 1) (c :: r) < num (m + 1) (d :: s) := by
  intro h
  have h1 := num_lt m r
  have h2 : (c.toNat + 1) * 256 ^ m ≤ d.toNat * 256 ^ m := Nat.mul_le_mul_right _ h
  rw [Nat.succ_mul] at h2
  rw [num, num]
  omega
theorem cons_num_same {c d : UInt8} (m : Nat) (r s : List UInt8) (h : c.toNat = d.toNat) : (num (m + 1) (c :: r) < num (m + 1) (d :: s) ↔ num m r < num m s) := by
  rw [num, num, h]; omega
theorem num_pos {c : UInt8} (m : Nat) (r : List UInt8) (h : c ≠ 0) : 0 < num (m + 1) (c :: r) := by
  have h0 : 0 < c.toNat := by
    rcases Nat.eq_zero_or_pos c.toNat with e | e
    · exact absurd (UInt8.toNat_inj.1 (by simpa using e)) h
    · exact e
  have : 0 < c.toNat * 256 ^ m := Nat.mul_pos h0 (Nat.pow_pos (by decide))
  rw [num]; omega
theorem cmpL_num (m : Nat) (a b : List UInt8) (ha : a.length ≤ m) (hb : b.length ≤ m) (pa : ∀ c ∈ a, c ≠ 0) (pb : ∀ c ∈ b, c ≠ 0) :
    cmpL a b = if num m a < num m b then -1 else if num m b < num m a then 1 else 0 := by
  induction m generalizing a b with
  | zero =>
    rw [List.eq_nil_of_length_eq_zero (l := a) (by omega), List.eq_nil_of_length_eq_zero (l := b) (by omega)]; rfl
  | succ m ih =>
    cases a with
    | nil =>
      cases b with
      | nil => simp [cmpL]
      | cons d s => rw [num_nil, if_pos (num_pos m s (pb d (by simp)))]; rfl
    | cons c r =>
      cases b with
      | nil => rw [num_nil, if_neg (by omega), if_pos (num_pos m r (pa c (by simp)))]; rfl
      | cons d s =>
        rw [cmpL]
        by_cases h1 : c.toNat < d.toNat
        · rw [if_pos h1, if_pos (cons_num m r s h1)]
        · rw [if_neg h1]
          by_cases h2 : d.toNat < c.toNat
          · have := cons_num m s r h2
            rw [if_pos h2, if_neg (by omega), if_pos this]
          · rw [if_neg h2]
            have e1 := cons_num_same m r s (c := c) (d := d) (by omega)
            have e2 := cons_num_same m s r (c := d) (d := c) (by omega)
            rw [ih r s (by simpa using ha) (by simpa using hb) (fun x hx => pa x (by simp [hx])) (fun x hx => pb x (by simp [hx]))]
            simp only [e1, e2]
theorem less_num (m : Nat) (a b : List UInt8) (ha : a.length = m) (hb : b.length = m) : Op.bytesLess a b = decide (num m a < num m b) := by
  induction m generalizing a b with
  | zero =>
    rw [List.eq_nil_of_length_eq_zero ha, List.eq_nil_of_length_eq_zero hb]; rfl
  | succ m ih =>
    cases a with
    | nil => simp at ha
    | cons c r =>
      cases b with
      | nil => simp at hb
      | cons d s =>
        rw [Op.bytesLess, ih r s (by simpa using ha) (by simpa using hb)]
        by_cases h1 : c.toNat < d.toNat
        · rw [decide_eq_true (cons_num m r s h1), show decide (c < d) = true from decide_eq_true (UInt8.lt_iff_toNat_lt.2 h1)]; rfl
        · rw [show decide (c < d) = false from decide_eq_false (fun h => h1 (UInt8.lt_iff_toNat_lt.1 h))]
          by_cases h2 : d.toNat < c.toNat
          · have h3 : (c == d) = false := by
              rw [beq_eq_false_iff_ne]; rintro rfl; omega
            have := cons_num m s r h2
            rw [h3, decide_eq_false (show ¬ num (m + 1) (c :: r) < num (m + 1) (d :: s) by omega)]; rfl
          · have e : c = d := UInt8.toNat_inj.1 (by omega)
            subst e
            have e1 := cons_num_same m r s (c := c) (d := c) rfl
            simp only [e1, beq_self_eq_true, Bool.false_or, Bool.true_and]

/- A text without the zeros behind it. -/
def trimZ (l : List UInt8) : List UInt8 := (l.reverse.dropWhile (· == 0)).reverse
theorem trimZ_nil : trimZ [] = [] := rfl
theorem trimZ_zero (l : List UInt8) : trimZ (l ++ [0]) = trimZ l := by simp [trimZ]
theorem trimZ_stop (l : List UInt8) (c : UInt8) (h : c ≠ 0) : trimZ (l ++ [c]) = l ++ [c] := by
  have : (c == 0) = false := by rw [beq_eq_false_iff_ne]; exact h
  simp [trimZ, this]
theorem trimZ_zeros (l : List UInt8) (k : Nat) : trimZ (l ++ List.replicate k 0) = trimZ l := by
  induction k with
  | zero => simp
  | succ k ih => rw [List.replicate_succ', ← List.append_assoc, trimZ_zero, ih]
theorem trimZ_all (l : List UInt8) (h : ∀ c ∈ l, c ≠ 0) : trimZ l = l := by
  rcases List.eq_nil_or_concat l with rfl | ⟨r, c, rfl⟩
  · rfl
  · rw [List.concat_eq_append] at *
    exact trimZ_stop r c (h c (by simp))
theorem trimZ_parts (l : List UInt8) : ∃ k, l = trimZ l ++ List.replicate k 0 := by
  generalize hn : l.length = n
  induction n generalizing l with
  | zero => rw [List.eq_nil_of_length_eq_zero hn]; exact ⟨0, rfl⟩
  | succ n ih =>
    rcases List.eq_nil_or_concat l with rfl | ⟨r, c, rfl⟩
    · simp at hn
    · rw [List.concat_eq_append] at *
      by_cases hc : c = 0
      · subst hc
        obtain ⟨k, hk⟩ := ih r (by simpa using hn)
        rw [trimZ_zero]
        exact ⟨k + 1, by rw [List.replicate_succ', ← List.append_assoc, ← hk]⟩
      · exact ⟨0, by rw [trimZ_stop r c hc]; simp⟩
theorem length_trimZ (l : List UInt8) : (trimZ l).length ≤ l.length := by
  obtain ⟨k, hk⟩ := trimZ_parts l
  have := congrArg List.length hk
  rw [List.length_append] at this
  omega

/- Packed texts; what Pack and Unpack tell. -/
def packT (s : ByteArray) : Bool := decide (s.size ≤ 8) && (bs s).all isP
def packN (s : ByteArray) : Nat := if packT (lowS s) then num 8 (bs (lowS s)) else 0
theorem packT_iff (s : ByteArray) : packT s = true ↔ s.size ≤ 8 ∧ ∀ c ∈ bs s, isP c = true := by
  unfold packT; rw [Bool.and_eq_true, decide_eq_true_iff, List.all_eq_true]
theorem packN_lt (s : ByteArray) : packN s < 256 ^ 8 := by
  unfold packN; split
  · exact num_lt 8 _
  · decide
theorem low_packed {s : ByteArray} (h : packT s = true) : lowS s = s := by
  rw [packT_iff] at h
  unfold lowS
  rw [List.map_congr_left (g := id) fun c hc => isP_low c (h.2 c hc), List.map_id]
  exact ofL_bs s
def unS (n : Nat) : ByteArray := ofL (trimZ (putL n 8))
def unT (n : Nat) : ByteArray := if packT (unS n) then unS n else ofL []
theorem size_unS (n : Nat) : (unS n).size ≤ 8 := by
  unfold unS; rw [size_ofL]
  have := length_trimZ (putL n 8)
  rw [length_putL] at this
  exact this
theorem num_unS (n : Nat) (h : n < 256 ^ 8) : num 8 (bs (unS n)) = n := by
  unfold unS
  rw [bs_ofL]
  obtain ⟨k, hk⟩ := trimZ_parts (putL n 8)
  have h1 := num_append_zeros 8 k (trimZ (putL n 8))
  rw [← hk, num_putL, Nat.mod_eq_of_lt h] at h1
  exact h1.symm
theorem unS_num {s : ByteArray} (h : packT s = true) : unS (num 8 (bs s)) = s := by
  have h' := (packT_iff s).1 h
  unfold unS
  rw [putL_num 8 (bs s) h'.1, trimZ_zeros, trimZ_all _ fun c hc => isP_nz c (h'.2 c hc)]
  exact ofL_bs s
end Go.Proofs.YtlpjdknmnomdlaaGreatDoor
