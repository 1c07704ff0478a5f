/-
  Package ascii, in plain words: bytes of four kinds, their cases; texts as lists of bytes: their cases, what they have, how they stand. No dump.
-/
import Derived.WalkKit
namespace Go.Proofs.YtlpjdknmnomdlaaGreatDoor

def isU (c : UInt8) : Bool := decide (65 ≤ c.toNat ∧ c.toNat ≤ 90)
def isL (c : UInt8) : Bool := decide (97 ≤ c.toNat ∧ c.toNat ≤ 122)
def isD (c : UInt8) : Bool := decide (48 ≤ c.toNat ∧ c.toNat ≤ 57)
def isA (c : UInt8) : Bool := isU c || isL c
def isN (c : UInt8) : Bool := isA c || isD c
def lowB (c : UInt8) : UInt8 := if isU c then c + 32 else c
def upB (c : UInt8) : UInt8 := if isL c then c - 32 else c

theorem byte_all (P : UInt8 → Prop) (h : ∀ n : Fin 256, P (UInt8.ofNat n.val)) (c : UInt8) : P c := by
  have := h ⟨c.toNat, c.toNat_lt⟩
  simpa using this

theorem isU_iff (c : UInt8) : isU c = true ↔ 65 ≤ c.toNat ∧ c.toNat ≤ 90 := by unfold isU; exact decide_eq_true_iff
theorem isL_iff (c : UInt8) : isL c = true ↔ 97 ≤ c.toNat ∧ c.toNat ≤ 122 := by unfold isL; exact decide_eq_true_iff
theorem isD_iff (c : UInt8) : isD c = true ↔ 48 ≤ c.toNat ∧ c.toNat ≤ 57 := by unfold isD; exact decide_eq_true_iff

theorem low_low : ∀ c, lowB (lowB c) = lowB c := byte_all _ (by decide +kernel)
theorem low_up : ∀ c, lowB (upB c) = lowB c := byte_all _ (by decide +kernel)
theorem up_low : ∀ c, upB (lowB c) = upB c := byte_all _ (by decide +kernel)
theorem up_up : ∀ c, upB (upB c) = upB c := byte_all _ (by decide +kernel)
theorem isA_low : ∀ c, isA (lowB c) = isA c := byte_all _ (by decide +kernel)
theorem isA_up : ∀ c, isA (upB c) = isA c := byte_all _ (by decide +kernel)
theorem isD_low : ∀ c, isD (lowB c) = isD c := byte_all _ (by decide +kernel)
theorem isD_up : ∀ c, isD (upB c) = isD c := byte_all _ (by decide +kernel)
theorem isA_not_isD : ∀ c, isA c = true → isD c = false := byte_all _ (by decide +kernel)
theorem low_nat_U : ∀ c, isU c = true → (lowB c).toNat = c.toNat + 32 := byte_all _ (by decide +kernel)
theorem low_nat : ∀ c, isU c = false → lowB c = c := byte_all _ (by decide +kernel)
theorem up_nat_L : ∀ c, isL c = true → (upB c).toNat + 32 = c.toNat := byte_all _ (by decide +kernel)
theorem up_nat : ∀ c, isL c = false → upB c = c := byte_all _ (by decide +kernel)

/-- The four kinds, as walks ask them. -/
inductive Kd (c : UInt8) : Prop
  | up (h1 : 65 ≤ c.toNat) (h2 : c.toNat ≤ 90)
  | low (h1 : 97 ≤ c.toNat) (h2 : c.toNat ≤ 122)
  | dig (h1 : 48 ≤ c.toNat) (h2 : c.toNat ≤ 57)
  | non (h1 : c.toNat < 65 ∨ 90 < c.toNat) (h2 : c.toNat < 97 ∨ 122 < c.toNat) (h3 : c.toNat < 48 ∨ 57 < c.toNat)
theorem kd (c : UInt8) : Kd c := by
  by_cases h1 : 65 ≤ c.toNat ∧ c.toNat ≤ 90
  · exact .up h1.1 h1.2
  · by_cases h2 : 97 ≤ c.toNat ∧ c.toNat ≤ 122
    · exact .low h2.1 h2.2
    · by_cases h3 : 48 ≤ c.toNat ∧ c.toNat ≤ 57
      · exact .dig h3.1 h3.2
      · exact .non (by omega) (by omega) (by omega)

/- Texts. -/
abbrev bs (s : ByteArray) : List UInt8 := s.data.toList
def ofL (l : List UInt8) : ByteArray := ⟨l.toArray⟩
theorem bs_ofL (l : List UInt8) : bs (ofL l) = l := by simp [bs, ofL]
theorem ofL_bs (s : ByteArray) : ofL (bs s) = s := by simp [bs, ofL]
theorem size_bs (s : ByteArray) : (bs s).length = s.size := rfl
theorem size_ofL (l : List UInt8) : (ofL l).size = l.length := by show l.toArray.size = l.length; simp
theorem ofL_ext {a b : ByteArray} (h : bs a = bs b) : a = b := by rw [← ofL_bs a, h, ofL_bs]

def titleL : List UInt8 → List UInt8
  | [] => []
  | c :: r => upB c :: r.map lowB
def lowS (s : ByteArray) : ByteArray := ofL ((bs s).map lowB)
def upS (s : ByteArray) : ByteArray := ofL ((bs s).map upB)
def titleS (s : ByteArray) : ByteArray := ofL (titleL (bs s))
def has (p : UInt8 → Bool) (s : ByteArray) : Bool := !(bs s).isEmpty && (bs s).all p
def alphaS (s : ByteArray) : Bool := has isA s
def digitS (s : ByteArray) : Bool := has isD s
def alnumS (s : ByteArray) : Bool := has isN s
def classS (s : ByteArray) : Int := if alphaS s then 1 else if digitS s then 2 else if alnumS s then 3 else 0
def cmpL : List UInt8 → List UInt8 → Int
  | [], [] => 0
  | [], _ :: _ => -1
  | _ :: _, [] => 1
  | x :: a, y :: b => if x.toNat < y.toNat then -1 else if y.toNat < x.toNat then 1 else cmpL a b
def cmpS (a b : ByteArray) : Int := cmpL ((bs a).map lowB) ((bs b).map lowB)
def sameS (a b : ByteArray) : Bool := decide (cmpS a b = 0)

theorem size_lowS (s : ByteArray) : (lowS s).size = s.size := by simp [lowS, size_ofL]
theorem size_upS (s : ByteArray) : (upS s).size = s.size := by simp [upS, size_ofL]
theorem length_titleL (l : List UInt8) : (titleL l).length = l.length := by cases l <;> simp [titleL]
theorem size_titleS (s : ByteArray) : (titleS s).size = s.size := by simp [titleS, size_ofL, length_titleL]
theorem low_lowS (s : ByteArray) : lowS (lowS s) = lowS s := by simp [lowS, bs_ofL, Function.comp_def, low_low]
theorem low_upS (s : ByteArray) : lowS (upS s) = lowS s := by simp [lowS, upS, bs_ofL, Function.comp_def, low_up]
theorem up_lowS (s : ByteArray) : upS (lowS s) = upS s := by simp [lowS, upS, bs_ofL, Function.comp_def, up_low]
theorem titleL_titleL (l : List UInt8) : titleL (titleL l) = titleL l := by cases l <;> simp [titleL, up_up, Function.comp_def, low_low]
theorem title_titleS (s : ByteArray) : titleS (titleS s) = titleS s := by simp [titleS, bs_ofL, titleL_titleL]
theorem low_titleL (l : List UInt8) : (titleL l).map lowB = l.map lowB := by cases l <;> simp [titleL, low_up, Function.comp_def, low_low]
theorem low_titleS (s : ByteArray) : lowS (titleS s) = lowS s := by simp only [lowS, titleS, bs_ofL, low_titleL]

theorem has_map (p : UInt8 → Bool) (f : UInt8 → UInt8) (h : ∀ c, p (f c) = p c) (s : ByteArray) : has p (ofL ((bs s).map f)) = has p s := by
  simp [has, bs_ofL, List.all_map, Function.comp_def, h]
theorem isN_low (c : UInt8) : isN (lowB c) = isN c := by simp [isN, isA_low, isD_low]
theorem isN_up (c : UInt8) : isN (upB c) = isN c := by simp [isN, isA_up, isD_up]
theorem class_low (s : ByteArray) : classS (lowS s) = classS s := by
  unfold classS alphaS digitS alnumS lowS
  rw [has_map _ _ isA_low, has_map _ _ isD_low, has_map _ _ isN_low]
theorem class_up (s : ByteArray) : classS (upS s) = classS s := by
  unfold classS alphaS digitS alnumS upS
  rw [has_map _ _ isA_up, has_map _ _ isD_up, has_map _ _ isN_up]

theorem cmpL_self (l : List UInt8) : cmpL l l = 0 := by induction l <;> simp_all [cmpL]
theorem cmpL_range (a b : List UInt8) : cmpL a b = -1 ∨ cmpL a b = 0 ∨ cmpL a b = 1 := by
  induction a generalizing b with
  | nil => cases b <;> simp [cmpL]
  | cons x a ih =>
    cases b with
    | nil => simp [cmpL]
    | cons y b => simp only [cmpL]; split; · simp
                  split; · simp
                  exact ih b
theorem cmpL_swap (a b : List UInt8) : cmpL b a = - cmpL a b := by
  induction a generalizing b with
  | nil => cases b <;> simp [cmpL]
  | cons x a ih =>
    cases b with
    | nil => simp [cmpL]
    | cons y b =>
      simp only [cmpL]
      by_cases h1 : x.toNat < y.toNat
      · rw [if_neg (by omega), if_pos h1, if_pos h1]; rfl
      · by_cases h2 : y.toNat < x.toNat
        · rw [if_pos h2, if_neg h1, if_pos h2]
        · rw [if_neg h2, if_neg h1, if_neg h1, if_neg h2]; exact ih b
theorem cmpL_zero {a b : List UInt8} (h : cmpL a b = 0) : a = b := by
  induction a generalizing b with
  | nil => cases b <;> simp_all [cmpL]
  | cons x a ih =>
    cases b with
    | nil => simp [cmpL] at h
    | cons y b =>
      simp only [cmpL] at h
      by_cases h1 : x.toNat < y.toNat
      · rw [if_pos h1] at h; simp at h
      · by_cases h2 : y.toNat < x.toNat
        · rw [if_neg h1, if_pos h2] at h; simp at h
        · rw [if_neg h1, if_neg h2] at h
          rw [ih h, UInt8.toNat_inj.1 (by omega : x.toNat = y.toNat)]
theorem cmpL_trans (a b c : List UInt8) : (cmpL a b ≤ 0 → cmpL b c ≤ 0 → cmpL a c ≤ 0) := by
  induction a generalizing b c with
  | nil => cases b <;> cases c <;> simp [cmpL]
  | cons x a ih =>
    cases b with
    | nil => simp [cmpL]
    | cons y b =>
      cases c with
      | nil => simp [cmpL]
      | cons z c =>
        simp only [cmpL]
        intro h1 h2
        by_cases h3 : x.toNat < y.toNat
        · by_cases h4 : y.toNat < z.toNat
          · rw [if_pos (by omega)]; omega
          · rw [if_neg h4] at h2
            by_cases h5 : z.toNat < y.toNat
            · rw [if_pos h5] at h2; omega
            · rw [if_pos (by omega)]; omega
        · rw [if_neg h3] at h1
          by_cases h6 : y.toNat < x.toNat
          · rw [if_pos h6] at h1; omega
          · rw [if_neg h6] at h1
            by_cases h4 : y.toNat < z.toNat
            · rw [if_pos (by omega)]; omega
            · rw [if_neg h4] at h2
              by_cases h5 : z.toNat < y.toNat
              · rw [if_pos h5] at h2; omega
              · rw [if_neg h5] at h2
                rw [if_neg (by omega), if_neg (by omega)]
                exact ih b c h1 h2
theorem cmpL_append (a b : List UInt8) (h : b ≠ []) : cmpL a (a ++ b) = -1 := by
  induction a with
  | nil => cases b <;> simp_all [cmpL]
  | cons x a ih => simp [cmpL, ih]
theorem cmpS_swap (a b : ByteArray) : cmpS b a = - cmpS a b := cmpL_swap _ _
theorem cmpS_range (a b : ByteArray) : cmpS a b = -1 ∨ cmpS a b = 0 ∨ cmpS a b = 1 := cmpL_range _ _
theorem cmpS_up_low (a b : ByteArray) : cmpS (upS a) (lowS b) = cmpS a b := by
  simp [cmpS, upS, lowS, bs_ofL, Function.comp_def, low_up, low_low]
theorem cmpS_title (a : ByteArray) : cmpS a (titleS a) = 0 := by
  simp [cmpS, titleS, bs_ofL, low_titleL, cmpL_self]
theorem cmpS_of_zero {a b : ByteArray} (h : cmpS a b = 0) (c : ByteArray) : cmpS b c = cmpS a c := by
  unfold cmpS at *; rw [cmpL_zero h]
end Go.Proofs.YtlpjdknmnomdlaaGreatDoor
