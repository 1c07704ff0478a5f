/-
  Package ascii, in plain words: bytes of four kinds, their cases; texts as lists of bytes: their cases, what they have, how they stand. No dump. Package pack, in plain words: bytes of packed texts, the number of a text, the bytes of a number, a text without the zeros behind it. No dump. Package split, in plain words: a text's pieces, as lists of bytes; where they begin; joined; trimmed; the first that is no subtag. No dump. Layer 5's texts: the grandfathered tags in their order; where a text stands among them. No dump.
-/
import Derived.WalkKit
import Derived.Lib.Join
import Derived.Lib.IndexLaws
/-! Package ascii, in plain words: bytes of four kinds, their cases; texts as lists of bytes: their cases, what they have, how they stand. No dump. -/
namespace Go.Proofs.YtpnhjpplfjamkaaGreatDoor

def isU (c : UInt8) : Bool := decide (65 ≤ c.toNat ∧ c.toNat ≤ 90)
def isL (c : UInt8) : Bool := decide (97 ≤ c.toNat ∧ c.toNat ≤ 122)
def isD (c : UInt8) : Bool := decide (48 ≤ c.toNat ∧ c.toNat ≤ 57)
def isA (c : UInt8) : Bool := isU c || isL c
def isN (c : UInt8) : Bool := isA c || isD c
def lowB (c : UInt8) : UInt8 := if isU c then c + 32 else c
def upB (c : UInt8) : UInt8 := if isL c then c - 32 else c

theorem byte_all (P : UInt8 → Prop) (h : ∀ n : Fin 256, P (UInt8.ofNat n.val)) (c : UInt8) : P c := by
  have := h ⟨c.toNat, c.toNat_lt⟩
  simpa using this

theorem isU_iff (c : UInt8) : isU c = true ↔ 65 ≤ c.toNat ∧ c.toNat ≤ 90 := by unfold isU; exact decide_eq_true_iff
theorem isL_iff (c : UInt8) : isL c = true ↔ 97 ≤ c.toNat ∧ c.toNat ≤ 122 := by unfold isL; exact decide_eq_true_iff
theorem isD_iff (c : UInt8) : isD c = true ↔ 48 ≤ c.toNat ∧ c.toNat ≤ 57 := by unfold isD; exact decide_eq_true_iff

theorem low_low : ∀ c, lowB (lowB c) = lowB c := byte_all _ (by decide +kernel)
theorem low_up : ∀ c, lowB (upB c) = lowB c := byte_all _ (by decide +kernel)
theorem isA_low : ∀ c, isA (lowB c) = isA c := byte_all _ (by decide +kernel)
theorem isD_low : ∀ c, isD (lowB c) = isD c := byte_all _ (by decide +kernel)
theorem isA_not_isD : ∀ c, isA c = true → isD c = false := byte_all _ (by decide +kernel)
theorem low_nat_U : ∀ c, isU c = true → (lowB c).toNat = c.toNat + 32 := byte_all _ (by decide +kernel)
theorem low_nat : ∀ c, isU c = false → lowB c = c := byte_all _ (by decide +kernel)
theorem up_nat_L : ∀ c, isL c = true → (upB c).toNat + 32 = c.toNat := byte_all _ (by decide +kernel)
theorem up_nat : ∀ c, isL c = false → upB c = c := byte_all _ (by decide +kernel)

/-- The four kinds, as walks ask them. -/
inductive Kd (c : UInt8) : Prop
  | up (h1 : 65 ≤ c.toNat) (h2 : c.toNat ≤ 90)
  | low (h1 : 97 ≤ c.toNat) (h2 : c.toNat ≤ 122)
  | dig (h1 : 48 ≤ c.toNat) (h2 : c.toNat ≤ 57)
  | non (h1 : c.toNat < 65 ∨ 90 < c.toNat) (h2 : c.toNat < 97 ∨ 122 < c.toNat) (h3 : c.toNat < 48 ∨ 57 < c.toNat)
theorem kd (c : UInt8) : Kd c := by
  by_cases h1 : 65 ≤ c.toNat ∧ c.toNat ≤ 90
  · exact .up h1.1 h1.2
  · by_cases h2 : 97 ≤ c.toNat ∧ c.toNat ≤ 122
    · exact .low h2.1 h2.2
    · by_cases h3 : 48 ≤ c.toNat ∧ c.toNat ≤ 57
      · exact .dig h3.1 h3.2
      · exact .non (by omega) (by omega) (by omega)

/- Texts. -/
abbrev bs (s : ByteArray) : List UInt8 := s.data.toList
def ofL (l : List UInt8) : ByteArray := ⟨l.toArray⟩
theorem bs_ofL (l : List UInt8) : bs (ofL l) = l := by simp [bs, ofL]
theorem ofL_bs (s : ByteArray) : ofL (bs s) = s := by simp [bs, ofL]
theorem size_bs (s : ByteArray) : (bs s).length = s.size := rfl
theorem size_ofL (l : List UInt8) : (ofL l).size = l.length := by show l.toArray.size = l.length; simp
theorem ofL_ext {a b : ByteArray} (h : bs a = bs b) : a = b := by rw [← ofL_bs a, h, ofL_bs]

def titleL : List UInt8 → List UInt8
  | [] => []
  | c :: r => upB c :: r.map lowB
def lowS (s : ByteArray) : ByteArray := ofL ((bs s).map lowB)
def upS (s : ByteArray) : ByteArray := ofL ((bs s).map upB)
def titleS (s : ByteArray) : ByteArray := ofL (titleL (bs s))
def has (p : UInt8 → Bool) (s : ByteArray) : Bool := !(bs s).isEmpty && (bs s).all p
def alphaS (s : ByteArray) : Bool := has isA s
def digitS (s : ByteArray) : Bool := has isD s
def alnumS (s : ByteArray) : Bool := has isN s
def classS (s : ByteArray) : Int := if alphaS s then 1 else if digitS s then 2 else if alnumS s then 3 else 0
def cmpL : List UInt8 → List UInt8 → Int
  | [], [] => 0
  | [], _ :: _ => -1
  | _ :: _, [] => 1
  | x :: a, y :: b => if x.toNat < y.toNat then -1 else if y.toNat < x.toNat then 1 else cmpL a b
def cmpS (a b : ByteArray) : Int := cmpL ((bs a).map lowB) ((bs b).map lowB)
def sameS (a b : ByteArray) : Bool := decide (cmpS a b = 0)

theorem size_lowS (s : ByteArray) : (lowS s).size = s.size := by simp [lowS, size_ofL]
theorem size_upS (s : ByteArray) : (upS s).size = s.size := by simp [upS, size_ofL]
theorem length_titleL (l : List UInt8) : (titleL l).length = l.length := by cases l <;> simp [titleL]
theorem size_titleS (s : ByteArray) : (titleS s).size = s.size := by simp [titleS, size_ofL, length_titleL]
theorem low_lowS (s : ByteArray) : lowS (lowS s) = lowS s := by simp [lowS, bs_ofL, Function.comp_def, low_low]
theorem low_upS (s : ByteArray) : lowS (upS s) = lowS s := by simp [lowS, upS, bs_ofL, Function.comp_def, low_up]
theorem has_map (p : UInt8 → Bool) (f : UInt8 → UInt8) (h : ∀ c, p (f c) = p c) (s : ByteArray) : has p (ofL ((bs s).map f)) = has p s := by
  simp [has, bs_ofL, List.all_map, Function.comp_def, h]
theorem isN_low (c : UInt8) : isN (lowB c) = isN c := by simp [isN, isA_low, isD_low]
theorem cmpL_self (l : List UInt8) : cmpL l l = 0 := by induction l <;> simp_all [cmpL]
theorem cmpL_swap (a b : List UInt8) : cmpL b a = - cmpL a b := by
  induction a generalizing b with
  | nil => cases b <;> simp [cmpL]
  | cons x a ih =>
    cases b with
    | nil => simp [cmpL]
    | cons y b =>
      simp only [cmpL]
      by_cases h1 : x.toNat < y.toNat
      · rw [if_neg (by omega), if_pos h1, if_pos h1]; rfl
      · by_cases h2 : y.toNat < x.toNat
        · rw [if_pos h2, if_neg h1, if_pos h2]
        · rw [if_neg h2, if_neg h1, if_neg h1, if_neg h2]; exact ih b
theorem cmpL_zero {a b : List UInt8} (h : cmpL a b = 0) : a = b := by
  induction a generalizing b with
  | nil => cases b <;> simp_all [cmpL]
  | cons x a ih =>
    cases b with
    | nil => simp [cmpL] at h
    | cons y b =>
      simp only [cmpL] at h
      by_cases h1 : x.toNat < y.toNat
      · rw [if_pos h1] at h; simp at h
      · by_cases h2 : y.toNat < x.toNat
        · rw [if_neg h1, if_pos h2] at h; simp at h
        · rw [if_neg h1, if_neg h2] at h
          rw [ih h, UInt8.toNat_inj.1 (by omega : x.toNat = y.toNat)]
theorem cmpL_trans (a b c : List UInt8) : (cmpL a b ≤ 0 → cmpL b c ≤ 0 → cmpL a c ≤ 0) := by
  induction a generalizing b c with
  | nil => cases b <;> cases c <;> simp [cmpL]
  | cons x a ih =>
    cases b with
    | nil => simp [cmpL]
    | cons y b =>
      cases c with
      | nil => simp [cmpL]
      | cons z c =>
        simp only [cmpL]
        intro h1 h2
        by_cases h3 : x.toNat < y.toNat
        · by_cases h4 : y.toNat < z.toNat
          · rw [if_pos (by omega)]; omega
          · rw [if_neg h4] at h2
            by_cases h5 : z.toNat < y.toNat
            · rw [if_pos h5] at h2; omega
            · rw [if_pos (by omega)]; omega
        · rw [if_neg h3] at h1
          by_cases h6 : y.toNat < x.toNat
          · rw [if_pos h6] at h1; omega
          · rw [if_neg h6] at h1
            by_cases h4 : y.toNat < z.toNat
            · rw [if_pos (by omega)]; omega
            · rw [if_neg h4] at h2
              by_cases h5 : z.toNat < y.toNat
              · rw [if_pos h5] at h2; omega
              · rw [if_neg h5] at h2
                rw [if_neg (by omega), if_neg (by omega)]
                exact ih b c h1 h2
theorem cmpS_swap (a b : ByteArray) : cmpS b a = - cmpS a b := cmpL_swap _ _
end Go.Proofs.YtpnhjpplfjamkaaGreatDoor

/-! Package pack, in plain words: bytes of packed texts, the number of a text, the bytes of a number, a text without the zeros behind it. No dump. -/
namespace Go.Proofs.YtpnhjpplfjamkaaGreatDoor

/-- The number of the first m bytes of a list, the greatest first, zeros behind it. -/
def num : Nat → List UInt8 → Nat
  | 0, _ => 0
  | _ + 1, [] => 0
  | m + 1, c :: r => c.toNat * 256 ^ m + num m r
/- How numbers and texts stand. -/
/- A text without the zeros behind it. -/
/- Packed texts; what Pack and Unpack tell. -/
end Go.Proofs.YtpnhjpplfjamkaaGreatDoor

/-! Package split, in plain words: a text's pieces, as lists of bytes; where they begin; joined; trimmed; the first that is no subtag. No dump. -/
namespace Go.Proofs.YtpnhjpplfjamkaaGreatDoor

/-- A text's pieces. -/
def spl : List UInt8 → List (List UInt8)
  | [] => [[]]
  | c :: r => if c = 45 then [] :: spl r else (c :: (spl r).headD []) :: (spl r).tail
theorem spl_cons (l : List UInt8) : ∃ h t, spl l = h :: t := by
  cases l with
  | nil => exact ⟨[], [], rfl⟩
  | cons c r => unfold spl; split <;> exact ⟨_, _, rfl⟩
theorem spl_ne (l : List UInt8) : spl l ≠ [] := by
  obtain ⟨h, t, e⟩ := spl_cons l
  rw [e]; exact List.cons_ne_nil _ _
theorem spl_pos (l : List UInt8) : 0 < (spl l).length := List.length_pos_iff.2 (spl_ne l)
theorem spl_plain {l : List UInt8} (h : (45 : UInt8) ∉ l) : spl l = [l] := by
  induction l with
  | nil => rfl
  | cons c r ih =>
    rw [List.mem_cons, not_or] at h
    unfold spl
    rw [if_neg (fun e => h.1 e.symm), ih h.2]; rfl
theorem spl_app (a b : List UInt8) : spl (a ++ 45 :: b) = spl a ++ spl b := by
  induction a with
  | nil => simp [spl]
  | cons c r ih =>
    obtain ⟨h, t, e⟩ := spl_cons r
    simp only [List.cons_append, spl, ih, e]
    split <;> simp
/-- Pieces joined. -/
def joinP (ps : List (List UInt8)) : List UInt8 := Lib.join ps [45]
theorem joinP_nil : joinP [] = [] := rfl
theorem joinP_one (p : List UInt8) : joinP [p] = p := Lib.join_one _ _
theorem joinP_cons (p : List UInt8) {ps : List (List UInt8)} (h : ps ≠ []) : joinP (p :: ps) = p ++ 45 :: joinP ps := by
  cases ps with
  | nil => exact absurd rfl h
  | cons q r => unfold joinP; rw [Lib.join_cons, Lib.join_cons]; simp [Lib.joinTail]
theorem joinP_snoc {ps : List (List UInt8)} (h : ps ≠ []) (p : List UInt8) : joinP (ps ++ [p]) = joinP ps ++ 45 :: p := by
  induction ps with
  | nil => exact absurd rfl h
  | cons q r ih =>
    cases r with
    | nil => rw [List.cons_append, List.nil_append, joinP_cons _ (by simp), joinP_one, joinP_one]
    | cons x y => rw [List.cons_append, joinP_cons q (List.append_ne_nil_of_left_ne_nil (List.cons_ne_nil x y) [p]), ih (by simp), joinP_cons q (List.cons_ne_nil x y)]; simp
theorem joinP_spl (l : List UInt8) : joinP (spl l) = l := by
  induction l with
  | nil => rfl
  | cons c r ih =>
    obtain ⟨h, t, e⟩ := spl_cons r
    unfold spl
    rw [e] at ih ⊢
    split
    · rename_i hc
      rw [joinP_cons _ (by simp), ih, hc]; rfl
    · unfold joinP at *
      rw [Lib.join_cons] at ih ⊢
      simp only [List.headD_cons, List.tail_cons, List.cons_append, ih]
theorem spl_joinP {ps : List (List UInt8)} (h0 : ps ≠ []) (h : ∀ p ∈ ps, (45 : UInt8) ∉ p) : spl (joinP ps) = ps := by
  induction ps with
  | nil => exact absurd rfl h0
  | cons p r ih =>
    cases r with
    | nil => rw [joinP_one]; exact spl_plain (h p (by simp))
    | cons q t =>
      rw [joinP_cons _ (by simp), spl_app, ih (by simp) (fun x hx => h x (List.mem_cons_of_mem _ hx)), spl_plain (h p (by simp))]; rfl
theorem spl_mem (l : List UInt8) : ∀ p ∈ spl l, (45 : UInt8) ∉ p := by
  induction l with
  | nil => intro p hp; simp [spl] at hp; simp [hp]
  | cons c r ih =>
    obtain ⟨h, t, e⟩ := spl_cons r
    intro p hp
    unfold spl at hp
    rw [e] at hp ih
    split at hp
    · rcases List.mem_cons.1 hp with rfl | hp
      · simp
      · exact ih p hp
    · rename_i hc
      simp only [List.headD_cons, List.tail_cons] at hp
      rcases List.mem_cons.1 hp with rfl | hp
      · rw [List.mem_cons, not_or]; exact ⟨fun e => hc e.symm, ih h (by simp)⟩
      · exact ih p (List.mem_cons_of_mem _ hp)
theorem spl_len (l : List UInt8) : (spl l).length ≤ l.length + 1 := by
  induction l with
  | nil => simp [spl]
  | cons c r ih =>
    obtain ⟨h, t, e⟩ := spl_cons r
    unfold spl
    rw [e] at ih ⊢
    split <;> simp at ih ⊢ <;> omega
theorem spl_mem_len (l : List UInt8) : ∀ p ∈ spl l, p.length ≤ l.length := by
  induction l with
  | nil => intro p hp; simp [spl] at hp; simp [hp]
  | cons c r ih =>
    obtain ⟨h, t, e⟩ := spl_cons r
    intro p hp
    unfold spl at hp
    rw [e] at hp ih
    split at hp
    · rcases List.mem_cons.1 hp with rfl | hp
      · simp
      · have := ih p hp; simp; omega
    · simp only [List.headD_cons, List.tail_cons] at hp
      rcases List.mem_cons.1 hp with rfl | hp
      · have := ih h (by simp); simp; omega
      · have := ih p (List.mem_cons_of_mem _ hp); simp; omega

/-- The first mark of a text, and what stands ahead of it and behind it. -/
theorem idx_cases (l : List UInt8) : (Lib.indexByte l 45 = -1 ∧ (45 : UInt8) ∉ l) ∨ ∃ p r, Lib.indexByte l 45 = (p.length : Int) ∧ l = p ++ 45 :: r ∧ (45 : UInt8) ∉ p := by
  by_cases h : Lib.indexByte l 45 = -1
  · refine .inl ⟨h, fun hm => ?_⟩
    obtain ⟨k, hk⟩ := List.mem_iff_getElem?.1 hm
    exact Lib.indexByte_none h k hk
  · have hge := Lib.indexByte_ge l 45
    obtain ⟨o, ho⟩ := Int.eq_ofNat_of_zero_le (show 0 ≤ Lib.indexByte l 45 by omega)
    obtain ⟨h1, h2⟩ := Lib.indexByte_some ho
    obtain ⟨hol, hoe⟩ := List.getElem?_eq_some_iff.1 h1
    refine .inr ⟨l.take o, l.drop (o + 1), ?_, ?_, fun hm => ?_⟩
    · rw [ho, List.length_take, Nat.min_eq_left (by omega)]
    · rw [← hoe, ← List.drop_eq_getElem_cons hol, List.take_append_drop]
    · obtain ⟨k, hk⟩ := List.mem_iff_getElem?.1 hm
      rw [List.getElem?_take] at hk
      split at hk
      · exact h2 k (by assumption) hk
      · cases hk

/- Trimmed. -/
/- Pieces, and where they begin. -/
def placed : Nat → List (List UInt8) → List (Nat × ByteArray)
  | _, [] => []
  | n, p :: r => (n, ofL p) :: placed (n + p.length + 1) r
def pieces (s : ByteArray) : List (Nat × ByteArray) := placed 0 (spl (bs s))
theorem placed_map (n : Nat) (ps : List (List UInt8)) : (placed n ps).map (·.2) = ps.map ofL := by
  induction ps generalizing n with
  | nil => rfl
  | cons p r ih => simp [placed, ih]
def splS (s : ByteArray) : List ByteArray := (spl (bs s)).map ofL
theorem pieces_map (s : ByteArray) : (pieces s).map (·.2) = splS s := placed_map _ _
theorem pieces_length (s : ByteArray) : (pieces s).length = (splS s).length := by rw [← pieces_map, List.length_map]
theorem splS_length (s : ByteArray) : (splS s).length = (spl (bs s)).length := List.length_map ..
theorem splS_pos (s : ByteArray) : 0 < (splS s).length := by rw [splS_length]; exact spl_pos _
theorem splS_le (s : ByteArray) : (splS s).length ≤ s.size + 1 := by rw [splS_length, ← size_bs]; exact spl_len _
theorem splS_size (s : ByteArray) : ∀ p ∈ splS s, p.size ≤ s.size := by
  intro p hp
  obtain ⟨q, hq, rfl⟩ := List.mem_map.1 hp
  rw [size_ofL, ← size_bs]; exact spl_mem_len _ _ hq

/- The first piece that is no subtag. -/
def okS (s : ByteArray) : Bool := decide (s.size ≤ 8) && alnumS s
def badOf : List (Nat × ByteArray) → Option Nat
  | [] => none
  | x :: r => if okS x.2 then badOf r else some x.1
def chkS (s : ByteArray) : Option Nat := badOf (pieces s)
end Go.Proofs.YtpnhjpplfjamkaaGreatDoor

/-! Layer 5's texts: the grandfathered tags in their order; where a text stands among them. No dump. -/
namespace Go.Proofs.YtpnhjpplfjamkaaGreatDoor

/-- The tags, in order, and which are regular. -/
def gL : List (ByteArray × Bool) := [
  (⟨#[97, 114, 116, 45, 108, 111, 106, 98, 97, 110]⟩, true),
  (⟨#[99, 101, 108, 45, 103, 97, 117, 108, 105, 115, 104]⟩, true),
  (⟨#[101, 110, 45, 103, 98, 45, 111, 101, 100]⟩, false),
  (⟨#[105, 45, 97, 109, 105]⟩, false),
  (⟨#[105, 45, 98, 110, 110]⟩, false),
  (⟨#[105, 45, 100, 101, 102, 97, 117, 108, 116]⟩, false),
  (⟨#[105, 45, 101, 110, 111, 99, 104, 105, 97, 110]⟩, false),
  (⟨#[105, 45, 104, 97, 107]⟩, false),
  (⟨#[105, 45, 107, 108, 105, 110, 103, 111, 110]⟩, false),
  (⟨#[105, 45, 108, 117, 120]⟩, false),
  (⟨#[105, 45, 109, 105, 110, 103, 111]⟩, false),
  (⟨#[105, 45, 110, 97, 118, 97, 106, 111]⟩, false),
  (⟨#[105, 45, 112, 119, 110]⟩, false),
  (⟨#[105, 45, 116, 97, 111]⟩, false),
  (⟨#[105, 45, 116, 97, 121]⟩, false),
  (⟨#[105, 45, 116, 115, 117]⟩, false),
  (⟨#[110, 111, 45, 98, 111, 107]⟩, true),
  (⟨#[110, 111, 45, 110, 121, 110]⟩, true),
  (⟨#[115, 103, 110, 45, 98, 101, 45, 102, 114]⟩, false),
  (⟨#[115, 103, 110, 45, 98, 101, 45, 110, 108]⟩, false),
  (⟨#[115, 103, 110, 45, 99, 104, 45, 100, 101]⟩, false),
  (⟨#[122, 104, 45, 103, 117, 111, 121, 117]⟩, true),
  (⟨#[122, 104, 45, 104, 97, 107, 107, 97]⟩, true),
  (⟨#[122, 104, 45, 109, 105, 110]⟩, true),
  (⟨#[122, 104, 45, 109, 105, 110, 45, 110, 97, 110]⟩, true),
  (⟨#[122, 104, 45, 120, 105, 97, 110, 103]⟩, true)]
def nameG (k : Nat) : ByteArray := (gL.getD k (ByteArray.empty, false)).1
def regG (k : Nat) : Bool := (gL.getD k (ByteArray.empty, false)).2
/-- The tags as the document's own list has them: a regular one with its star. -/
def gS : List ByteArray := [
  ⟨#[97, 114, 116, 45, 108, 111, 106, 98, 97, 110, 42]⟩,
  ⟨#[99, 101, 108, 45, 103, 97, 117, 108, 105, 115, 104, 42]⟩,
  ⟨#[101, 110, 45, 103, 98, 45, 111, 101, 100]⟩,
  ⟨#[105, 45, 97, 109, 105]⟩,
  ⟨#[105, 45, 98, 110, 110]⟩,
  ⟨#[105, 45, 100, 101, 102, 97, 117, 108, 116]⟩,
  ⟨#[105, 45, 101, 110, 111, 99, 104, 105, 97, 110]⟩,
  ⟨#[105, 45, 104, 97, 107]⟩,
  ⟨#[105, 45, 107, 108, 105, 110, 103, 111, 110]⟩,
  ⟨#[105, 45, 108, 117, 120]⟩,
  ⟨#[105, 45, 109, 105, 110, 103, 111]⟩,
  ⟨#[105, 45, 110, 97, 118, 97, 106, 111]⟩,
  ⟨#[105, 45, 112, 119, 110]⟩,
  ⟨#[105, 45, 116, 97, 111]⟩,
  ⟨#[105, 45, 116, 97, 121]⟩,
  ⟨#[105, 45, 116, 115, 117]⟩,
  ⟨#[110, 111, 45, 98, 111, 107, 42]⟩,
  ⟨#[110, 111, 45, 110, 121, 110, 42]⟩,
  ⟨#[115, 103, 110, 45, 98, 101, 45, 102, 114]⟩,
  ⟨#[115, 103, 110, 45, 98, 101, 45, 110, 108]⟩,
  ⟨#[115, 103, 110, 45, 99, 104, 45, 100, 101]⟩,
  ⟨#[122, 104, 45, 103, 117, 111, 121, 117, 42]⟩,
  ⟨#[122, 104, 45, 104, 97, 107, 107, 97, 42]⟩,
  ⟨#[122, 104, 45, 109, 105, 110, 42]⟩,
  ⟨#[122, 104, 45, 109, 105, 110, 45, 110, 97, 110, 42]⟩,
  ⟨#[122, 104, 45, 120, 105, 97, 110, 103, 42]⟩]
def starG (k : Nat) : ByteArray := gS.getD k ByteArray.empty

theorem name_all (P : Nat → Prop) (h : ∀ k : Fin 26, P k.val) (k : Nat) (hk : k < 26) : P k := h ⟨k, hk⟩
theorem name_low (k : Nat) (hk : k < 26) : lowS (nameG k) = nameG k := name_all (fun k => lowS (nameG k) = nameG k) (by decide +kernel) k hk
theorem name_size (k : Nat) (hk : k < 26) : 3 ≤ (nameG k).size ∧ (nameG k).size ≤ 11 := name_all (fun k => 3 ≤ (nameG k).size ∧ (nameG k).size ≤ 11) (by decide +kernel) k hk
theorem star_size (k : Nat) (hk : k < 26) : 1 ≤ (starG k).size ∧ (starG k).size ≤ 12 := name_all (fun k => 1 ≤ (starG k).size ∧ (starG k).size ≤ 12) (by decide +kernel) k hk
theorem star_reg (k : Nat) (hk : k < 26) (h : regG k = true) : (starG k).data[(starG k).size - 1]? = some 42 ∧ (starG k).extract 0 ((starG k).size - 1) = nameG k :=
  name_all (fun k => regG k = true → (starG k).data[(starG k).size - 1]? = some 42 ∧ (starG k).extract 0 ((starG k).size - 1) = nameG k) (by decide +kernel) k hk h
theorem star_not (k : Nat) (hk : k < 26) (h : regG k = false) : (starG k).data[(starG k).size - 1]? ≠ some 42 ∧ starG k = nameG k :=
  name_all (fun k => regG k = false → (starG k).data[(starG k).size - 1]? ≠ some 42 ∧ starG k = nameG k) (by decide +kernel) k hk h
theorem name_lt2 : ∀ j k : Fin 26, j.val < k.val → cmpS (nameG j.val) (nameG k.val) = -1 := by decide +kernel
theorem name_lt (j k : Nat) (hk : k < 26) (h : j < k) : cmpS (nameG j) (nameG k) = -1 := name_lt2 ⟨j, by omega⟩ ⟨k, hk⟩ h
theorem low_bs (s : ByteArray) : bs (lowS s) = (bs s).map lowB := by simp [lowS, bs_ofL]
theorem same_low (a b : ByteArray) : sameS a b = true ↔ lowS a = lowS b := by
  unfold sameS
  rw [decide_eq_true_iff]
  constructor
  · intro h
    exact ofL_ext (by rw [low_bs, low_bs]; exact cmpL_zero h)
  · intro h
    unfold cmpS
    rw [← low_bs, ← low_bs, h]
    exact cmpL_self _

/-- Where a text stands: the first tag that is not ahead of it. -/
def searchV (s : ByteArray) : Nat := (List.range 26).findIdx fun k => decide (0 ≤ cmpS (nameG k) s)
theorem search_le (s : ByteArray) : searchV s ≤ 26 := by
  have := List.findIdx_le_length (p := fun k => decide (0 ≤ cmpS (nameG k) s)) (xs := List.range 26)
  rw [List.length_range] at this
  exact this
theorem search_iff (s : ByteArray) (i : Nat) (hi : i < 26) : 0 ≤ cmpS (nameG i) s ↔ searchV s ≤ i := by
  constructor
  · intro h
    rcases Nat.lt_or_ge i (searchV s) with h1 | h1
    · have := List.not_of_lt_findIdx (p := fun k => decide (0 ≤ cmpS (nameG k) s)) (xs := List.range 26) h1
      simp at this
      omega
    · exact h1
  · intro h
    have hl : searchV s < (List.range 26).length := by rw [List.length_range]; omega
    have h0 := List.findIdx_getElem (p := fun k => decide (0 ≤ cmpS (nameG k) s)) (xs := List.range 26) (w := hl)
    have h1 : decide (0 ≤ cmpS (nameG ((List.range 26)[searchV s]'hl)) s) = true := h0
    rw [List.getElem_range, decide_eq_true_iff] at h1
    clear h0
    rcases Nat.lt_or_eq_of_le h with h2 | h2
    · have h3 := name_lt _ i hi h2
      have h4 : cmpS s (nameG i) ≤ 0 := cmpL_trans _ ((bs (nameG (searchV s))).map lowB) _ (by have := cmpS_swap (nameG (searchV s)) s; unfold cmpS at this h1; rw [this]; omega) (by unfold cmpS at h3; rw [h3]; decide)
      have := cmpS_swap s (nameG i)
      omega
    · rw [← h2]; exact h1

/-- Which tag a text is. -/
def findV (s : ByteArray) : Option Nat := if searchV s < 26 ∧ sameS (nameG (searchV s)) s = true then some (searchV s) else none
theorem findV_iff (s : ByteArray) (k : Nat) (hk : k < 26) : findV s = some k ↔ lowS s = nameG k := by
  unfold findV
  constructor
  · intro h
    split at h
    · rename_i h1
      obtain rfl := Option.some.inj h
      rw [← name_low _ hk]
      exact ((same_low _ _).1 h1.2).symm
    · cases h
  · intro h
    have h0 : lowS (nameG k) = lowS s := by rw [name_low k hk, h]
    have hz : cmpS (nameG k) s = 0 := by
      have := (same_low _ _).2 h0
      unfold sameS at this
      exact of_decide_eq_true this
    have h1 : searchV s ≤ k := (search_iff s k hk).1 (by omega)
    have h2 : searchV s = k := by
      rcases Nat.lt_or_eq_of_le h1 with h3 | h3
      · have h4 := (search_iff s (searchV s) (by omega)).2 (Nat.le_refl _)
        have h5 := name_lt (searchV s) k hk h3
        have h6 : cmpS (nameG (searchV s)) (nameG k) = cmpS (nameG (searchV s)) s := by
          unfold cmpS
          rw [← low_bs, ← low_bs, ← low_bs, h0]
        omega
      · exact h3
    rw [h2, if_pos ⟨hk, (same_low _ _).2 h0⟩]
theorem findV_lt {s : ByteArray} {k : Nat} (h : findV s = some k) : k < 26 := by
  unfold findV at h
  split at h
  · rename_i h1; obtain rfl := Option.some.inj h; exact h1.1
  · cases h
theorem findV_none (s : ByteArray) (h : findV s = none) (k : Nat) (hk : k < 26) : lowS s ≠ nameG k := fun e => by rw [(findV_iff s k hk).2 e] at h; cases h
end Go.Proofs.YtpnhjpplfjamkaaGreatDoor
