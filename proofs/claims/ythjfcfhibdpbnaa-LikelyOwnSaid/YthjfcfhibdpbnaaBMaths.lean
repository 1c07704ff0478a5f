/-
  Package ascii, in plain words: bytes of four kinds, their cases; texts as lists of bytes: their cases, what they have, how they stand. No dump. Package pack, in plain words: bytes of packed texts, the number of a text, the bytes of a number, a text without the zeros behind it. No dump. Package split, in plain words: a text's pieces, as lists of bytes; where they begin; joined; trimmed; the first that is no subtag. No dump. Layer 5's texts: the grandfathered tags in their order; where a text stands among them. No dump.
-/
import Derived.WalkKit
import Derived.Lib.Join
import Derived.Lib.IndexLaws
/-! Package ascii, in plain words: bytes of four kinds, their cases; texts as lists of bytes: their cases, what they have, how they stand. No dump. -/
namespace Go.Proofs.Ythjfcfhibdpbnaa

def isU (c : UInt8) : Bool := decide (65 ≤ c.toNat ∧ c.toNat ≤ 90)
def isL (c : UInt8) : Bool := decide (97 ≤ c.toNat ∧ c.toNat ≤ 122)
def isD (c : UInt8) : Bool := decide (48 ≤ c.toNat ∧ c.toNat ≤ 57)
def isA (c : UInt8) : Bool := isU c || isL c
def isN (c : UInt8) : Bool := isA c || isD c
def lowB (c : UInt8) : UInt8 := if isU c then c + 32 else c
def upB (c : UInt8) : UInt8 := if isL c then c - 32 else c

theorem byte_all (P : UInt8 → Prop) (h : ∀ n : Fin 256, P (UInt8.ofNat n.val)) (c : UInt8) : P c := by
  have := h ⟨c.toNat, c.toNat_lt⟩
  simpa using this

theorem isU_iff (c : UInt8) : isU c = true ↔ 65 ≤ c.toNat ∧ c.toNat ≤ 90 := by unfold isU; exact decide_eq_true_iff
theorem isL_iff (c : UInt8) : isL c = true ↔ 97 ≤ c.toNat ∧ c.toNat ≤ 122 := by unfold isL; exact decide_eq_true_iff
theorem isA_not_isD : ∀ c, isA c = true → isD c = false := byte_all _ (by decide +kernel)
theorem low_nat_U : ∀ c, isU c = true → (lowB c).toNat = c.toNat + 32 := byte_all _ (by decide +kernel)
theorem low_nat : ∀ c, isU c = false → lowB c = c := byte_all _ (by decide +kernel)
theorem up_nat_L : ∀ c, isL c = true → (upB c).toNat + 32 = c.toNat := byte_all _ (by decide +kernel)
theorem up_nat : ∀ c, isL c = false → upB c = c := byte_all _ (by decide +kernel)

/- Texts. -/
abbrev bs (s : ByteArray) : List UInt8 := s.data.toList
def ofL (l : List UInt8) : ByteArray := ⟨l.toArray⟩
theorem bs_ofL (l : List UInt8) : bs (ofL l) = l := by simp [bs, ofL]
theorem ofL_bs (s : ByteArray) : ofL (bs s) = s := by simp [bs, ofL]
theorem size_bs (s : ByteArray) : (bs s).length = s.size := rfl
theorem size_ofL (l : List UInt8) : (ofL l).size = l.length := by show l.toArray.size = l.length; simp
theorem ofL_ext {a b : ByteArray} (h : bs a = bs b) : a = b := by rw [← ofL_bs a, h, ofL_bs]

def titleL : List UInt8 → List UInt8
  | [] => []
  | c :: r => upB c :: r.map lowB
def lowS (s : ByteArray) : ByteArray := ofL ((bs s).map lowB)
def upS (s : ByteArray) : ByteArray := ofL ((bs s).map upB)
def titleS (s : ByteArray) : ByteArray := ofL (titleL (bs s))
def has (p : UInt8 → Bool) (s : ByteArray) : Bool := !(bs s).isEmpty && (bs s).all p
def alphaS (s : ByteArray) : Bool := has isA s
def digitS (s : ByteArray) : Bool := has isD s
def alnumS (s : ByteArray) : Bool := has isN s
def classS (s : ByteArray) : Int := if alphaS s then 1 else if digitS s then 2 else if alnumS s then 3 else 0
def cmpL : List UInt8 → List UInt8 → Int
  | [], [] => 0
  | [], _ :: _ => -1
  | _ :: _, [] => 1
  | x :: a, y :: b => if x.toNat < y.toNat then -1 else if y.toNat < x.toNat then 1 else cmpL a b
def cmpS (a b : ByteArray) : Int := cmpL ((bs a).map lowB) ((bs b).map lowB)
theorem size_lowS (s : ByteArray) : (lowS s).size = s.size := by simp [lowS, size_ofL]
theorem size_upS (s : ByteArray) : (upS s).size = s.size := by simp [upS, size_ofL]
theorem length_titleL (l : List UInt8) : (titleL l).length = l.length := by cases l <;> simp [titleL]
theorem size_titleS (s : ByteArray) : (titleS s).size = s.size := by simp [titleS, size_ofL, length_titleL]
theorem cmpL_self (l : List UInt8) : cmpL l l = 0 := by induction l <;> simp_all [cmpL]
theorem cmpL_range (a b : List UInt8) : cmpL a b = -1 ∨ cmpL a b = 0 ∨ cmpL a b = 1 := by
  induction a generalizing b with
  | nil => cases b <;> simp [cmpL]
  | cons x a ih =>
    cases b with
    | nil => simp [cmpL]
    | cons y b => simp only [cmpL]; split; · simp
                  split; · simp
                  exact ih b
theorem cmpL_zero {a b : List UInt8} (h : cmpL a b = 0) : a = b := by
  induction a generalizing b with
  | nil => cases b <;> simp_all [cmpL]
  | cons x a ih =>
    cases b with
    | nil => simp [cmpL] at h
    | cons y b =>
      simp only [cmpL] at h
      by_cases h1 : x.toNat < y.toNat
      · rw [if_pos h1] at h; simp at h
      · by_cases h2 : y.toNat < x.toNat
        · rw [if_neg h1, if_pos h2] at h; simp at h
        · rw [if_neg h1, if_neg h2] at h
          rw [ih h, UInt8.toNat_inj.1 (by omega : x.toNat = y.toNat)]
end Go.Proofs.Ythjfcfhibdpbnaa

/-! Package pack, in plain words: bytes of packed texts, the number of a text, the bytes of a number, a text without the zeros behind it. No dump. -/
namespace Go.Proofs.Ythjfcfhibdpbnaa

/-- The number of the first m bytes of a list, the greatest first, zeros behind it. -/
def num : Nat → List UInt8 → Nat
  | 0, _ => 0
  | _ + 1, [] => 0
  | m + 1, c :: r => c.toNat * 256 ^ m + num m r
/-- The byte of a number at a place, from the lowest; the lowest bytes of a number, the greatest first. -/
def byteAt (n i : Nat) : UInt8 := UInt8.ofNat (n / 256 ^ i)
def putL (n : Nat) : Nat → List UInt8
  | 0 => []
  | i + 1 => byteAt n i :: putL n i
theorem length_putL (n k : Nat) : (putL n k).length = k := by induction k <;> simp_all [putL]
/- How numbers and texts stand. -/
/- A text without the zeros behind it. -/
def trimZ (l : List UInt8) : List UInt8 := (l.reverse.dropWhile (· == 0)).reverse
theorem trimZ_nil : trimZ [] = [] := rfl
theorem trimZ_zero (l : List UInt8) : trimZ (l ++ [0]) = trimZ l := by simp [trimZ]
theorem trimZ_stop (l : List UInt8) (c : UInt8) (h : c ≠ 0) : trimZ (l ++ [c]) = l ++ [c] := by
  have : (c == 0) = false := by rw [beq_eq_false_iff_ne]; exact h
  simp [trimZ, this]
/- Packed texts; what Pack and Unpack tell. -/
end Go.Proofs.Ythjfcfhibdpbnaa

/-! Package split, in plain words: a text's pieces, as lists of bytes; where they begin; joined; trimmed; the first that is no subtag. No dump. -/
namespace Go.Proofs.Ythjfcfhibdpbnaa

/-- A text's pieces. -/
def spl : List UInt8 → List (List UInt8)
  | [] => [[]]
  | c :: r => if c = 45 then [] :: spl r else (c :: (spl r).headD []) :: (spl r).tail
theorem spl_cons (l : List UInt8) : ∃ h t, spl l = h :: t := by
  cases l with
  | nil => exact ⟨[], [], rfl⟩
  | cons c r => unfold spl; split <;> exact ⟨_, _, rfl⟩
theorem spl_ne (l : List UInt8) : spl l ≠ [] := by
  obtain ⟨h, t, e⟩ := spl_cons l
  rw [e]; exact List.cons_ne_nil _ _
theorem spl_pos (l : List UInt8) : 0 < (spl l).length := List.length_pos_iff.2 (spl_ne l)
theorem spl_plain {l : List UInt8} (h : (45 : UInt8) ∉ l) : spl l = [l] := by
  induction l with
  | nil => rfl
  | cons c r ih =>
    rw [List.mem_cons, not_or] at h
    unfold spl
    rw [if_neg (fun e => h.1 e.symm), ih h.2]; rfl
theorem spl_app (a b : List UInt8) : spl (a ++ 45 :: b) = spl a ++ spl b := by
  induction a with
  | nil => simp [spl]
  | cons c r ih =>
    obtain ⟨h, t, e⟩ := spl_cons r
    simp only [List.cons_append, spl, ih, e]
    split <;> simp
theorem spl_len (l : List UInt8) : (spl l).length ≤ l.length + 1 := by
  induction l with
  | nil => simp [spl]
  | cons c r ih =>
    obtain ⟨h, t, e⟩ := spl_cons r
    unfold spl
    rw [e] at ih ⊢
    split <;> simp at ih ⊢ <;> omega
theorem spl_mem_len (l : List UInt8) : ∀ p ∈ spl l, p.length ≤ l.length := by
  induction l with
  | nil => intro p hp; simp [spl] at hp; simp [hp]
  | cons c r ih =>
    obtain ⟨h, t, e⟩ := spl_cons r
    intro p hp
    unfold spl at hp
    rw [e] at hp ih
    split at hp
    · rcases List.mem_cons.1 hp with rfl | hp
      · simp
      · have := ih p hp; simp; omega
    · simp only [List.headD_cons, List.tail_cons] at hp
      rcases List.mem_cons.1 hp with rfl | hp
      · have := ih h (by simp); simp; omega
      · have := ih p (List.mem_cons_of_mem _ hp); simp; omega

/- Trimmed. -/
/- Pieces, and where they begin. -/
def placed : Nat → List (List UInt8) → List (Nat × ByteArray)
  | _, [] => []
  | n, p :: r => (n, ofL p) :: placed (n + p.length + 1) r
def pieces (s : ByteArray) : List (Nat × ByteArray) := placed 0 (spl (bs s))
theorem placed_map (n : Nat) (ps : List (List UInt8)) : (placed n ps).map (·.2) = ps.map ofL := by
  induction ps generalizing n with
  | nil => rfl
  | cons p r ih => simp [placed, ih]
def splS (s : ByteArray) : List ByteArray := (spl (bs s)).map ofL
theorem pieces_map (s : ByteArray) : (pieces s).map (·.2) = splS s := placed_map _ _
theorem pieces_length (s : ByteArray) : (pieces s).length = (splS s).length := by rw [← pieces_map, List.length_map]
theorem splS_length (s : ByteArray) : (splS s).length = (spl (bs s)).length := List.length_map ..
theorem splS_pos (s : ByteArray) : 0 < (splS s).length := by rw [splS_length]; exact spl_pos _
theorem splS_le (s : ByteArray) : (splS s).length ≤ s.size + 1 := by rw [splS_length, ← size_bs]; exact spl_len _
theorem splS_size (s : ByteArray) : ∀ p ∈ splS s, p.size ≤ s.size := by
  intro p hp
  obtain ⟨q, hq, rfl⟩ := List.mem_map.1 hp
  rw [size_ofL, ← size_bs]; exact spl_mem_len _ _ hq

/- The first piece that is no subtag. -/
def okS (s : ByteArray) : Bool := decide (s.size ≤ 8) && alnumS s
def badOf : List (Nat × ByteArray) → Option Nat
  | [] => none
  | x :: r => if okS x.2 then badOf r else some x.1
def chkS (s : ByteArray) : Option Nat := badOf (pieces s)
end Go.Proofs.Ythjfcfhibdpbnaa

/-! Layer 5's texts: the grandfathered tags in their order; where a text stands among them. No dump. -/
namespace Go.Proofs.Ythjfcfhibdpbnaa

/-- The tags, in order, and which are regular. -/
def gL : List (ByteArray × Bool) := [
  (⟨#[97, 114, 116, 45, 108, 111, 106, 98, 97, 110]⟩, true),
  (⟨#[99, 101, 108, 45, 103, 97, 117, 108, 105, 115, 104]⟩, true),
  (⟨#[101, 110, 45, 103, 98, 45, 111, 101, 100]⟩, false),
  (⟨#[105, 45, 97, 109, 105]⟩, false),
  (⟨#[105, 45, 98, 110, 110]⟩, false),
  (⟨#[105, 45, 100, 101, 102, 97, 117, 108, 116]⟩, false),
  (⟨#[105, 45, 101, 110, 111, 99, 104, 105, 97, 110]⟩, false),
  (⟨#[105, 45, 104, 97, 107]⟩, false),
  (⟨#[105, 45, 107, 108, 105, 110, 103, 111, 110]⟩, false),
  (⟨#[105, 45, 108, 117, 120]⟩, false),
  (⟨#[105, 45, 109, 105, 110, 103, 111]⟩, false),
  (⟨#[105, 45, 110, 97, 118, 97, 106, 111]⟩, false),
  (⟨#[105, 45, 112, 119, 110]⟩, false),
  (⟨#[105, 45, 116, 97, 111]⟩, false),
  (⟨#[105, 45, 116, 97, 121]⟩, false),
  (⟨#[105, 45, 116, 115, 117]⟩, false),
  (⟨#[110, 111, 45, 98, 111, 107]⟩, true),
  (⟨#[110, 111, 45, 110, 121, 110]⟩, true),
  (⟨#[115, 103, 110, 45, 98, 101, 45, 102, 114]⟩, false),
  (⟨#[115, 103, 110, 45, 98, 101, 45, 110, 108]⟩, false),
  (⟨#[115, 103, 110, 45, 99, 104, 45, 100, 101]⟩, false),
  (⟨#[122, 104, 45, 103, 117, 111, 121, 117]⟩, true),
  (⟨#[122, 104, 45, 104, 97, 107, 107, 97]⟩, true),
  (⟨#[122, 104, 45, 109, 105, 110]⟩, true),
  (⟨#[122, 104, 45, 109, 105, 110, 45, 110, 97, 110]⟩, true),
  (⟨#[122, 104, 45, 120, 105, 97, 110, 103]⟩, true)]
def nameG (k : Nat) : ByteArray := (gL.getD k (ByteArray.empty, false)).1
/-- The tags as the document's own list has them: a regular one with its star. -/
def gS : List ByteArray := [
  ⟨#[97, 114, 116, 45, 108, 111, 106, 98, 97, 110, 42]⟩,
  ⟨#[99, 101, 108, 45, 103, 97, 117, 108, 105, 115, 104, 42]⟩,
  ⟨#[101, 110, 45, 103, 98, 45, 111, 101, 100]⟩,
  ⟨#[105, 45, 97, 109, 105]⟩,
  ⟨#[105, 45, 98, 110, 110]⟩,
  ⟨#[105, 45, 100, 101, 102, 97, 117, 108, 116]⟩,
  ⟨#[105, 45, 101, 110, 111, 99, 104, 105, 97, 110]⟩,
  ⟨#[105, 45, 104, 97, 107]⟩,
  ⟨#[105, 45, 107, 108, 105, 110, 103, 111, 110]⟩,
  ⟨#[105, 45, 108, 117, 120]⟩,
  ⟨#[105, 45, 109, 105, 110, 103, 111]⟩,
  ⟨#[105, 45, 110, 97, 118, 97, 106, 111]⟩,
  ⟨#[105, 45, 112, 119, 110]⟩,
  ⟨#[105, 45, 116, 97, 111]⟩,
  ⟨#[105, 45, 116, 97, 121]⟩,
  ⟨#[105, 45, 116, 115, 117]⟩,
  ⟨#[110, 111, 45, 98, 111, 107, 42]⟩,
  ⟨#[110, 111, 45, 110, 121, 110, 42]⟩,
  ⟨#[115, 103, 110, 45, 98, 101, 45, 102, 114]⟩,
  ⟨#[115, 103, 110, 45, 98, 101, 45, 110, 108]⟩,
  ⟨#[115, 103, 110, 45, 99, 104, 45, 100, 101]⟩,
  ⟨#[122, 104, 45, 103, 117, 111, 121, 117, 42]⟩,
  ⟨#[122, 104, 45, 104, 97, 107, 107, 97, 42]⟩,
  ⟨#[122, 104, 45, 109, 105, 110, 42]⟩,
  ⟨#[122, 104, 45, 109, 105, 110, 45, 110, 97, 110, 42]⟩,
  ⟨#[122, 104, 45, 120, 105, 97, 110, 103, 42]⟩]
def starG (k : Nat) : ByteArray := gS.getD k ByteArray.empty

end Go.Proofs.Ythjfcfhibdpbnaa
