/-
  Package split, in plain words: a text's pieces, as lists of bytes; where they begin; joined; trimmed; the first that is no subtag. No dump.
-/
import Derived.Test.YtlpjdknmnomdlaaGreatDoorBMath
import Derived.Lib.Join
import Derived.Lib.IndexLaws
namespace Go.Proofs.YtlpjdknmnomdlaaGreatDoor

/-- A text's pieces. -/
def spl : List UInt8 → List (List UInt8)
  | [] => [[]]
  | c :: r => if c = 45 then [] :: spl r else (c :: (spl r).headD []) :: (spl r).tail
theorem spl_cons (l : List UInt8) : ∃ h t, spl l = h :: t := by
  cases l with
  | nil => exact ⟨[], [], rfl⟩
  | cons c r => unfold spl; split <;> exact ⟨_, _, rfl⟩
theorem spl_ne (l : List UInt8) : spl l ≠ [] := by
  obtain ⟨h, t, e⟩ := spl_cons l
  rw [e]; exact List.cons_ne_nil _ _
theorem spl_pos (l : List UInt8) : 0 < (spl l).length := List.length_pos_iff.2 (spl_ne l)
theorem spl_plain {l : List UInt8} (h : (45 : UInt8) ∉ l) : spl l = [l] := by
  induction l with
  | nil => rfl
  | cons c r ih =>
    rw [List.mem_cons, not_or] at h
    unfold spl
    rw [if_neg (fun e => h.1 e.symm), ih h.2]; rfl
theorem spl_app (a b : List UInt8) : spl (a ++ 45 :: b) = spl a ++ spl b := by
  induction a with
  | nil => simp [spl]
  | cons c r ih =>
    obtain ⟨h, t, e⟩ := spl_cons r
    simp only [List.cons_append, spl, ih, e]
    split <;> simp
/-- Pieces joined. -/
def joinP (ps : List (List UInt8)) : List UInt8 := Lib.join ps [45]
theorem joinP_nil : joinP [] = [] := rfl
theorem joinP_one (p : List UInt8) : joinP [p] = p := Lib.join_one _ _
theorem joinP_cons (p : List UInt8) {ps : List (List UInt8)} (h : ps ≠ []) : joinP (p :: ps) = p ++ 45 :: joinP ps := by
  cases ps with
  | nil => exact absurd rfl h
  | cons q r => unfold joinP; rw [Lib.join_cons, Lib.join_cons]; simp [Lib.joinTail]
theorem joinP_snoc {ps : List (List UInt8)} (h : ps ≠ []) (p : List UInt8) : joinP (ps ++ [p]) = joinP ps ++ 45 :: p := by
  induction ps with
  | nil => exact absurd rfl h
  | cons q r ih =>
    cases r with
    | nil => rw [List.cons_append, List.nil_append, joinP_cons _ (by simp), joinP_one, joinP_one]
    | cons x y => rw [List.cons_append, joinP_cons q (List.append_ne_nil_of_left_ne_nil (List.cons_ne_nil x y) [p]), ih (by simp), joinP_cons q (List.cons_ne_nil x y)]; simp
theorem joinP_spl (l : List UInt8) : joinP (spl l) = l := by
  induction l with
  | nil => rfl
  | cons c r ih =>
    obtain ⟨h, t, e⟩ := spl_cons r
    unfold spl
    rw [e] at ih ⊢
    split
    · rename_i hc
      rw [joinP_cons _ (by simp), ih, hc]; rfl
    · unfold joinP at *
      rw [Lib.join_cons] at ih ⊢
      simp only [List.headD_cons, List.tail_cons, List.cons_append, ih]
theorem spl_joinP {ps : List (List UInt8)} (h0 : ps ≠ []) (h : ∀ p ∈ ps, (45 : UInt8) ∉ p) : spl (joinP ps) = ps := by
  induction ps with
  | nil => exact absurd rfl h0
  | cons p r ih =>
    cases r with
    | nil => rw [joinP_one]; exact spl_plain (h p (by simp))
    | cons q t =>
      rw [joinP_cons _ (by simp), spl_app, ih (by simp) (fun x hx => h x (List.mem_cons_of_mem _ hx)), spl_plain (h p (by simp))]; rfl
theorem spl_mem (l : List UInt8) : ∀ p ∈ spl l, (45 : UInt8) ∉ p := by
  induction l with
  | nil => intro p hp; simp [spl] at hp; simp [hp]
  | cons c r ih =>
    obtain ⟨h, t, e⟩ := spl_cons r
    intro p hp
    unfold spl at hp
    rw [e] at hp ih
    split at hp
    · rcases List.mem_cons.1 hp with rfl | hp
      · simp
      · exact ih p hp
    · rename_i hc
      simp only [List.headD_cons, List.tail_cons] at hp
      rcases List.mem_cons.1 hp with rfl | hp
      · rw [List.mem_cons, not_or]; exact ⟨fun e => hc e.symm, ih h (by simp)⟩
      · exact ih p (List.mem_cons_of_mem _ hp)
theorem spl_len (l : List UInt8) : (spl l).length ≤ l.length + 1 := by
  induction l with
  | nil => simp [spl]
  | cons c r ih =>
    obtain ⟨h, t, e⟩ := spl_cons r
    unfold spl
    rw [e] at ih ⊢
    split <;> simp at ih ⊢ <;> omega
theorem spl_mem_len (l : List UInt8) : ∀ p ∈ spl l, p.length ≤ l.length := by
  induction l with
  | nil => intro p hp; simp [spl] at hp; simp [hp]
  | cons c r ih =>
    obtain ⟨h, t, e⟩ := spl_cons r
    intro p hp
    unfold spl at hp
    rw [e] at hp ih
    split at hp
    · rcases List.mem_cons.1 hp with rfl | hp
      · simp
      · have := ih p hp; simp; omega
    · simp only [List.headD_cons, List.tail_cons] at hp
      rcases List.mem_cons.1 hp with rfl | hp
      · have := ih h (by simp); simp; omega
      · have := ih p (List.mem_cons_of_mem _ hp); simp; omega

/-- The first mark of a text, and what stands ahead of it and behind it. -/
theorem idx_cases (l : List UInt8) : (Lib.indexByte l 45 = -1 ∧ (45 : UInt8) ∉ l) ∨ ∃ p r, Lib.indexByte l 45 = (p.length : Int) ∧ l = p ++ 45 :: r ∧ (45 : UInt8) ∉ p := by
  by_cases h : Lib.indexByte l 45 = -1
  · refine .inl ⟨h, fun hm => ?_⟩
    obtain ⟨k, hk⟩ := List.mem_iff_getElem?.1 hm
    exact Lib.indexByte_none h k hk
  · have hge := Lib.indexByte_ge l 45
    obtain ⟨o, ho⟩ := Int.eq_ofNat_of_zero_le (show 0 ≤ Lib.indexByte l 45 by omega)
    obtain ⟨h1, h2⟩ := Lib.indexByte_some ho
    obtain ⟨hol, hoe⟩ := List.getElem?_eq_some_iff.1 h1
    refine .inr ⟨l.take o, l.drop (o + 1), ?_, ?_, fun hm => ?_⟩
    · rw [ho, List.length_take, Nat.min_eq_left (by omega)]
    · rw [← hoe, ← List.drop_eq_getElem_cons hol, List.take_append_drop]
    · obtain ⟨k, hk⟩ := List.mem_iff_getElem?.1 hm
      rw [List.getElem?_take] at hk
      split at hk
      · exact h2 k (by assumption) hk
      · cases hk

/-- Where the last mark of the first k bytes stands, or -1. -/
def lastK (l : List UInt8) : Nat → Int
  | 0 => -1
  | k + 1 => if l[k]? = some 45 then (k : Int) else lastK l k
def lastM (l : List UInt8) : Int := lastK l l.length
theorem lastK_cases (l : List UInt8) : ∀ k, k ≤ l.length → (lastK l k = -1 ∧ (45 : UInt8) ∉ l.take k) ∨ ∃ a p, lastK l k = (a.length : Int) ∧ l.take k = a ++ 45 :: p ∧ (45 : UInt8) ∉ p
  | 0, _ => .inl ⟨rfl, by simp⟩
  | k + 1, hk => by
    have he : l.take (k + 1) = l.take k ++ [l[k]'(by omega)] := List.take_succ_eq_append_getElem (by omega)
    have hg : l[k]? = some (l[k]'(by omega)) := List.getElem?_eq_getElem (by omega)
    unfold lastK
    rw [hg, he]
    by_cases h : l[k]'(by omega) = 45
    · rw [if_pos (by rw [h]), h]
      refine .inr ⟨l.take k, [], ?_, rfl, by simp⟩
      rw [List.length_take, Nat.min_eq_left (by omega)]
    · rw [if_neg (fun e => h (Option.some.inj e))]
      rcases lastK_cases l k (by omega) with ⟨h1, h2⟩ | ⟨a, p, h1, h2, h3⟩
      · exact .inl ⟨h1, by rw [List.mem_append, not_or]; exact ⟨h2, by simpa using fun e => h e.symm⟩⟩
      · refine .inr ⟨a, p ++ [l[k]'(by omega)], h1, by rw [h2]; simp, ?_⟩
        rw [List.mem_append, not_or]; exact ⟨h3, by simpa using fun e => h e.symm⟩
theorem lastM_cases (l : List UInt8) : (lastM l = -1 ∧ (45 : UInt8) ∉ l) ∨ ∃ a p, lastM l = (a.length : Int) ∧ l = a ++ 45 :: p ∧ (45 : UInt8) ∉ p := by
  have := lastK_cases l l.length (Nat.le_refl _)
  rwa [List.take_length] at this

/- Trimmed. -/
def stripR : List (List UInt8) → List (List UInt8)
  | p :: q :: r => if p.length = 1 then stripR (q :: r) else p :: q :: r
  | r => r
def stripP (ps : List (List UInt8)) : List (List UInt8) := (stripR ps.reverse).reverse
theorem stripP_nil : stripP [] = [] := rfl
theorem stripP_one (p : List UInt8) : stripP [p] = [p] := rfl
theorem stripP_snoc {qs : List (List UInt8)} (h : qs ≠ []) (p : List UInt8) : stripP (qs ++ [p]) = if p.length = 1 then stripP qs else qs ++ [p] := by
  unfold stripP
  rw [List.reverse_append, List.reverse_cons, List.reverse_nil, List.nil_append, List.cons_append, List.nil_append]
  cases hq : qs.reverse with
  | nil => exact absurd (List.reverse_eq_nil_iff.1 hq) h
  | cons x y =>
    simp only [stripR]
    split
    · rfl
    · rw [List.reverse_cons, ← hq, List.reverse_reverse]
/-- A text without its last piece, and the pieces of one byte ahead of that. -/
def trimL (l : List UInt8) : List UInt8 := joinP (stripP (spl l).dropLast)
def trimS (s : ByteArray) : ByteArray := ofL (trimL (bs s))
/-- What is left of a text that has lost its last piece. -/
def cutL (a : List UInt8) : List UInt8 := joinP (stripP (spl a))
theorem trimL_none {l : List UInt8} (h : (45 : UInt8) ∉ l) : trimL l = [] := by unfold trimL; rw [spl_plain h]; rfl
theorem trimL_some {a p : List UInt8} (h : (45 : UInt8) ∉ p) : trimL (a ++ 45 :: p) = cutL a := by
  unfold trimL cutL; rw [spl_app, spl_plain h, List.dropLast_concat]
/-- Does a text end with a piece of just one byte, and a mark ahead of it? -/
def singleL (l : List UInt8) : Prop := ∃ a c, l = a ++ [45, c] ∧ c ≠ 45
theorem cutL_single {a : List UInt8} {c : UInt8} (h : c ≠ 45) : cutL (a ++ [45, c]) = cutL a := by
  unfold cutL
  have hc : (45 : UInt8) ∉ [c] := by simpa using fun e => h e.symm
  rw [show a ++ [45, c] = a ++ 45 :: [c] from rfl, spl_app, spl_plain hc, stripP_snoc (spl_ne a), if_pos (show [c].length = 1 from rfl)]
theorem cutL_stop {l : List UInt8} (h : ¬ singleL l) : cutL l = l := by
  unfold cutL
  rcases lastM_cases l with ⟨_, hn⟩ | ⟨a, p, _, hl, hp⟩
  · rw [spl_plain hn, stripP_one, joinP_one]
  · rw [hl, spl_app, spl_plain hp, stripP_snoc (spl_ne a)]
    rw [if_neg (fun hlen => ?_)]
    · rw [joinP_snoc (spl_ne a), joinP_spl]
    · obtain ⟨c, rfl⟩ : ∃ c, p = [c] := List.length_eq_one_iff.1 hlen
      exact h ⟨a, c, by rw [hl], fun e => hp (by simp [e])⟩

/- Pieces, and where they begin. -/
def placed : Nat → List (List UInt8) → List (Nat × ByteArray)
  | _, [] => []
  | n, p :: r => (n, ofL p) :: placed (n + p.length + 1) r
def pieces (s : ByteArray) : List (Nat × ByteArray) := placed 0 (spl (bs s))
theorem placed_map (n : Nat) (ps : List (List UInt8)) : (placed n ps).map (·.2) = ps.map ofL := by
  induction ps generalizing n with
  | nil => rfl
  | cons p r ih => simp [placed, ih]
theorem placed_length (n : Nat) (ps : List (List UInt8)) : (placed n ps).length = ps.length := by
  induction ps generalizing n with
  | nil => rfl
  | cons p r ih => simp [placed, ih]
def splS (s : ByteArray) : List ByteArray := (spl (bs s)).map ofL
theorem pieces_map (s : ByteArray) : (pieces s).map (·.2) = splS s := placed_map _ _
theorem pieces_length (s : ByteArray) : (pieces s).length = (splS s).length := by rw [← pieces_map, List.length_map]
theorem splS_length (s : ByteArray) : (splS s).length = (spl (bs s)).length := List.length_map ..
theorem splS_pos (s : ByteArray) : 0 < (splS s).length := by rw [splS_length]; exact spl_pos _
theorem splS_le (s : ByteArray) : (splS s).length ≤ s.size + 1 := by rw [splS_length, ← size_bs]; exact spl_len _
theorem splS_size (s : ByteArray) : ∀ p ∈ splS s, p.size ≤ s.size := by
  intro p hp
  obtain ⟨q, hq, rfl⟩ := List.mem_map.1 hp
  rw [size_ofL, ← size_bs]; exact spl_mem_len _ _ hq

/- The first piece that is no subtag. -/
def okL (p : List UInt8) : Bool := decide (p.length ≤ 8) && alnumS (ofL p)
def okS (s : ByteArray) : Bool := decide (s.size ≤ 8) && alnumS s
theorem okS_ofL (p : List UInt8) : okS (ofL p) = okL p := by unfold okS okL; rw [size_ofL]
def badOf : List (Nat × ByteArray) → Option Nat
  | [] => none
  | x :: r => if okS x.2 then badOf r else some x.1
theorem badOf_none (l : List (Nat × ByteArray)) : badOf l = none ↔ ∀ x ∈ l, okS x.2 = true := by
  induction l with
  | nil => simp [badOf]
  | cons x r ih =>
    unfold badOf
    split
    · rename_i h; simp [ih, h]
    · rename_i h; simp [h]
def chkS (s : ByteArray) : Option Nat := badOf (pieces s)
theorem chkS_none (s : ByteArray) : chkS s = none ↔ ∀ p ∈ spl (bs s), okL p = true := by
  unfold chkS
  rw [badOf_none]
  constructor
  · intro h p hp
    have h1 : ofL p ∈ (pieces s).map (·.2) := by rw [pieces_map]; exact List.mem_map.2 ⟨p, hp, rfl⟩
    obtain ⟨x, hx, hxe⟩ := List.mem_map.1 h1
    rw [← okS_ofL, ← hxe]; exact h x hx
  · intro h x hx
    have h1 : x.2 ∈ splS s := by rw [← pieces_map]; exact List.mem_map.2 ⟨x, hx, rfl⟩
    obtain ⟨p, hp, hpe⟩ := List.mem_map.1 h1
    rw [← hpe, okS_ofL]; exact h p hp
end Go.Proofs.YtlpjdknmnomdlaaGreatDoor
