/-
  Package check in plain words: which images may be used, and why not.
-/
import Derived.Test.YtbafmnafhaoggaaGreatDoorZPacks
import Derived.Test.YtbafmnafhaoggaaGreatDoorANames
namespace Go.Proofs.YtbafmnafhaoggaaGreatDoor
open Go Go.RowKit Go.Maps

abbrev K3 := ByteArray × ByteArray × ByteArray
def kns (l : List Al) : List Kn := l.map fun x => (x.k, x.a, x.b)
def fineN (T : List Kn) (k : Int) (s : ByteArray) : Bool := decide (s.size = 0) || finalN T k s ⟨#[]⟩
def endsN (T : List Kn) (x : Al) : Bool := if x.k = 6 then fineN T 6 x.l else if x.k = 7 then finalN T 7 x.a x.l else fineN T 3 x.l && (fineN T 4 x.s && fineN T 5 x.r)
def lkK (x : Lk) : K3 := (x.l, x.s, x.r)
def rowsB (L : List Lk) (t : ByteArray) : Bool := L.any fun y => decide (lkK y = (t, ⟨#[]⟩, ⟨#[]⟩))
def setB (L : List Mb) (s : ByteArray) : Bool := L.any fun y => decide (y.st = s)
def knownB (L : List Mb) (s : ByteArray) : Bool := if markS s then setB L (s.extract 1 s.size) else true
def ruleB (L : List Mb) (x : Rl) : Bool := knownB L x.d2 && knownB L x.s2
def openT : Nat → K3
  | 0 => (STAR, ⟨#[]⟩, ⟨#[]⟩)
  | 1 => (STAR, STAR, ⟨#[]⟩)
  | _ => (STAR, STAR, STAR)
def opensB (k : Nat) (x : Rl) : Bool := decide ((x.d0, x.d1, x.d2) = openT k) && decide ((x.s0, x.s1, x.s2) = openT k)
def levelB (R : List Rl) (k : Nat) : Bool := R.any (opensB k)
def everyB (R : List Rl) : Bool := levelB R 0 && (levelB R 1 && levelB R 2)
def holdsB (im : Im) : Nat → Nat → Bool
  | 0, i => match im.als[i]? with | some x => endsN (kns im.als) x | none => true
  | 1, i => match im.lks[i]? with | some x => rowsB im.lks x.tl | none => true
  | 2, i => match im.rls[i]? with | some x => ruleB im.mbs x | none => true
  | _, _ => everyB im.rls
def mustK : Nat → Int
  | 0 => 14
  | _ => 15
def mustW : Nat → ByteArray
  | 0 => ⟨#[97, 108, 105, 97, 115]⟩
  | 1 => ⟨#[108, 105, 107, 101, 108, 121]⟩
  | _ => ⟨#[114, 117, 108, 101]⟩
def mustF (im : Im) : Nat → Nat
  | 3 => im.rls.length
  | _ => 0
def mustN (im : Im) : Nat → Nat
  | 0 => im.als.length
  | 1 => im.lks.length
  | 2 => im.rls.length
  | _ => 1
theorem holds_0 {im : Im} {i : Nat} {x : Al} (h : im.als[i]? = some x) : holdsB im 0 i = endsN (kns im.als) x := by
  show (match im.als[i]? with | some x => endsN (kns im.als) x | none => true) = _
  rw [h]
theorem holds_1 {im : Im} {i : Nat} {x : Lk} (h : im.lks[i]? = some x) : holdsB im 1 i = rowsB im.lks x.tl := by
  show (match im.lks[i]? with | some x => rowsB im.lks x.tl | none => true) = _
  rw [h]
theorem holds_2 {im : Im} {i : Nat} {x : Rl} (h : im.rls[i]? = some x) : holdsB im 2 i = ruleB im.mbs x := by
  show (match im.rls[i]? with | some x => ruleB im.mbs x | none => true) = _
  rw [h]
/-- The first of so many of which it does not hold. -/
def failsB (im : Im) (k n : Nat) : Option Nat := (List.range n).find? fun i => !holdsB im k i
def mustAt (im : Im) (k : Nat) : Option ErrT := (failsB im k (mustN im k)).map fun i => (mustK k, ((mustF im k + i : Nat) : Int), mustW k)
def mustE (im : Im) : Option ErrT := [0, 1, 2, 3].findSome? (mustAt im)
def chkE (im : Im) : Option ErrT := (encE im).or (mustE im)

theorem failsB_next {im : Im} {k n : Nat} (h : failsB im k n = none) (hp : holdsB im k n = true) : failsB im k (n + 1) = none := by
  unfold failsB at h ⊢
  rw [List.range_succ, List.find?_append, h]
  simp [hp]
theorem failsB_mono {im : Im} {k n m : Nat} (h : failsB im k n = some m) : ∀ n', n ≤ n' → failsB im k n' = some m := by
  intro n' hn
  induction hn with
  | refl => exact h
  | step _ ih =>
    unfold failsB at ih ⊢
    rw [List.range_succ, List.find?_append, ih]
    rfl
theorem failsB_at {im : Im} {k n : Nat} (h : failsB im k n = none) (hp : holdsB im k n = false) {n' : Nat} (hn : n < n') : failsB im k n' = some n := by
  refine failsB_mono (n := n + 1) ?_ n' hn
  unfold failsB at h ⊢
  rw [List.range_succ, List.find?_append, h]
  simp [hp]
theorem failsB_iff {im : Im} {k n : Nat} : failsB im k n = none ↔ ∀ i, i < n → holdsB im k i = true := by
  unfold failsB
  rw [List.find?_eq_none]
  constructor
  · intro h i hi
    have := h i (List.mem_range.2 hi)
    simpa using this
  · intro h i hi
    have := h i (List.mem_range.1 hi)
    simp [this]
theorem mustE_at {im : Im} {k i : Nat} (hk : k < 4) (hp : ∀ j, j < k → failsB im j (mustN im j) = none) (h : failsB im k (mustN im k) = some i) : mustE im = some (mustK k, ((mustF im k + i : Nat) : Int), mustW k) := by
  have e : mustAt im k = some (mustK k, ((mustF im k + i : Nat) : Int), mustW k) := by unfold mustAt; rw [h]; rfl
  have z : ∀ j, j < k → mustAt im j = none := fun j hj => by unfold mustAt; rw [hp j hj]; rfl
  unfold mustE
  rcases four k hk with rfl | rfl | rfl | rfl
  · simp [List.findSome?, e]
  · simp [List.findSome?, e, z 0 (by decide)]
  · simp [List.findSome?, e, z 0 (by decide), z 1 (by decide)]
  · simp [List.findSome?, e, z 0 (by decide), z 1 (by decide), z 2 (by decide)]
theorem mustE_none {im : Im} (hp : ∀ j, j < 4 → failsB im j (mustN im j) = none) : mustE im = none := by
  have z : ∀ j, j < 4 → mustAt im j = none := fun j hj => by unfold mustAt; rw [hp j hj]; rfl
  unfold mustE
  simp [List.findSome?, z 0 (by decide), z 1 (by decide), z 2 (by decide), z 3 (by decide)]
theorem mustE_iff {im : Im} : mustE im = none ↔ ∀ j, j < 4 → failsB im j (mustN im j) = none := by
  constructor
  · intro h j hj
    by_cases h0 : failsB im 0 (mustN im 0) = none
    · by_cases h1 : failsB im 1 (mustN im 1) = none
      · by_cases h2 : failsB im 2 (mustN im 2) = none
        · by_cases h3 : failsB im 3 (mustN im 3) = none
          · rcases four j hj with rfl | rfl | rfl | rfl
            · exact h0
            · exact h1
            · exact h2
            · exact h3
          · obtain ⟨i, hi⟩ := Option.ne_none_iff_exists'.1 h3
            rw [mustE_at (by decide) (fun j hj => by rcases (show j = 0 ∨ j = 1 ∨ j = 2 by omega) with rfl | rfl | rfl <;> assumption) hi] at h
            cases h
        · obtain ⟨i, hi⟩ := Option.ne_none_iff_exists'.1 h2
          rw [mustE_at (by decide) (fun j hj => by rcases (show j = 0 ∨ j = 1 by omega) with rfl | rfl <;> assumption) hi] at h
          cases h
      · obtain ⟨i, hi⟩ := Option.ne_none_iff_exists'.1 h1
        rw [mustE_at (by decide) (fun j hj => by obtain rfl : j = 0 := (by omega); exact h0) hi] at h
        cases h
    · obtain ⟨i, hi⟩ := Option.ne_none_iff_exists'.1 h0
      rw [mustE_at (by decide) (fun j hj => by omega) hi] at h
      cases h
  · exact mustE_none
theorem chkE_enc {im : Im} {e : ErrT} (h : encE im = some e) : chkE im = some e := by unfold chkE; rw [h]; rfl
theorem chkE_must {im : Im} (h : encE im = none) : chkE im = mustE im := by unfold chkE; rw [h]; rfl
theorem chkE_none {im : Im} : chkE im = none ↔ encE im = none ∧ ∀ j, j < 4 → ∀ i, i < mustN im j → holdsB im j i = true := by
  constructor
  · intro h
    cases he : encE im with
    | none =>
      rw [chkE_must he, mustE_iff] at h
      exact ⟨rfl, fun j hj => failsB_iff.1 (h j hj)⟩
    | some e => rw [chkE_enc he] at h; cases h
  · rintro ⟨he, h⟩
    rw [chkE_must he, mustE_iff]
    exact fun j hj => failsB_iff.2 (h j hj)
theorem kns_fits {l : List Al} (h : ∀ x ∈ l, AlS x) : Fits (kns l) := by
  intro y hy
  obtain ⟨x, hx, rfl⟩ := List.mem_map.1 hy
  have := h x hx
  exact ⟨this.k, by have := this.a; unfold maxLen; show x.a.size ≤ _; omega, by have := this.b; unfold maxLen; show x.b.size ≤ _; omega⟩
theorem hasN_sub {T T' : List Kn} (h : ∀ x ∈ T', x ∈ T) {k : Int} {p : ByteArray × ByteArray} (hf : hasN T k p = false) : hasN T' k p = false := by
  unfold hasN at hf ⊢
  rw [List.any_eq_false] at hf ⊢
  exact fun x hx => hf x (h x hx)
theorem finalN_sub {T T' : List Kn} (h : ∀ x ∈ T', x ∈ T) {k : Int} {a b : ByteArray} (hf : finalN T k a b = true) : finalN T' k a b = true := by
  unfold finalN at hf ⊢
  split at hf
  · rename_i h3
    rw [if_pos h3]
    rw [Bool.and_eq_true, Bool.not_eq_true', Bool.not_eq_true'] at hf ⊢
    exact ⟨hasN_sub h hf.1, hasN_sub h hf.2⟩
  · rename_i h3
    rw [if_neg h3]
    split at hf
    · rename_i h4
      rw [if_pos h4]
      rw [Bool.not_eq_true'] at hf ⊢
      exact hasN_sub h hf
    · rename_i h4
      rw [if_neg h4]
theorem fineN_sub {T T' : List Kn} (h : ∀ x ∈ T', x ∈ T) {k : Int} {s : ByteArray} (hf : fineN T k s = true) : fineN T' k s = true := by
  unfold fineN at hf ⊢
  rw [Bool.or_eq_true] at hf ⊢
  exact hf.imp id (finalN_sub h)
theorem endsN_sub {T T' : List Kn} (h : ∀ x ∈ T', x ∈ T) {x : Al} (hf : endsN T x = true) : endsN T' x = true := by
  unfold endsN at hf ⊢
  split at hf
  · rename_i h6
    rw [if_pos h6]
    exact fineN_sub h hf
  · rename_i h6
    rw [if_neg h6]
    split at hf
    · rename_i h7
      rw [if_pos h7]
      exact finalN_sub h hf
    · rename_i h7
      rw [if_neg h7]
      rw [Bool.and_eq_true, Bool.and_eq_true] at hf ⊢
      exact ⟨fineN_sub h hf.1, fineN_sub h hf.2.1, fineN_sub h hf.2.2⟩
end Go.Proofs.YtbafmnafhaoggaaGreatDoor
