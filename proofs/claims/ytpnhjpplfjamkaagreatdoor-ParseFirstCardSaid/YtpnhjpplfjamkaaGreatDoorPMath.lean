/-
  Texts as tags, as mathematics: what is read of a text, piece by piece.
-/
import Derived.Test.YtpnhjpplfjamkaaGreatDoorNRow
import Derived.Test.YtpnhjpplfjamkaaGreatDoorBMaths
namespace Go.Proofs.YtpnhjpplfjamkaaGreatDoor
open Go Go.RowKit

def sX : ByteArray := ⟨#[120]⟩
def sSub : ByteArray := ⟨#[115, 117, 98, 116, 97, 103]⟩
def sVar : ByteArray := ⟨#[118, 97, 114, 105, 97, 110, 116]⟩
def sSing : ByteArray := ⟨#[115, 105, 110, 103, 108, 101, 116, 111, 110]⟩
def sEnd : ByteArray := ⟨#[101, 110, 100]⟩
/-- What is wrong: a kind, a place, and what. -/
abbrev PErr := Int × Nat × ByteArray
/-- How far a text is read. -/
structure PSt where
  stage : Nat
  T : TagM
  last : Nat
  key : ByteArray
  must : Bool
  seen : List ByteArray
def pNo : TagM := ⟨ByteArray.empty, [], ByteArray.empty, ByteArray.empty, [], [], [], ByteArray.empty⟩
def pSt0 : PSt := ⟨0, pNo, 0, ByteArray.empty, false, []⟩
/-- The last extension has one more. -/
def addSub : List (ByteArray × List ByteArray) → ByteArray → List (ByteArray × List ByteArray)
  | [], _ => []
  | [x], p => [(x.1, x.2 ++ [p])]
  | x :: y :: r, p => x :: addSub (y :: r) p
def extendP (st : PSt) (p : ByteArray) : PSt :=
  { st with T := { st.T with exts := if st.must = true then st.T.exts ++ [(st.key, [p])] else addSub st.T.exts p }, must := false }
/-- Behind a language. -/
def furtherP (st : PSt) (a : Nat) (p : ByteArray) : Except PErr PSt :=
  if st.stage ≤ 1 ∧ extlangS p = true ∧ st.T.extl.length ≠ 3 then .ok { st with T := { st.T with extl := st.T.extl ++ [p] } }
  else if st.stage ≤ 2 ∧ scriptS p = true then .ok { st with T := { st.T with script := p }, stage := 3 }
  else if st.stage ≤ 3 ∧ regionS p = true then .ok { st with T := { st.T with region := p }, stage := 4 }
  else if st.stage ≤ 4 ∧ variantS p = true then
    (if hasT st.seen p = true then .error (11, a, sVar) else .ok { st with T := { st.T with vars := st.T.vars ++ [p] }, stage := 4, seen := st.seen ++ [p] })
  else if st.key.size ≠ 0 ∧ 2 ≤ p.size ∧ okS p = true then .ok (extendP st p)
  else if st.must = false ∧ singletonS p = true then
    (if hasT st.seen p = true then .error (11, a, sSing) else .ok { st with key := p, must := true, stage := 5, seen := st.seen ++ [p] })
  else if st.must = false ∧ p = sX then .ok { st with must := true, stage := 6 }
  else .error (10, a, sSub)
/-- One piece, in small letters. -/
def takeP (st : PSt) (a : Nat) (p : ByteArray) : Except PErr PSt :=
  if st.stage = 0 then
    (if p = sX then .ok { st with must := true, stage := 6 }
    else if languageS p = true then .ok { st with T := { st.T with lang := p }, stage := if p.size ≤ 3 then 1 else 2 }
    else .error (10, a, sSub))
  else if st.stage = 6 then
    (if okS p = true then .ok { st with T := { st.T with priv := st.T.priv ++ [p] }, must := false } else .error (10, a, sSub))
  else furtherP st a p
/-- Where it ends, behind a piece of n bytes. -/
def endP (st : PSt) (a n : Nat) : PSt := if st.must = true then st else { st with last := a + n }
/-- All pieces, up to the first that is wrong. -/
def runP : List (Nat × ByteArray) → PSt → PSt × Option PErr
  | [], st => (st, none)
  | x :: r, st => match takeP st x.1 (lowS x.2) with
    | .error e => (st, some e)
    | .ok st' => runP r (endP st' x.1 x.2.size)
def finP (n : Nat) : PSt × Option PErr → PSt × Option PErr
  | (st, some e) => (st, some e)
  | (st, none) => if st.must = true then (st, some (10, n, sEnd)) else (st, none)
def readS (s : ByteArray) : PSt × Option PErr := finP s.size (runP (pieces s) pSt0)
def outP : PSt × Option PErr → TagM × Option PErr
  | (_, some e) => (pNo, some e)
  | (st, none) => (st.T, none)
/-- P7.1. -/
def parseS (s : ByteArray) : TagM × Option PErr := if (findV s).isSome = true then ({ pNo with grand := lowS s }, none) else outP (readS s)

/-! What holds all along. -/
structure PInv (k : Nat) (st : PSt) : Prop where
  ext : st.stage ≠ 6 → st.key.size ≠ 0 → st.must = false → st.T.exts ≠ []
  len : st.T.extl.length + st.T.vars.length + st.T.exts.length + st.T.priv.length + st.seen.length ≤ 2 * k
  subs : ∀ x ∈ st.T.exts, x.2.length ≤ k
  grand : st.T.grand = ByteArray.empty
theorem addSub_len : ∀ (l : List (ByteArray × List ByteArray)) (p : ByteArray), (addSub l p).length = l.length
  | [], _ => rfl
  | [_], _ => rfl
  | _ :: y :: r, p => by simp [addSub, addSub_len (y :: r) p]
theorem addSub_snoc : ∀ (l : List (ByteArray × List ByteArray)) (x : ByteArray × List ByteArray) (p : ByteArray), addSub (l ++ [x]) p = l ++ [(x.1, x.2 ++ [p])]
  | [], _, _ => rfl
  | [y], x, p => by simp [addSub]
  | y :: z :: r, x, p => by
    have := addSub_snoc (z :: r) x p
    simp only [List.cons_append, addSub] at this ⊢
    rw [this]
theorem addSub_mem {l : List (ByteArray × List ByteArray)} {p : ByteArray} {k : Nat} (h : ∀ x ∈ l, x.2.length ≤ k) : ∀ x ∈ addSub l p, x.2.length ≤ k + 1 := by
  rcases List.eq_nil_or_concat l with rfl | ⟨r, y, rfl⟩
  · intro x hx; simp [addSub] at hx
  · rw [List.concat_eq_append] at h ⊢
    rw [addSub_snoc]
    intro x hx
    rcases List.mem_append.1 hx with h1 | h1
    · have := h x (List.mem_append_left _ h1); omega
    · simp at h1
      subst h1
      have := h y (List.mem_append_right _ (by simp))
      simp
      omega
theorem PInv.start : PInv 0 pSt0 := ⟨fun _ h => absurd rfl h, by simp [pSt0, pNo], fun x h => by simp [pSt0, pNo] at h, rfl⟩
theorem PInv.mono {k : Nat} {st : PSt} (h : PInv k st) : PInv (k + 1) st := ⟨h.ext, by have := h.len; omega, fun x hx => by have := h.subs x hx; omega, h.grand⟩
theorem PInv.ended {k : Nat} {st : PSt} (h : PInv k st) (a n : Nat) : PInv k (endP st a n) := by
  unfold endP
  split
  · exact h
  · exact ⟨h.ext, h.len, h.subs, h.grand⟩
theorem PInv.extend {k : Nat} {st : PSt} (h : PInv k st) (p : ByteArray) (hs : st.stage ≠ 6) (hk : st.key.size ≠ 0) : PInv (k + 1) (extendP st p) := by
  have h1 := h.len
  unfold extendP
  by_cases hm : st.must = true
  · rw [if_pos hm]
    refine ⟨fun _ _ _ => by simp, by simp; omega, fun x hx => ?_, h.grand⟩
    rcases List.mem_append.1 hx with h2 | h2
    · have := h.subs x h2; omega
    · simp at h2; subst h2; simp
  · rw [if_neg hm]
    have hne := h.ext hs hk (by simpa using hm)
    refine ⟨fun _ _ _ hn => ?_, by simp [addSub_len]; omega, addSub_mem h.subs, h.grand⟩
    have := addSub_len st.T.exts p
    simp only at hn
    rw [hn] at this
    exact hne (List.eq_nil_of_length_eq_zero this.symm)
theorem PInv.take {k : Nat} {st st' : PSt} {a : Nat} {p : ByteArray} (h : PInv k st) (ht : takeP st a p = .ok st') : PInv (k + 1) st' := by
  have h1 := h.len
  have hsub : ∀ x ∈ st.T.exts, x.2.length ≤ k + 1 := h.mono.subs
  unfold takeP at ht
  split at ht
  · have hs : st.stage ≠ 6 := by omega
    split at ht
    · cases ht; exact ⟨fun h6 => absurd rfl h6, by dsimp only; omega, hsub, h.grand⟩
    · split at ht
      · cases ht; exact ⟨fun _ hk hm => h.ext hs hk hm, by dsimp only; omega, hsub, h.grand⟩
      · cases ht
  · split at ht
    · rename_i h6
      split at ht
      · cases ht; exact ⟨fun hs => absurd h6 hs, by simp only [List.length_append, List.length_singleton]; omega, hsub, h.grand⟩
      · cases ht
    · rename_i hs
      unfold furtherP at ht
      split at ht
      · cases ht; exact ⟨fun _ hk hm => h.ext hs hk hm, by simp only [List.length_append, List.length_singleton]; omega, hsub, h.grand⟩
      · split at ht
        · cases ht; exact ⟨fun _ hk hm => h.ext hs hk hm, by dsimp only; omega, hsub, h.grand⟩
        · split at ht
          · cases ht; exact ⟨fun _ hk hm => h.ext hs hk hm, by dsimp only; omega, hsub, h.grand⟩
          · split at ht
            · split at ht
              · cases ht
              · cases ht; exact ⟨fun _ hk hm => h.ext hs hk hm, by simp only [List.length_append, List.length_singleton]; omega, hsub, h.grand⟩
            · split at ht
              · rename_i hx; cases ht; exact h.extend p hs hx.1
              · split at ht
                · split at ht
                  · cases ht
                  · cases ht; exact ⟨fun _ _ hm => (by cases hm), by simp only [List.length_append, List.length_singleton]; omega, hsub, h.grand⟩
                · split at ht
                  · cases ht; exact ⟨fun h6 => absurd rfl h6, by dsimp only; omega, hsub, h.grand⟩
                  · cases ht
end Go.Proofs.YtpnhjpplfjamkaaGreatDoor
