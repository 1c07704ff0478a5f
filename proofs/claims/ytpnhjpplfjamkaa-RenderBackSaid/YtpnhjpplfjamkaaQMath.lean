/-
  Package render, in plain words: the cases of a text's pieces, as lists. (No walk here.)
-/
import Derived.Test.YtpnhjpplfjamkaaPieceR
namespace Go.Proofs.Ytpnhjpplfjamkaa
open Go Go.RowKit

/-- Has a piece just one byte? -/
def oneB (p : ByteArray) : Bool := decide (p.size = 1)
def turnS (plain : Bool) (p : ByteArray) : ByteArray := if plain = true then lowS p else if p.size = 2 then upS p else if p.size = 4 then titleS p else lowS p
def caseL : Bool → Bool → List ByteArray → List ByteArray
  | _, _, [] => []
  | f, g, p :: r => turnS (f || (g || oneB p)) p :: caseL false (g || oneB p) r
def caseT (l : List ByteArray) : List ByteArray := caseL true false l
def caseS (s : ByteArray) : ByteArray := joinS (caseT (splS s))

theorem caseL_length (l : List ByteArray) : ∀ f g, (caseL f g l).length = l.length := by
  induction l with
  | nil => intros; rfl
  | cons p r ih => intro f g; simp [caseL, ih]
theorem caseT_length (l : List ByteArray) : (caseT l).length = l.length := caseL_length _ _ _
theorem size_turnS (b : Bool) (p : ByteArray) : (turnS b p).size = p.size := by
  unfold turnS; split
  · exact size_lowS p
  · split
    · exact size_upS p
    · split
      · exact size_titleS p
      · exact size_lowS p
theorem low_turnS (b : Bool) (p : ByteArray) : lowS (turnS b p) = lowS p := by
  unfold turnS; split
  · exact low_lowS p
  · split
    · exact low_upS p
    · split
      · exact low_titleS p
      · exact low_lowS p
theorem low_caseL (l : List ByteArray) : ∀ f g, (caseL f g l).map lowS = l.map lowS := by
  induction l with
  | nil => intros; rfl
  | cons p r ih => intro f g; simp only [caseL, List.map_cons, low_turnS, ih]
theorem size_caseL (l : List ByteArray) : ∀ f g, (caseL f g l).map ByteArray.size = l.map ByteArray.size := by
  induction l with
  | nil => intros; rfl
  | cons p r ih => intro f g; simp only [caseL, List.map_cons, size_turnS, ih]
def sglL (l : List ByteArray) : Bool := l.any oneB
theorem caseL_append (a b : List ByteArray) : ∀ f g, caseL f g (a ++ b) = caseL f g a ++ caseL (f && a.isEmpty) (g || sglL a) b := by
  induction a with
  | nil => intro f g; simp [caseL, sglL]
  | cons p r ih => intro f g; simp [caseL, ih, sglL, Bool.or_assoc]
/-- One piece more. -/
theorem caseT_snoc (l : List ByteArray) (p : ByteArray) : caseT (l ++ [p]) = caseT l ++ [turnS (l.isEmpty || (sglL l || oneB p)) p] := by
  unfold caseT
  rw [caseL_append]
  simp [caseL]
theorem sglL_snoc (l : List ByteArray) (p : ByteArray) : sglL (l ++ [p]) = (sglL l || oneB p) := by simp [sglL]

/-! Bytes of marks stay. -/
/-! Joined, then turned. -/
theorem joinP_map (f : UInt8 → UInt8) (hf : f 45 = 45) : ∀ l : List (List UInt8), joinP (l.map (·.map f)) = (joinP l).map f
  | [] => rfl
  | [p] => by simp [joinP_one]
  | p :: q :: r => by
    have ih := joinP_map f hf (q :: r)
    rw [List.map_cons, joinP_cons (p.map f) (ps := (q :: r).map (·.map f)) (by simp), ih, joinP_cons p (ps := q :: r) (by simp)]
    simp [hf]
theorem joinS_low (l : List ByteArray) : joinS (l.map lowS) = lowS (joinS l) := by
  unfold joinS lowS
  rw [bs_ofL, ← joinP_map lowB rfl, List.map_map, List.map_map]
  congr 2
theorem low_caseS (s : ByteArray) : lowS (caseS s) = lowS s := by
  unfold caseS
  rw [← joinS_low]
  unfold caseT
  rw [low_caseL, joinS_low, join_split]
theorem joinP_size_eq : ∀ (a b : List (List UInt8)), a.map List.length = b.map List.length → (joinP a).length = (joinP b).length
  | [], [], _ => rfl
  | [], _ :: _, h => by simp at h
  | _ :: _, [], h => by simp at h
  | [p], [q], h => by simp at h; simp [joinP_one, h]
  | [p], q :: x :: r, h => by simp at h
  | p :: x :: r, [q], h => by simp at h
  | p :: x :: r, q :: y :: t, h => by
    simp only [List.map_cons, List.cons.injEq] at h
    have ih := joinP_size_eq (x :: r) (y :: t) (by simp [h.2.1, h.2.2])
    rw [joinP_cons p (ps := x :: r) (by simp), joinP_cons q (ps := y :: t) (by simp), List.length_append, List.length_append, List.length_cons, List.length_cons, h.1, ih]
theorem joinS_size_eq (a b : List ByteArray) (h : a.map ByteArray.size = b.map ByteArray.size) : (joinS a).size = (joinS b).size := by
  unfold joinS
  rw [size_ofL, size_ofL]
  refine joinP_size_eq _ _ ?_
  rw [List.map_map, List.map_map]
  simpa [Function.comp_def, size_bs] using h
theorem size_caseS (s : ByteArray) : (caseS s).size = s.size := by
  have h : (caseS s).size = (joinS (splS s)).size := joinS_size_eq _ _ (size_caseL _ _ _)
  rw [h, join_split]
theorem ex_case1 : caseS ⟨#[83, 71, 78, 45, 98, 101, 45, 70, 82]⟩ = ⟨#[115, 103, 110, 45, 66, 69, 45, 70, 82]⟩ := by decide +kernel
theorem ex_case2 : caseS ⟨#[101, 110, 45, 99, 97, 45, 88, 45, 67, 65, 45, 108, 97, 116, 110]⟩ = ⟨#[101, 110, 45, 67, 65, 45, 120, 45, 99, 97, 45, 108, 97, 116, 110]⟩ := by decide +kernel
theorem ex_case3 : caseS ⟨#[65, 90, 45, 76, 65, 84, 78, 45, 97, 122]⟩ = ⟨#[97, 122, 45, 76, 97, 116, 110, 45, 65, 90]⟩ := by decide +kernel
end Go.Proofs.Ytpnhjpplfjamkaa
