/-
  Package render, in plain words: the cases of a text's pieces, as lists. (No walk here.)
-/
import Derived.Test.YtggfdmhfcpabdaaPieceR
namespace Go.Proofs.Ytggfdmhfcpabdaa
open Go Go.RowKit

/-- Has a piece just one byte? -/
def oneB (p : ByteArray) : Bool := decide (p.size = 1)
def turnS (plain : Bool) (p : ByteArray) : ByteArray := if plain = true then lowS p else if p.size = 2 then upS p else if p.size = 4 then titleS p else lowS p
def caseL : Bool → Bool → List ByteArray → List ByteArray
  | _, _, [] => []
  | f, g, p :: r => turnS (f || (g || oneB p)) p :: caseL false (g || oneB p) r
def caseT (l : List ByteArray) : List ByteArray := caseL true false l
def caseS (s : ByteArray) : ByteArray := joinS (caseT (splS s))

theorem caseL_length (l : List ByteArray) : ∀ f g, (caseL f g l).length = l.length := by
  induction l with
  | nil => intros; rfl
  | cons p r ih => intro f g; simp [caseL, ih]
theorem caseT_length (l : List ByteArray) : (caseT l).length = l.length := caseL_length _ _ _
theorem size_turnS (b : Bool) (p : ByteArray) : (turnS b p).size = p.size := by
  unfold turnS; split
  · exact size_lowS p
  · split
    · exact size_upS p
    · split
      · exact size_titleS p
      · exact size_lowS p
theorem low_turnS (b : Bool) (p : ByteArray) : lowS (turnS b p) = lowS p := by
  unfold turnS; split
  · exact low_lowS p
  · split
    · exact low_upS p
    · split
      · exact low_titleS p
      · exact low_lowS p
theorem up_upS (s : ByteArray) : upS (upS s) = upS s := by simp [upS, bs_ofL, Function.comp_def, up_up]
theorem title_upS (s : ByteArray) : titleS (upS s) = titleS s := by
  unfold titleS upS; rw [bs_ofL]
  cases bs s <;> simp [titleL, up_up, Function.comp_def, low_up]
theorem title_lowS (s : ByteArray) : titleS (lowS s) = titleS s := by
  unfold titleS lowS; rw [bs_ofL]
  cases bs s <;> simp [titleL, up_low, Function.comp_def, low_low]
theorem turn_turnS (b : Bool) (p : ByteArray) : turnS b (turnS b p) = turnS b p := by
  unfold turnS
  cases b with
  | true => simp [low_lowS]
  | false =>
    by_cases h2 : p.size = 2
    · simp [h2, size_upS, up_upS]
    · by_cases h4 : p.size = 4
      · simp [h4, size_titleS, title_titleS]
      · simp [h2, h4, size_lowS, low_lowS]
theorem turn_upS (b : Bool) (p : ByteArray) : turnS b (upS p) = turnS b p := by
  unfold turnS
  rw [low_upS, size_upS, up_upS, title_upS]
theorem turn_lowS (b : Bool) (p : ByteArray) : turnS b (lowS p) = turnS b p := by
  unfold turnS
  rw [low_lowS, size_lowS, up_lowS, title_lowS]
theorem oneB_turn (b : Bool) (p : ByteArray) : oneB (turnS b p) = oneB p := by unfold oneB; rw [size_turnS]
theorem oneB_up (p : ByteArray) : oneB (upS p) = oneB p := by unfold oneB; rw [size_upS]
theorem caseL_case (l : List ByteArray) : ∀ f g, caseL f g (caseL f g l) = caseL f g l := by
  induction l with
  | nil => intros; rfl
  | cons p r ih => intro f g; simp only [caseL, oneB_turn, turn_turnS, ih]
theorem caseL_up (l : List ByteArray) : ∀ f g, caseL f g (l.map upS) = caseL f g l := by
  induction l with
  | nil => intros; rfl
  | cons p r ih => intro f g; simp only [caseL, List.map_cons, oneB_up, turn_upS, ih]
theorem low_caseL (l : List ByteArray) : ∀ f g, (caseL f g l).map lowS = l.map lowS := by
  induction l with
  | nil => intros; rfl
  | cons p r ih => intro f g; simp only [caseL, List.map_cons, low_turnS, ih]
theorem size_caseL (l : List ByteArray) : ∀ f g, (caseL f g l).map ByteArray.size = l.map ByteArray.size := by
  induction l with
  | nil => intros; rfl
  | cons p r ih => intro f g; simp only [caseL, List.map_cons, size_turnS, ih]
/-- Behind a piece of one byte all is small. -/
theorem caseL_single (l : List ByteArray) : ∀ f, caseL f true l = l.map lowS := by
  induction l with
  | nil => intros; rfl
  | cons p r ih => intro f; simp only [caseL, List.map_cons, Bool.true_or, Bool.or_true, ih]; simp [turnS]
def sglL (l : List ByteArray) : Bool := l.any oneB
theorem caseL_append (a b : List ByteArray) : ∀ f g, caseL f g (a ++ b) = caseL f g a ++ caseL (f && a.isEmpty) (g || sglL a) b := by
  induction a with
  | nil => intro f g; simp [caseL, sglL]
  | cons p r ih => intro f g; simp [caseL, ih, sglL, Bool.or_assoc]
/-- One piece more. -/
theorem caseT_snoc (l : List ByteArray) (p : ByteArray) : caseT (l ++ [p]) = caseT l ++ [turnS (l.isEmpty || (sglL l || oneB p)) p] := by
  unfold caseT
  rw [caseL_append]
  simp [caseL]
theorem sglL_snoc (l : List ByteArray) (p : ByteArray) : sglL (l ++ [p]) = (sglL l || oneB p) := by simp [sglL]

/-! Bytes of marks stay. -/
theorem dash_lowB : ∀ c : UInt8, (lowB c = 45 ↔ c = 45) := by
  intro c
  have h : ∀ c : UInt8, (decide (lowB c = 45) = decide (c = 45)) := byte_all _ (by decide +kernel)
  simpa using h c
theorem dash_upB : ∀ c : UInt8, (upB c = 45 ↔ c = 45) := by
  intro c
  have h : ∀ c : UInt8, (decide (upB c = 45) = decide (c = 45)) := byte_all _ (by decide +kernel)
  simpa using h c
theorem dash_low {p : ByteArray} (h : (45 : UInt8) ∉ bs p) : (45 : UInt8) ∉ bs (lowS p) := by
  unfold lowS; rw [bs_ofL]
  intro hm
  obtain ⟨c, hc, e⟩ := List.mem_map.1 hm
  exact h ((dash_lowB c).1 e ▸ hc)
theorem dash_up {p : ByteArray} (h : (45 : UInt8) ∉ bs p) : (45 : UInt8) ∉ bs (upS p) := by
  unfold upS; rw [bs_ofL]
  intro hm
  obtain ⟨c, hc, e⟩ := List.mem_map.1 hm
  exact h ((dash_upB c).1 e ▸ hc)
theorem dash_title {p : ByteArray} (h : (45 : UInt8) ∉ bs p) : (45 : UInt8) ∉ bs (titleS p) := by
  unfold titleS; rw [bs_ofL]
  cases hb : bs p with
  | nil => simp [titleL]
  | cons c r =>
    rw [hb, List.mem_cons, not_or] at h
    simp only [titleL, List.mem_cons, not_or]
    refine ⟨fun e => h.1 ((dash_upB c).1 e.symm).symm, fun hm => ?_⟩
    obtain ⟨d, hd, e⟩ := List.mem_map.1 hm
    exact h.2 ((dash_lowB d).1 e ▸ hd)
theorem dash_turn {p : ByteArray} (b : Bool) (h : (45 : UInt8) ∉ bs p) : (45 : UInt8) ∉ bs (turnS b p) := by
  unfold turnS; split
  · exact dash_low h
  · split
    · exact dash_up h
    · split
      · exact dash_title h
      · exact dash_low h
theorem dash_caseL {l : List ByteArray} : ∀ f g, (∀ p ∈ l, (45 : UInt8) ∉ bs p) → ∀ p ∈ caseL f g l, (45 : UInt8) ∉ bs p := by
  induction l with
  | nil => intro f g _ p hp; simp [caseL] at hp
  | cons q r ih =>
    intro f g h p hp
    simp only [caseL, List.mem_cons] at hp
    rcases hp with rfl | hp
    · exact dash_turn _ (h q (by simp))
    · exact ih _ _ (fun x hx => h x (List.mem_cons_of_mem _ hx)) p hp

/-- What is joined of pieces is split to them. -/
theorem splS_joinS {l : List ByteArray} (h0 : l ≠ []) (h : ∀ p ∈ l, (45 : UInt8) ∉ bs p) : splS (joinS l) = l := by
  unfold splS joinS
  rw [bs_ofL, spl_joinP (by simpa using h0) (fun p hp => by obtain ⟨q, hq, rfl⟩ := List.mem_map.1 hp; exact h q hq), List.map_map]
  conv => rhs; rw [← List.map_id l]
  exact List.map_congr_left (fun x _ => ofL_bs x)
theorem splS_ne (s : ByteArray) : splS s ≠ [] := List.length_pos_iff.1 (splS_pos s)
theorem splS_dash (s : ByteArray) : ∀ p ∈ splS s, (45 : UInt8) ∉ bs p := by
  intro p hp
  unfold splS at hp
  obtain ⟨q, hq, rfl⟩ := List.mem_map.1 hp
  rw [bs_ofL]; exact spl_mem _ q hq
theorem caseT_ne {l : List ByteArray} (h : l ≠ []) : caseT l ≠ [] := by
  rw [← List.length_pos_iff, caseT_length]; exact List.length_pos_iff.2 h
theorem splS_case (s : ByteArray) : splS (caseS s) = caseT (splS s) := splS_joinS (caseT_ne (splS_ne s)) (dash_caseL _ _ (splS_dash s))
theorem case_caseS (s : ByteArray) : caseS (caseS s) = caseS s := by
  show joinS (caseT (splS (caseS s))) = caseS s
  rw [splS_case]
  show joinS (caseL true false (caseL true false _)) = _
  rw [caseL_case]; rfl

/-! Joined, then turned. -/
theorem joinP_map (f : UInt8 → UInt8) (hf : f 45 = 45) : ∀ l : List (List UInt8), joinP (l.map (·.map f)) = (joinP l).map f
  | [] => rfl
  | [p] => by simp [joinP_one]
  | p :: q :: r => by
    have ih := joinP_map f hf (q :: r)
    rw [List.map_cons, joinP_cons (p.map f) (ps := (q :: r).map (·.map f)) (by simp), ih, joinP_cons p (ps := q :: r) (by simp)]
    simp [hf]
theorem joinS_low (l : List ByteArray) : joinS (l.map lowS) = lowS (joinS l) := by
  unfold joinS lowS
  rw [bs_ofL, ← joinP_map lowB rfl, List.map_map, List.map_map]
  congr 2
theorem joinS_up (l : List ByteArray) : joinS (l.map upS) = upS (joinS l) := by
  unfold joinS upS
  rw [bs_ofL, ← joinP_map upB rfl, List.map_map, List.map_map]
  congr 2
theorem low_caseS (s : ByteArray) : lowS (caseS s) = lowS s := by
  unfold caseS
  rw [← joinS_low]
  unfold caseT
  rw [low_caseL, joinS_low, join_split]
theorem splS_up (s : ByteArray) : splS (upS s) = (splS s).map upS := by
  have h : joinS ((splS s).map upS) = upS s := by rw [joinS_up, join_split]
  rw [← h]
  exact splS_joinS (by simpa using splS_ne s) (fun p hp => by obtain ⟨q, hq, rfl⟩ := List.mem_map.1 hp; exact dash_up (splS_dash s q hq))
theorem splS_low (s : ByteArray) : splS (lowS s) = (splS s).map lowS := by
  have h : joinS ((splS s).map lowS) = lowS s := by rw [joinS_low, join_split]
  rw [← h]
  exact splS_joinS (by simpa using splS_ne s) (fun p hp => by obtain ⟨q, hq, rfl⟩ := List.mem_map.1 hp; exact dash_low (splS_dash s q hq))
theorem case_upS (s : ByteArray) : caseS (upS s) = caseS s := by
  unfold caseS
  rw [splS_up]
  show joinS (caseL true false _) = _
  rw [caseL_up]; rfl
theorem joinP_size_eq : ∀ (a b : List (List UInt8)), a.map List.length = b.map List.length → (joinP a).length = (joinP b).length
  | [], [], _ => rfl
  | [], _ :: _, h => by simp at h
  | _ :: _, [], h => by simp at h
  | [p], [q], h => by simp at h; simp [joinP_one, h]
  | [p], q :: x :: r, h => by simp at h
  | p :: x :: r, [q], h => by simp at h
  | p :: x :: r, q :: y :: t, h => by
    simp only [List.map_cons, List.cons.injEq] at h
    have ih := joinP_size_eq (x :: r) (y :: t) (by simp [h.2.1, h.2.2])
    rw [joinP_cons p (ps := x :: r) (by simp), joinP_cons q (ps := y :: t) (by simp), List.length_append, List.length_append, List.length_cons, List.length_cons, h.1, ih]
theorem joinS_size_eq (a b : List ByteArray) (h : a.map ByteArray.size = b.map ByteArray.size) : (joinS a).size = (joinS b).size := by
  unfold joinS
  rw [size_ofL, size_ofL]
  refine joinP_size_eq _ _ ?_
  rw [List.map_map, List.map_map]
  simpa [Function.comp_def, size_bs] using h
theorem size_caseS (s : ByteArray) : (caseS s).size = s.size := by
  have h : (caseS s).size = (joinS (splS s)).size := joinS_size_eq _ _ (size_caseL _ _ _)
  rw [h, join_split]
theorem joinP_app : ∀ {a b : List (List UInt8)}, a ≠ [] → b ≠ [] → joinP (a ++ b) = joinP a ++ 45 :: joinP b
  | [], _, h, _ => absurd rfl h
  | [p], b, _, hb => by rw [List.cons_append, List.nil_append, joinP_cons p hb, joinP_one]
  | p :: q :: r, b, _, hb => by
    rw [List.cons_append, joinP_cons p (ps := (q :: r) ++ b) (by simp), joinP_app (a := q :: r) (by simp) hb, joinP_cons p (ps := q :: r) (by simp)]
    simp
theorem joinS_app {a b : List ByteArray} (ha : a ≠ []) (hb : b ≠ []) : joinS (a ++ b) = joinS a ++ ⟨#[45]⟩ ++ joinS b := by
  apply ofL_ext
  unfold joinS
  rw [bs_glue, bs_ofL, bs_ofL, bs_ofL, List.map_append, joinP_app (by simpa using ha) (by simpa using hb)]
/-- What stands behind a piece of one byte. -/
theorem case_behind (a b : ByteArray) (c : UInt8) (hc : c ≠ 45) : caseS (a ++ ⟨#[45]⟩ ++ ⟨#[c]⟩ ++ ⟨#[45]⟩ ++ b) = caseS a ++ ⟨#[45]⟩ ++ lowS (⟨#[c]⟩ ++ ⟨#[45]⟩ ++ b) := by
  have h1 : splS ⟨#[c]⟩ = [⟨#[c]⟩] := by
    unfold splS
    rw [spl_plain (show (45 : UInt8) ∉ bs ⟨#[c]⟩ by simpa [bs] using fun e => hc e.symm)]
    rfl
  have h2 : splS (a ++ ⟨#[45]⟩ ++ ⟨#[c]⟩ ++ ⟨#[45]⟩ ++ b) = splS a ++ ([⟨#[c]⟩] ++ splS b) := by
    rw [splS_glue, splS_glue, h1, List.append_assoc]
  unfold caseS
  rw [h2]
  unfold caseT
  rw [caseL_append]
  have h3 : caseL (true && (splS a).isEmpty) (false || sglL (splS a)) ([⟨#[c]⟩] ++ splS b) = ([(⟨#[c]⟩ : ByteArray)] ++ splS b).map lowS := by
    have hz : oneB ⟨#[c]⟩ = true := rfl
    simp only [List.cons_append, List.nil_append, caseL, List.map_cons, hz, Bool.or_true, caseL_single]
    simp [turnS]
  rw [h3, joinS_app (a := caseL true false (splS a)) (caseT_ne (splS_ne a)) (by simp), joinS_low, joinS_app (by simp) (splS_ne b), join_single, join_split]
theorem case_one (b : ByteArray) (c : UInt8) (hc : c ≠ 45) : caseS (⟨#[c]⟩ ++ ⟨#[45]⟩ ++ b) = lowS (⟨#[c]⟩ ++ ⟨#[45]⟩ ++ b) := by
  have h1 : splS ⟨#[c]⟩ = [⟨#[c]⟩] := by
    unfold splS
    rw [spl_plain (show (45 : UInt8) ∉ bs ⟨#[c]⟩ by simpa [bs] using fun e => hc e.symm)]
    rfl
  unfold caseS
  rw [splS_glue, h1]
  have hz : oneB ⟨#[c]⟩ = true := rfl
  have h3 : caseT ([⟨#[c]⟩] ++ splS b) = ([(⟨#[c]⟩ : ByteArray)] ++ splS b).map lowS := by
    unfold caseT
    simp only [List.cons_append, List.nil_append, caseL, List.map_cons, hz, Bool.or_true, caseL_single]
    simp [turnS]
  rw [h3, joinS_low, joinS_app (by simp) (splS_ne b), join_single, join_split]

theorem ex_case1 : caseS ⟨#[83, 71, 78, 45, 98, 101, 45, 70, 82]⟩ = ⟨#[115, 103, 110, 45, 66, 69, 45, 70, 82]⟩ := by decide +kernel
theorem ex_case2 : caseS ⟨#[101, 110, 45, 99, 97, 45, 88, 45, 67, 65, 45, 108, 97, 116, 110]⟩ = ⟨#[101, 110, 45, 67, 65, 45, 120, 45, 99, 97, 45, 108, 97, 116, 110]⟩ := by decide +kernel
theorem ex_case3 : caseS ⟨#[65, 90, 45, 76, 65, 84, 78, 45, 97, 122]⟩ = ⟨#[97, 122, 45, 76, 97, 116, 110, 45, 65, 90]⟩ := by decide +kernel
end Go.Proofs.Ytggfdmhfcpabdaa
