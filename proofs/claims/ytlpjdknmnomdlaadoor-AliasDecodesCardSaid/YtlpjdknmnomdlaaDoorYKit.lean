/-
  Layer 12's statements: the chapter's example, rest, short, few; what is made by numbers.
-/
import Derived.Test.YtlpjdknmnomdlaaDoorYMade
import Derived.Test.YtlpjdknmnomdlaaDoorYCmp
import Derived.Test.YtlpjdknmnomdlaaDoorEKit
namespace Go.Proofs.YtlpjdknmnomdlaaDoor
open Go Go.RowKit

/-! The chapter's example. -/
def exA : Al := ⟨3, ⟨#[105, 119]⟩, ⟨#[]⟩, ⟨#[104, 101]⟩, ⟨#[]⟩, ⟨#[]⟩⟩
theorem exA_right : rightA exA = true := by decide +kernel
theorem exA_nine : (rowB exA).extract 0 9 = ⟨#[3, 105, 119, 0, 0, 0, 0, 0, 0]⟩ := by decide +kernel
theorem exA_two : (rowB exA).extract 17 19 = ⟨#[104, 101]⟩ := by decide +kernel
set_option maxRecDepth 100000 in
set_option maxHeartbeats 1000000 in
theorem awake12_any (w : World) (hg : GL w) :
    Calls Tryd.prog 4 #[] w fun e w' => e = .returned (.bool true) ∧ Below w.heap.size w w' := by
  obtain ⟨row, hrow⟩ : ∃ row, rowB exA = row := ⟨_, rfl⟩
  have hsz : row.size = 41 := by rw [← hrow]; exact size_rowB _
  have h9 := exA_nine
  have h2 := exA_two
  rw [hrow] at h9 h2
  have HE := Lib.hid (fun w' (hg : GL w') => show Calls Tryd.prog 9 #[.agg #[.int .i64 3, .string ⟨#[105, 119]⟩, .string ⟨#[]⟩, .string ⟨#[104, 101]⟩, .string ⟨#[]⟩, .string ⟨#[]⟩]] w' fun e w'' => e = .returned (.tuple #[.string row, .bool true]) ∧ Below w'.heap.size w' w'' from by
    have h := encode_al exA w' ⟨by decide, by decide, by decide, by decide, by decide, by decide⟩ hg
    rw [show encS exA = row by unfold encS; rw [if_pos exA_right, hrow], exA_right] at h
    exact h)
  have hl : (9 : Int) ≤ (row.size : Int) := by omega
  have hl2 : (19 : Int) ≤ (row.size : Int) := by omega
  have hl3 : ((row.size : Int) == 41) = true := by rw [hsz]; rfl
  have HG := Lib.hid hg
  clear hrow hg
  go_enter Tryd.func4, Tryd.ntmps4
  go_wp2_with (go_at_call 9; (with_reducible refine (HE.out _ HG.out).mono ?_); rintro e w5 ⟨rfl, hb5⟩)
  go_ret
  exact ⟨rfl, by assumption⟩

set_option maxRecDepth 100000 in
theorem rest12_any (x : Int) (n : Nat) (w : World) (hn : 1 ≤ n) (hn2 : n ≤ 100) :
    Calls Tryd.prog 7 #[.int .i64 x, .int .i64 (n : Int)] w fun e w' => e = .returned (.int .i64 (restV x n : Int)) ∧ w = w' := by
  have HE := Lib.hid (rest_num x n hn hn2)
  have h0 : ((n : Int) == 0) = false := by rw [beq_eq_false_iff_ne]; omega
  have h1 : (n : Int) ≠ 0 := by omega
  clear hn hn2
  generalize (n : Int) = m at *
  go_enter Tryd.func7, Tryd.ntmps7
  go_wp2
  go_ret
  exact ⟨ret_int HE.out, rfl⟩
theorem rest12_5 (x : Int) (w : World) : Calls Tryd.prog 7 #[.int .i64 x, .int .i64 5] w fun e w' => e = .returned (.int .i64 (restV x 5 : Int)) ∧ w = w' := rest12_any x 5 w (by decide) (by decide)
theorem rest12_9 (x : Int) (w : World) : Calls Tryd.prog 7 #[.int .i64 x, .int .i64 9] w fun e w' => e = .returned (.int .i64 (restV x 9 : Int)) ∧ w = w' := rest12_any x 9 w (by decide) (by decide)
theorem rest12_41 (x : Int) (w : World) : Calls Tryd.prog 7 #[.int .i64 x, .int .i64 41] w fun e w' => e = .returned (.int .i64 (restV x 41 : Int)) ∧ w = w' := rest12_any x 41 w (by decide) (by decide)

def cut10 (s : ByteArray) : ByteArray := if 10 < s.size then s.extract 0 10 else s
theorem size_cut10 (s : ByteArray) : (cut10 s).size ≤ 10 := by
  unfold cut10
  split
  · rw [ByteArray.size_extract]; omega
  · omega
/-! few. -/
def fewA (x : Al) : Al := ⟨x.k, cut10 x.a, cut10 x.b, cut10 x.l, cut10 x.s, cut10 x.r⟩
structure AlL (x : Al) : Prop where
  k : (Lit.int .i64 x.k).wf = true
  a : x.a.size ≤ maxLen
  b : x.b.size ≤ maxLen
  l : x.l.size ≤ maxLen
  s : x.s.size ≤ maxLen
  r : x.r.size ≤ maxLen
theorem few_small {x : Al} (h : AlL x) : AlS (fewA x) := ⟨h.k, Nat.le_trans (size_cut10 _) (by decide), Nat.le_trans (size_cut10 _) (by decide), Nat.le_trans (size_cut10 _) (by decide), Nat.le_trans (size_cut10 _) (by decide), Nat.le_trans (size_cut10 _) (by decide)⟩
/-! What is made by numbers. -/
def sml (n : Nat) (x : Al) : Prop := x.a.size ≤ n ∧ x.b.size ≤ n ∧ x.l.size ≤ n ∧ x.s.size ≤ n ∧ x.r.size ≤ n
theorem base_sml (S : Sd) (k : Nat) (hk : k < 7) : sml 20 (baseA S k) ∧ (baseA S k).k = k + 1 := by
  have e0 : (0 : Nat) ≤ 20 := by decide
  have e2 : (numT (pickY 26 S.a)).size ≤ 20 := (show (2 : Nat) ≤ 20 by decide)
  have h7 : k = 0 ∨ k = 1 ∨ k = 2 ∨ k = 3 ∨ k = 4 ∨ k = 5 ∨ k = 6 := by omega
  rcases h7 with rfl | rfl | rfl | rfl | rfl | rfl | rfl
  · exact ⟨⟨e2, e0, pickS_size (by decide) (by decide), pickS_size (by decide) (by decide), pickS_size (by decide) (by decide)⟩, rfl⟩
  · exact ⟨⟨pickS_size (by decide) (by decide), pickS_size (by decide) (by decide), pickS_size (by decide) (by decide), e0, e0⟩, rfl⟩
  · exact ⟨⟨pickS_size (by decide) (by decide), e0, pickS_size (by decide) (by decide), pickS_size (by decide) (by decide), pickS_size (by decide) (by decide)⟩, rfl⟩
  · exact ⟨⟨pickS_size (by decide) (by decide), e0, e0, pickS_size (by decide) (by decide), e0⟩, rfl⟩
  · exact ⟨⟨pickS_size (by decide) (by decide), e0, e0, e0, pickS_size (by decide) (by decide)⟩, rfl⟩
  · exact ⟨⟨pickS_size (by decide) (by decide), e0, pickS_size (by decide) (by decide), e0, e0⟩, rfl⟩
  · exact ⟨⟨pickS_size (by decide) (by decide), pickS_size (by decide) (by decide), pickS_size (by decide) (by decide), e0, e0⟩, rfl⟩
theorem spoilt_sml {x : Al} (h : sml 20 x) (n : Nat) : sml 21 (spoiltA x n) ∧ ((spoiltA x n).k = x.k ∨ (spoiltA x n).k = 8) := by
  obtain ⟨h1, h2, h3, h4, h5⟩ := h
  have e0 : (0 : Nat) ≤ 21 := by decide
  have e9 : (9 : Nat) ≤ 21 := by decide
  unfold spoiltA
  split
  · exact ⟨⟨by show (titleS x.a).size ≤ 21; rw [size_titleS]; omega, by show x.b.size ≤ 21; omega, by show x.l.size ≤ 21; omega, by show x.s.size ≤ 21; omega, by show x.r.size ≤ 21; omega⟩, .inl rfl⟩
  · exact ⟨⟨by show x.a.size ≤ 21; omega, by show (x.b ++ (⟨#[120]⟩ : ByteArray)).size ≤ 21; rw [ByteArray.size_append]; have : (⟨#[120]⟩ : ByteArray).size = 1 := rfl; omega, by show x.l.size ≤ 21; omega, by show x.s.size ≤ 21; omega, by show x.r.size ≤ 21; omega⟩, .inl rfl⟩
  · exact ⟨⟨by show x.a.size ≤ 21; omega, by show x.b.size ≤ 21; omega, e0, e0, e0⟩, .inl rfl⟩
  · exact ⟨⟨by show x.a.size ≤ 21; omega, by show x.b.size ≤ 21; omega, by show x.l.size ≤ 21; omega, by show x.s.size ≤ 21; omega, by show x.r.size ≤ 21; omega⟩, .inr rfl⟩
  · exact ⟨⟨by show x.a.size ≤ 21; omega, by show x.b.size ≤ 21; omega, e9, by show x.s.size ≤ 21; omega, by show x.r.size ≤ 21; omega⟩, .inl rfl⟩
  · exact ⟨⟨by show x.a.size ≤ 21; omega, by show x.b.size ≤ 21; omega, pickS_size (by decide) (by decide), by show x.s.size ≤ 21; omega, by show x.r.size ≤ 21; omega⟩, .inl rfl⟩
  · exact ⟨⟨by omega, by omega, by omega, by omega, by omega⟩, .inl rfl⟩
theorem made_sml (S : Sd) : sml 21 (madeA S) ∧ 1 ≤ (madeA S).k ∧ (madeA S).k ≤ 8 := by
  have hk := (pickY_facts 7 S.kind (by decide)).2.2.2
  obtain ⟨h1, h2⟩ := base_sml S _ hk
  obtain ⟨h3, h4⟩ := spoilt_sml h1 (pickY 9 S.odd)
  refine ⟨h3, ?_⟩
  unfold madeA
  omega
theorem wf_few {k : Int} (h : 0 ≤ k ∧ k ≤ 1000) : (Lit.int .i64 k).wf = true := by
  unfold Lit.wf
  rw [Bool.and_eq_true, decide_eq_true_iff, decide_eq_true_iff]
  have h1 : IntKind.min .i64 = -9223372036854775808 := by decide
  have h2 : IntKind.max .i64 = 9223372036854775807 := by decide
  omega
theorem made_small (S : Sd) : AlS (madeA S) := by
  obtain ⟨⟨h1, h2, h3, h4, h5⟩, h6, h7⟩ := made_sml S
  exact ⟨wf_few ⟨by omega, by omega⟩, by omega, by omega, by omega, by omega, by omega⟩

theorem made_zero (S : Sd) (h : S.odd = 0) : madeA S = baseA S (pickY 7 S.kind) := by
  unfold madeA
  rw [h]
  rfl
theorem pick_all {l : List ByteArray} {n : Int} {p : ByteArray → Bool} (h0 : 0 < l.length) (h : l.all (fun t => p t && smallS t) = true) : (p (pickS l n) && smallS (pickS l n)) = true := List.all_eq_true.1 h _ (pickS_mem l n h0)
theorem num_right (m : Nat) (h : m < 26) : (numberS (numT m) && smallS (numT m)) = true := by
  have : ∀ k : Fin 26, (numberS (numT k.val) && smallS (numT k.val)) = true := by decide +kernel
  exact this ⟨m, h⟩
theorem empty_right : (noneS ⟨#[]⟩ && smallS ⟨#[]⟩) = true := by decide
theorem maybe_none {p : ByteArray → Bool} : (maybeS p ⟨#[]⟩ && smallS ⟨#[]⟩) = true := by
  unfold maybeS; rw [show noneS ⟨#[]⟩ = true from rfl, Bool.true_or, small_empty]; rfl
theorem base_right (S : Sd) (k : Nat) (hk : k < 7) : rightA (baseA S k) = true := by
  obtain ⟨_, hkk⟩ := base_sml S k hk
  have hk1 : (baseA S k).k.toNat = k + 1 := by rw [hkk]; omega
  unfold rightA
  rw [hk1, decide_eq_true (by rw [hkk]; omega), Bool.true_and]
  have hm := (pickY_facts 26 S.a (by decide)).2.2.2
  have h7 : k = 0 ∨ k = 1 ∨ k = 2 ∨ k = 3 ∨ k = 4 ∨ k = 5 ∨ k = 6 := by omega
  have mk : ∀ (f : Fv) (x : Al), (f.f1 x.a && smallS x.a) = true → (f.f2 x.b && smallS x.b) = true → (f.f3 x.l && smallS x.l) = true → (f.f4 x.s && smallS x.s) = true → (f.f5 x.r && smallS x.r) = true → mustA f x = true := fun f x h1 h2 h3 h4 h5 => by
    unfold mustA; rw [h1, h2, h3, h4, h5]; rfl
  rcases h7 with rfl | rfl | rfl | rfl | rfl | rfl | rfl
  · exact mk (fvs 1) _ (num_right _ hm) empty_right (pick_all (by decide) (by decide +kernel)) (pick_all (by decide) (by decide +kernel)) (pick_all (by decide) (by decide +kernel))
  · exact mk (fvs 2) _ (pick_all (by decide) (by decide +kernel)) (pick_all (by decide) (by decide +kernel)) (pick_all (by decide) (by decide +kernel)) empty_right empty_right
  · exact mk (fvs 3) _ (pick_all (by decide) (by decide +kernel)) empty_right (pick_all (by decide) (by decide +kernel)) (pick_all (by decide) (by decide +kernel)) (pick_all (by decide) (by decide +kernel))
  · exact mk (fvs 4) _ (pick_all (by decide) (by decide +kernel)) empty_right empty_right (pick_all (by decide) (by decide +kernel)) empty_right
  · exact mk (fvs 5) _ (pick_all (by decide) (by decide +kernel)) empty_right empty_right empty_right (pick_all (by decide) (by decide +kernel))
  · exact mk (fvs 6) _ (pick_all (by decide) (by decide +kernel)) empty_right (pick_all (by decide) (by decide +kernel)) empty_right empty_right
  · exact mk (fvs 7) _ (pick_all (by decide) (by decide +kernel)) (pick_all (by decide) (by decide +kernel)) (pick_all (by decide) (by decide +kernel)) empty_right empty_right
end Go.Proofs.YtlpjdknmnomdlaaDoor
