/-
  The statements' own numerals; Unwrap; Error of no fault.
-/
import Derived.Test.YtbpihlndojnlcaaDoorError
namespace Go.Proofs.YtbpihlndojnlcaaDoor
open Go Go.RowKit

theorem error_nil (w : World) :
    Calls Tryd.prog 22 #[.pointer none] w fun e w' => e = .returned (.string ⟨#[110, 111, 110, 101]⟩) ∧ Below w.heap.size w w' := by
  refine callsIn_wide (n := 0) |>.1 ?_
  refine callsIn_of_wp_marks Tryd.func22 rfl trivial ?_ rfl
  simp only [Tryd.ntmps22, List.size_toArray, List.length_cons, List.length_nil, Nat.reduceAdd, Nat.reduceSub, Array.replicate_succ, Array.replicate_zero, List.push_toArray, List.append_toArray, List.nil_append, List.cons_append]
  gi_wp2
  refine ⟨_, by simp [results, Tryd.results22, go_sem], rfl, ?_⟩
  exact ((Below.refl _ w).alloc (Nat.le_refl _) _).alloc (by simp) _

/-- The numeral as Digits lays it: what is laid, what is left. -/
def DgI (n : Int) (t : List UInt8) (j : Int) : Prop :=
  (-9223372036854775808 ≤ j ∧ j ≤ 9223372036854775807) ∧ ((j = 0 ∧ t = Lib.decDigits n.natAbs) ∨ ((j ≠ 0 ∨ t = []) ∧ Lib.decDigits j.natAbs ++ t = Lib.decDigits n.natAbs))
def dgM (s k : Value) : Nat := (intOf k).natAbs + (match s with | .string b => if b.size = 0 then 1 else 0 | _ => 0)

theorem natAbs_tdiv10 (j : Int) : (j.tdiv 10).natAbs = j.natAbs / 10 := by
  rcases Int.natAbs_eq j with h | h
  · rw [h]; simp [Int.tdiv]; omega
  · rw [h, Int.neg_tdiv]; simp; omega
theorem tmod10 (j : Int) : ∃ d : Nat, d < 10 ∧ d = j.natAbs % 10 ∧ (0 ≤ j → j.tmod 10 = (d : Int)) ∧ (j < 0 → j.tmod 10 = -(d : Int)) := by
  refine ⟨j.natAbs % 10, Nat.mod_lt _ (by decide), rfl, fun h => ?_, fun h => ?_⟩
  · rw [Int.tmod_eq_emod_of_nonneg h]; omega
  · have : j = -((j.natAbs : Nat) : Int) := by omega
    rw [this, Int.neg_tmod, Int.tmod_eq_emod_of_nonneg (by omega)]
    omega
theorem DgI.step {n : Int} {t : List UInt8} {j : Int} {d : Nat} {c : UInt8} (h : DgI n t j) (hc : j ≠ 0 ∨ t = []) (hd : d = j.natAbs % 10) (hcc : UInt8.ofNat (48 + d) = c) : DgI n (c :: t) (j.tdiv 10) := by
  subst hcc
  obtain ⟨⟨h0, h1⟩, h2⟩ := h
  have hq := natAbs_tdiv10 j
  have he : Lib.decDigits j.natAbs ++ t = Lib.decDigits n.natAbs := by
    rcases h2 with ⟨rfl, rfl⟩ | ⟨_, h⟩
    · rcases hc with hc | hc
      · exact absurd rfl hc
      · exfalso; rw [Lib.decDigits] at hc; split at hc <;> simp at hc
    · exact h
  refine ⟨⟨by omega, by omega⟩, ?_⟩
  by_cases hb : j.natAbs < 10
  · left
    refine ⟨by omega, ?_⟩
    rw [Lib.decDigits, dif_pos hb] at he
    rw [← he, hd, Nat.mod_eq_of_lt hb]
    rfl
  · right
    refine ⟨.inl (by omega), ?_⟩
    rw [Lib.decDigits, dif_neg hb] at he
    rw [← he, hq, hd]
    simp
theorem DgI.len {n : Int} {t : List UInt8} {j : Int} (h : DgI n t j) (h0 : -9223372036854775808 ≤ n) (h1 : n ≤ 9223372036854775807) : t.length ≤ 20 := by
  have hn : (Lib.decDigits n.natAbs).length ≤ 20 := by rw [Lib.decDigits_length]; exact Lib.nDigits_le20 _ (by omega)
  rcases h.2 with ⟨_, rfl⟩ | ⟨_, h⟩
  · exact hn
  · have := congrArg List.length h
    simp only [List.length_append] at this
    omega
theorem DgI.fin {n : Int} {c : UInt8} {t : List UInt8} (h : DgI n (c :: t) 0) : c :: t = Lib.decDigits n.natAbs := by
  rcases h.2 with ⟨_, h⟩ | ⟨h, _⟩
  · exact h
  · simp at h
theorem dgM_step {t : List UInt8} {j : Int} (c : UInt8) (hc : j ≠ 0 ∨ t = []) : dgM (.string ⟨(c :: t).toArray⟩) (.int .i64 (j.tdiv 10)) < dgM (.string ⟨t.toArray⟩) (.int .i64 j) := by
  have hq := natAbs_tdiv10 j
  have h1 : (⟨(c :: t).toArray⟩ : ByteArray).size ≠ 0 := by show (c :: t).toArray.size ≠ 0; simp
  simp only [dgM, intOf, h1, if_false]
  rcases hc with hc | rfl
  · omega
  · have : (⟨([] : List UInt8).toArray⟩ : ByteArray).size = 0 := rfl
    simp only [this, if_true]; omega
theorem dg_conv (w : World) (d : Nat) (x : Int) (c : UInt8) (hd : d < 10) (hcc : UInt8.ofNat (48 + d) = c) (hx : x = ((48 + d : Nat) : Int)) :
    (convert 63 9 (.slice (some ⟨w.heap.size, 0, none⟩) 1 1)).run Tryd.prog (w.alloc (.cells #[.int .u8 x] 5)) = .ok (.string ⟨#[c]⟩) (w.alloc (.cells #[.int .u8 x] 5)) := by
  subst hx hcc
  refine run_convert_bytes_back _ _ _ 5 _ 1 [UInt8.ofNat (48 + d)] Tryd.underlying63 Tryd.underlying5 Tryd.underlying9 ?_
  intro j hj
  obtain rfl : j = 0 := by simpa using hj
  have e : ((⟨w.heap.size, 0, none⟩ : Addr).add 0) = ⟨w.heap.size, 0, none⟩ := Lib.add_plain _ _ _
  rw [e, World.cell?_alloc_at _ _ _ _ (by simp)]
  simp
  omega
theorem str_cons (c : UInt8) (t : List UInt8) : (⟨#[c]⟩ : ByteArray) ++ ⟨t.toArray⟩ = ⟨(c :: t).toArray⟩ := by
  apply ByteArray.ext
  simp
theorem itoa_of_neg {n : Int} (h : n < 0) : Lib.itoa n = 45 :: Lib.decDigits n.natAbs := by unfold Lib.itoa; rw [if_pos h]
theorem itoa_of_nonneg {n : Int} (h : ¬ n < 0) : Lib.itoa n = Lib.decDigits n.natAbs := by unfold Lib.itoa; rw [if_neg h]; congr 1; omega

set_option maxRecDepth 100000 in
set_option maxHeartbeats 2000000 in
theorem digits_any (n : Int) (w : World) (h0 : -9223372036854775808 ≤ n) (h1 : n ≤ 9223372036854775807) :
    Calls Tryd.prog 23 #[.int .i64 n] w fun e w' => e = .returned (.string ⟨(Lib.itoa n).toArray⟩) ∧ Below w.heap.size w w' := by
  go_enter Tryd.func23, Tryd.ntmps23
  go_wp2
  go_loopw [3, 4] (fun s k wr => ∃ (t : List UInt8) (j : Int), s = .string ⟨t.toArray⟩ ∧ k = .int .i64 j ∧ DgI n t j ∧ Below w.heap.size w wr) (fun s k _ => dgM s k)
  case atStart => exact ⟨[], n, rfl, rfl, ⟨⟨h0, h1⟩, .inr ⟨.inr rfl, by simp⟩⟩, Below.refl _ _⟩
  case round =>
    obtain ⟨t, j, rfl, rfl, ⟨⟨hj0, hj1⟩, hd⟩, hB⟩ := hrel
    have HD : Hid (DgI n t j) := Lib.hid ⟨⟨hj0, hj1⟩, hd⟩
    clear hd
    obtain ⟨d, hd10, hdd0, hdp, hdn⟩ := tmod10 j
    have HDD := Lib.hid hdd0
    clear hdd0
    obtain ⟨c, hcc⟩ : ∃ c, UInt8.ofNat (48 + d) = c := ⟨_, rfl⟩
    have HCC := Lib.hid hcc
    clear hcc
    have hlt : t.length ≤ 20 := HD.out.len h0 h1
    rcases Int.lt_trichotomy j 0 with hj | hj | hj
    · have hjn : (j == 0) = false := by simp; omega
      have hr := hdn hj
      clear hdp hdn
      go_wp2
      · rw [dg_conv _ d _ c hd10 HCC.out]
        · simp only [Result.andThen]
          go_wp2
          rw [str_cons]
          go_roundw
          case rel => exact ⟨_, _, rfl, rfl, HD.out.step (.inl (by omega)) HDD.out HCC.out, hB.alloc hB.size _⟩
          case measure => exact dgM_step _ (.inl (by omega))
        · omega
      · rw [dg_conv _ d _ c hd10 HCC.out]
        · simp only [Result.andThen]
          go_wp2
          rw [str_cons]
          go_roundw
          case rel => exact ⟨_, _, rfl, rfl, HD.out.step (.inl (by omega)) HDD.out HCC.out, hB.alloc hB.size _⟩
          case measure => exact dgM_step _ (.inl (by omega))
        · omega
    · subst hj
      cases t with
      | nil =>
        clear hdp hdn
        go_wp2
        rw [dg_conv _ d _ c hd10 HCC.out]
        · simp only [Result.andThen]
          go_wp2
          rw [show (⟨#[c]⟩ : ByteArray) ++ ⟨#[]⟩ = ⟨[c].toArray⟩ from str_cons c []]
          go_roundw
          case rel => exact ⟨_, _, rfl, rfl, HD.out.step (.inr rfl) HDD.out HCC.out, hB.alloc hB.size _⟩
          case measure => exact dgM_step (t := []) (j := 0) _ (.inr rfl)
        · have := HDD.out; simp at this; omega
      | cons c' t =>
        clear hdp hdn
        simp only [List.length_cons] at hlt
        by_cases hn : n < 0
        · go_wp2
          go_ret
          exact ⟨by rw [itoa_of_neg hn, ← HD.out.fin, ← str_cons]; rfl, hB⟩
        · go_wp2
          go_ret
          exact ⟨by rw [itoa_of_nonneg (by omega), ← HD.out.fin]; rfl, hB⟩
    · have hjn : (j == 0) = false := by simp; omega
      have hr := hdp (by omega)
      clear hdp hdn
      go_wp2
      rw [dg_conv _ d _ c hd10 HCC.out]
      · simp only [Result.andThen]
        go_wp2
        rw [str_cons]
        have hte : j.tdiv 10 = j / 10 := Int.tdiv_eq_ediv_of_nonneg (by omega)
        go_roundw
        case rel => rw [← hte]; exact ⟨_, _, rfl, rfl, HD.out.step (.inl (by omega)) HDD.out HCC.out, hB.alloc hB.size _⟩
        case measure => rw [← hte]; exact dgM_step _ (.inl (by omega))
      · omega
end Go.Proofs.YtbpihlndojnlcaaDoor
