/-
  Layer 5's statements: rest, awake, finds, names.
-/
import Derived.Test.YtaeaknpkjgacdaaDoorERef
namespace Go.Proofs.YtaeaknpkjgacdaaDoor
open Go Go.RowKit

/-- A number's, from 0 on. -/
def restV (x : Int) (n : Nat) : Nat := ((x.tmod n + n) % n).toNat
theorem restV_lt (x : Int) (n : Nat) (hn : 1 ≤ n) : restV x n < n := by
  unfold restV
  have h1 := Int.emod_lt_of_pos (x.tmod n + n) (show (0 : Int) < (n : Int) by omega)
  have h2 := Int.emod_nonneg (x.tmod n + n) (show (n : Int) ≠ 0 by omega)
  omega
theorem rest_num (x : Int) (n : Nat) (hn : 1 ≤ n) (hn2 : n ≤ 100) : (wrap64 (x.tmod n + n)).tmod n = (restV x n : Int) := by
  have h := Int.natAbs_tmod x n
  have hm := Nat.mod_lt x.natAbs (show 0 < n by omega)
  unfold restV
  rw [Int.natAbs_natCast] at h
  generalize x.tmod n = z at *
  have hz : z.natAbs < n := by omega
  have hw : wrap64 (z + n) = z + n := IntWalk.wrap64_in _ ⟨by omega, by omega⟩
  rw [hw, Int.tmod_eq_emod_of_nonneg (by omega)]
  have h2 := Int.emod_nonneg (z + n) (show (n : Int) ≠ 0 by omega)
  omega
theorem rest5_any (x : Int) (n : Nat) (w : World) (hn : 1 ≤ n) (hn2 : n ≤ 100) :
    Calls Tryd.prog 11 #[.int .i64 x, .int .i64 (n : Int)] w fun e w' => e = .returned (.int .i64 (restV x n : Int)) ∧ w = w' := by
  have HE := Lib.hid (rest_num x n hn hn2)
  have h0 : ((n : Int) == 0) = false := by rw [beq_eq_false_iff_ne]; omega
  have h1 : (n : Int) ≠ 0 := by omega
  clear hn hn2
  generalize (n : Int) = m at *
  go_enter Tryd.func11, Tryd.ntmps11
  go_wp2
  go_ret
  exact ⟨ret_int HE.out, rfl⟩

theorem ex_klingon : findV ⟨#[73, 45, 75, 76, 73, 78, 71, 79, 78]⟩ = some 8 := (findV_iff _ 8 (by decide)).2 (by decide +kernel)
theorem awake5_any (w : World) (hg : GL w) :
    Calls Tryd.prog 8 #[] w fun e w' => e = .returned (.bool true) ∧ Below w.heap.size w w' := by
  have HF := Lib.hid ((find_any ⟨#[73, 45, 75, 76, 73, 78, 71, 79, 78]⟩ w (by decide) hg).mono (R' := fun e w6 => e = .returned (.tuple #[.int .i64 8, .bool true]) ∧ Below w.heap.size w w6) fun e w6 ⟨p, q⟩ => ⟨by rw [p, ex_klingon]; rfl, q⟩)
  clear hg
  go_enter Tryd.func8, Tryd.ntmps8
  go_wp2_with (first | (go_at_call 23; refine HF.out.mono ?_; rintro e w1 ⟨rfl, hb1⟩) | (go_at_call 18; refine (len_any _).mono ?_; rintro e w2 ⟨rfl, rfl⟩))
  go_ret
  exact ⟨rfl, hb1⟩

theorem finds_any (s : ByteArray) (w : World) (hs : s.size ≤ 100) (hg : GL w) :
    Calls Tryd.prog 13 #[.string s] w fun e w' => e = .returned (.bool true) ∧ Below w.heap.size w w' := by
  have HF := Lib.hid (find_any s w (by unfold maxLen; omega) hg)
  have HR := Lib.hid (fun w5 => find5_any s w5 hs)
  clear hg
  cases hv : findV s with
  | none =>
    rw [hv] at HF
    rw [numV_none hv] at HR
    clear hv
    simp only [Option.getD_none, Option.isSome_none] at HF
    go_enter Tryd.func13, Tryd.ntmps13
    go_wp2_with (first | (go_at_call 23; refine HF.out.mono ?_; rintro e w1 ⟨rfl, hb1⟩) | (go_at_call 25; refine (HR.out _).mono ?_; rintro e w2 ⟨rfl, hb2⟩))
    go_ret
    exact ⟨rfl, hb1.trans (hb2.mono hb1.size)⟩
  | some k =>
    have hk := findV_lt hv
    rw [hv] at HF
    rw [numV_some hv] at HR
    clear hv
    simp only [Option.getD_some, Option.isSome_some] at HF
    have h0 : (0 : Int) ≤ (k : Int) := by omega
    have h1 : max (k : Int) 0 = (k : Int) := by omega
    go_enter Tryd.func13, Tryd.ntmps13
    go_wp2_with (first | (go_at_call 23; refine HF.out.mono ?_; rintro e w1 ⟨rfl, hb1⟩) | (go_at_call 25; refine (HR.out _).mono ?_; rintro e w2 ⟨rfl, hb2⟩))
    go_ret
    exact ⟨rfl, hb1.trans (hb2.mono hb1.size)⟩
end Go.Proofs.YtaeaknpkjgacdaaDoor
