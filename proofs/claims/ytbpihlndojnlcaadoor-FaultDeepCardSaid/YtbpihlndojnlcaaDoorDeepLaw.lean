/-
  The walk of FaultDeep: it returns true.
-/
import Derived.Test.YtbpihlndojnlcaaDoorMade
import Derived.Test.YtbpihlndojnlcaaDoorWhats
namespace Go.Proofs.YtbpihlndojnlcaaDoor
open Go Go.RowKit

/-- A row of n + 1 faults, all of one place, about a number. -/
def Deeps (p k : Int) : Nat → List El → Prop
  | 0, xs => ∃ b s, xs = [.fault b p s, .num k]
  | n + 1, xs => ∃ b s ys, xs = .fault b p s :: ys ∧ Deeps p k n ys
theorem Deeps.kind {p k : Int} : ∀ {n : Nat} {xs : List El}, Deeps p k n xs → kindOf xs = k
  | 0, _, ⟨_, _, rfl⟩ => rfl
  | _ + 1, _, ⟨_, _, _, rfl, h⟩ => (show kindOf (_ :: _) = kindOf _ from rfl).trans h.kind
theorem Deeps.len {p k : Int} : ∀ {n : Nat} {xs : List El}, Deeps p k n xs → (fsOf xs).length = n + 1 ∧ xs.length = n + 2
  | 0, _, ⟨_, _, rfl⟩ => ⟨rfl, rfl⟩
  | _ + 1, _, ⟨_, _, _, rfl, h⟩ => ⟨by simp [fsOf, h.len.1], by simp [h.len.2]⟩
theorem Deeps.place {p k : Int} : ∀ {n : Nat} {xs : List El}, Deeps p k n xs → placeOf (fsOf xs) = p
  | 0, _, ⟨_, _, rfl⟩ => rfl
  | _ + 1, _, ⟨_, _, _, rfl, _⟩ => rfl
theorem wrap_small (x : Int) (h1 : -9223372036854775808 ≤ x) (h2 : x ≤ 9223372036854775807) : IntKind.i64.wrap x = x := IntWalk.i64_in _ ⟨h1, h2⟩
/-- A sum of small places does not go round. -/
theorem total_from (p : Int) (hp1 : -1000 ≤ p) (hp2 : p ≤ 1000) {k : Int} : ∀ {n : Nat} {xs : List El} (s : Int), n ≤ 60 → -(1000 * (60 - (n : Int))) ≤ s → s ≤ 1000 * (60 - (n : Int)) → Deeps p k n xs →
    (fsOf xs).foldl (fun a x => IntKind.i64.wrap (a + x.2.1)) s = s + p * ((n : Int) + 1)
  | 0, _, s, _, h1, h2, ⟨_, _, rfl⟩ => by
    simp only [fsOf, List.foldl_cons, List.foldl_nil]
    rw [wrap_small _ (by omega) (by omega)]
    simp
  | n + 1, _, s, hn, h1, h2, ⟨_, _, ys, rfl, h⟩ => by
    simp only [fsOf, List.foldl_cons]
    rw [wrap_small _ (by omega) (by omega), total_from p hp1 hp2 (s + p) (by omega) (by omega) (by omega) h]
    have e : p * (((n + 1 : Nat) : Int) + 1) = p * ((n : Int) + 1) + p := by
      rw [show (((n + 1 : Nat) : Int) + 1) = ((n : Int) + 1) + 1 by omega, Int.mul_add, Int.mul_one]
    omega
theorem mul_small (p : Int) (n : Nat) (hp1 : -1000 ≤ p) (hp2 : p ≤ 1000) (hn : n ≤ 60) : -61000 ≤ p * ((n : Int) + 1) ∧ p * ((n : Int) + 1) ≤ 61000 := by
  have h1 : p * ((n : Int) + 1) ≤ 1000 * ((n : Int) + 1) := Int.mul_le_mul_of_nonneg_right hp2 (by omega)
  have h2 : -1000 * ((n : Int) + 1) ≤ p * ((n : Int) + 1) := Int.mul_le_mul_of_nonneg_right hp1 (by omega)
  omega

/-- The loop of FaultDeep. -/
def DeI (w3 : World) (kk p : Int) (j : Nat) (e : Value) (wr : World) : Prop :=
  Below w3.heap.size w3 wr ∧ ∃ b n xs, e = .iface 42 (.pointer (some ⟨b, 0, none⟩)) ∧ Chain wr n e xs ∧ n ≤ wr.heap.size ∧ Deeps p kk j xs

set_option maxRecDepth 100000 in
set_option maxHeartbeats 4000000 in
theorem deep_law (kind many pl : Int) (w : World) (hg : TypeLaid w) :
    Calls Tryd.prog 8 #[.int .i64 kind, .int .i64 many, .int .i64 pl] w fun e w' => e = .returned (.bool true) ∧ Below w.heap.size w w' := by
  obtain ⟨kk, hkk⟩ : ∃ kk : Int, (if kind = 0 then 12 else kind) = kk := ⟨_, rfl⟩
  have hk0 : (kk == 0) = false := by
    rw [← hkk]; split
    · rfl
    · simpa using ‹¬ kind = 0›
  obtain ⟨mm, hmm⟩ : ∃ mm : Int, many.tmod 61 = mm := ⟨_, rfl⟩
  have hm1 : -61 < mm := by rw [← hmm]; have := Int.lt_tmod_of_pos many (b := 61) (by omega); omega
  have hm2 : mm < 61 := by rw [← hmm]; exact Int.tmod_lt_of_pos many (by omega)
  obtain ⟨nn, hnn, hn60⟩ : ∃ nn : Nat, (mm + 61).tmod 61 = (nn : Int) ∧ nn ≤ 60 := by
    have h0 : 0 ≤ (mm + 61).tmod 61 := Int.tmod_nonneg _ (by omega)
    have h1 : (mm + 61).tmod 61 < 61 := Int.tmod_lt_of_pos _ (by omega)
    exact ⟨((mm + 61).tmod 61).toNat, by omega, by omega⟩
  obtain ⟨pp, hpp⟩ : ∃ pp : Int, pl.tmod 1001 = pp := ⟨_, rfl⟩
  have hp1 : -1000 ≤ pp := by rw [← hpp]; have := Int.lt_tmod_of_pos pl (b := 1001) (by omega); omega
  have hp2 : pp ≤ 1000 := by rw [← hpp]; have := Int.tmod_lt_of_pos pl (b := 1001) (by omega); omega
  have HK := Lib.hid hkk
  have HK0 := Lib.hid hk0
  clear hkk hk0
  have hmod : (mm + 61) % 61 = (nn : Int) := by rw [← hnn, Int.tmod_eq_emod_of_nonneg (by omega)]
  go_enter Tryd.func8, Tryd.ntmps8
  go_wp2_with fail
  refine (awake_law w hg).mono ?_
  rintro e w1 ⟨rfl, hb1⟩
  go_wp2_with fail
  refine (lrow_nil kind w1).mono ?_
  rintro e w2 ⟨rfl, hb2⟩
  rw [HK.out]
  have hB2 := hb1.trans (hb2.mono hb1.size)
  have HB := Lib.hid hB2
  have HTG0 := Lib.hid hg
  clear hb1 hb2 hB2 hg
  go_wp2_with fail
  refine (new_any kk pp _ _ HK0.out).mono ?_
  rintro e w4 ⟨rfl, hw4⟩
  have hr4 : w4.cell? ⟨w2.heap.size, 1, none⟩ = some (.int .i64 kk) := by rw [← hw4]; rw [World.cell?_alloc_lt _ _ ⟨w2.heap.size, 1, none⟩ (by simp)]; simp
  have hs4 : w4.heap.size = w2.heap.size + 2 := by rw [← hw4]; simp
  have hB4 : Below w.heap.size w w4 := by rw [← hw4]; exact (HB.out.alloc HB.out.size _).alloc (by have := HB.out.size; simp; omega) _
  have hch4 : Chain w4 (w2.heap.size + 1 + 1) (.iface 42 (.pointer (some ⟨w2.heap.size + 1, 0, none⟩))) [.fault (w2.heap.size + 1) pp ⟨#[120]⟩, .num kk] := by
    have := Chain.new kk pp ⟨#[120]⟩ (w2.alloc (.cells #[.slice none 0 0, .int .i64 kk] 26))
    rw [hw4, World.size_alloc] at this
    exact this
  have HW4 := Lib.hid hw4
  have HS4 := Lib.hid hs4
  have HB4 := Lib.hid hB4
  have HC4 := Lib.hid hch4
  have HR4 := Lib.hid hr4
  have HTG := Lib.hid (HTG0.out.below hB4 HTG0.out.size)
  clear hw4 hs4 hB4 hch4 hr4
  go_wp2
  go_loopw [11, 12] (fun e i wr => ∃ j : Nat, i = .int .i64 j ∧ j ≤ nn ∧ DeI w4 kk pp j e wr) (fun _ i _ => nn - (intOf i).toNat)
  case atStart => exact ⟨0, rfl, Nat.zero_le _, Below.refl _ _, _, _, _, rfl, HC4.out, by rw [HS4.out]; exact Nat.le_refl _, _, _, rfl⟩
  case round =>
    obtain ⟨j, rfl, hj, hB, b, n, xs, rfl, hch, hcn, hdp⟩ := hrel
    have HC := Lib.hid hch
    have HD := Lib.hid hdp
    clear hch hdp
    by_cases hlt : j < nn
    · go_wp2_with fail
      refine (wrap_any _ _ pp _ _).mono ?_
      rintro e w5 ⟨rfl, hw5⟩
      have hch5 := Chain.wrap pp ⟨#[120]⟩ HC.out hcn
      rw [hw5] at hch5
      have hB5 : Below w4.heap.size w4 w5 := by rw [← hw5]; exact hB.alloc hB.size _
      have hs5 : wr.heap.size + 1 ≤ w5.heap.size := by rw [← hw5]; simp
      have HC5 := Lib.hid hch5
      clear hch5 hw5
      go_wp2
      go_roundw
      case rel => exact ⟨j + 1, by go_num, by omega, hB5, _, _, _, rfl, HC5.out, hs5, _, _, _, rfl, HD.out⟩
      case measure => simp [intOf]; omega
    · obtain rfl : j = nn := by omega
      have hlx : xs.length < 1048576 := by have := HD.out.len.2; omega
      have hr1 : wr.cell? ⟨w2.heap.size, 1, none⟩ = some (.int .i64 kk) := (hB.cell (p := ⟨w2.heap.size, 1, none⟩) (by show w2.heap.size < _; rw [HS4.out]; omega)).trans HR4.out
      have hr1d : wr.drew.cell? ⟨w2.heap.size, 1, none⟩ = some (.int .i64 kk) := hr1
      have hb0 := Below.refl wr.heap.size wr
      have hb0d := (Below.refl wr.heap.size wr).drew
      have HTL := Lib.hid (HTG.out.below hB (by rw [HS4.out]; omega))
      obtain ⟨T, hT⟩ : ∃ T, pp * ((j : Int) + 1) = T := ⟨_, rfl⟩
      have hTb := mul_small pp j hp1 hp2 hn60
      rw [hT] at hTb
      have HTot := Lib.hid (show totalOf (fsOf xs) = T by unfold totalOf; rw [total_from pp hp1 hp2 0 hn60 (by omega) (by omega) HD.out, hT]; omega)
      have hw1 : IntKind.i64.wrap ((j : Int) + 1) = (j : Int) + 1 := wrap_small _ (by omega) (by omega)
      have hw2 : IntKind.i64.wrap T = T := wrap_small _ (by omega) (by omega)
      have HF := Lib.hid (fun wx (h : Below wr.heap.size wr wx) => show Below w.heap.size w wx from HB4.out.trans ((hB.trans (h.mono hB.size)).mono HB4.out.size))
      have KK := Lib.hid (fun w5 (hb : Below wr.heap.size wr w5) (hr : w5.cell? ⟨w2.heap.size, 1, none⟩ = some (.int .i64 kk)) => (kind_chain w5 hlx (Nat.le_trans hcn hb.size) (HC.out.below hb hcn) (HTL.out.below hb HTL.out.size)).mono (R' := fun e w6 => e = .returned (.int .i64 kk) ∧ w6.cell? ⟨w2.heap.size, 1, none⟩ = some (.int .i64 kk) ∧ Below wr.heap.size wr w6) fun e w6 ⟨h1, h2⟩ => ⟨by rw [h1, HD.out.kind], (h2.cell (p := ⟨w2.heap.size, 1, none⟩) (lt_of_cell hr)).trans hr, hb.trans (h2.mono hb.size)⟩)
      have KT := Lib.hid (fun w5 (hb : Below wr.heap.size wr w5) (hr : w5.cell? ⟨w2.heap.size, 1, none⟩ = some (.int .i64 kk)) => (total_chain w5 hlx (Nat.le_trans hcn hb.size) (HC.out.below hb hcn)).mono (R' := fun e w6 => e = .returned (.int .i64 T) ∧ w6.cell? ⟨w2.heap.size, 1, none⟩ = some (.int .i64 kk) ∧ Below wr.heap.size wr w6) fun e w6 ⟨h1, h2⟩ => ⟨by rw [h1, HTot.out], (h2.cell (p := ⟨w2.heap.size, 1, none⟩) (lt_of_cell hr)).trans hr, hb.trans (h2.mono hb.size)⟩)
      have KW := Lib.hid (fun w5 (hb : Below wr.heap.size wr w5) (hr : w5.cell? ⟨w2.heap.size, 1, none⟩ = some (.int .i64 kk)) => (whats_chain w5 hlx (Nat.le_trans hcn hb.size) (HC.out.below hb hcn)).mono (R' := fun e w6 => ∃ g cap, e = .returned (.slice (some ⟨g, 0, none⟩) (j + 1) cap) ∧ w6.cell? ⟨w2.heap.size, 1, none⟩ = some (.int .i64 kk) ∧ Below wr.heap.size wr w6) fun e w6 ⟨u, h1, ho, h2⟩ => by
        rw [HD.out.len.1] at ho
        obtain ⟨g, cap, rfl⟩ := ownsRow_succ ho
        exact ⟨g, cap, h1, (h2.cell (p := ⟨w2.heap.size, 1, none⟩) (lt_of_cell hr)).trans hr, hb.trans (h2.mono hb.size)⟩)
      have KP := Lib.hid (fun w5 (hb : Below wr.heap.size wr w5) (hr : w5.cell? ⟨w2.heap.size, 1, none⟩ = some (.int .i64 kk)) => (place_chain w5 hlx (Nat.le_trans hcn hb.size) (HC.out.below hb hcn)).mono (R' := fun e w6 => e = .returned (.int .i64 pp) ∧ w6.cell? ⟨w2.heap.size, 1, none⟩ = some (.int .i64 kk) ∧ Below wr.heap.size wr w6) fun e w6 ⟨h1, h2⟩ => ⟨by rw [h1, HD.out.place], (h2.cell (p := ⟨w2.heap.size, 1, none⟩) (lt_of_cell hr)).trans hr, hb.trans (h2.mono hb.size)⟩)
      clear hTb
      go_wp2_with fail
      go_region_held3 (fun w' => w'.cell? ⟨w2.heap.size, 1, none⟩ = some (.int .i64 kk) ∧ Below wr.heap.size wr w') (first | exact ⟨by assumption, by assumption⟩)
        (first | (go_at_call 14; (with_reducible refine (KK.out _ (by assumption) (by assumption)).mono ?_); rintro e w5 ⟨rfl, hr5, hb5⟩) | (go_at_call 15; (with_reducible refine (KT.out _ (by assumption) (by assumption)).mono ?_); rintro e w5 ⟨rfl, hr5, hb5⟩) | (go_at_call 12; (with_reducible refine (KW.out _ (by assumption) (by assumption)).mono ?_); rintro e w5 ⟨g, cap, rfl, hr5, hb5⟩) | (go_at_call 17; (with_reducible refine (KP.out _ (by assumption) (by assumption)).mono ?_); rintro e w5 ⟨rfl, hr5, hb5⟩))
      go_wp2
      go_ret
      exact ⟨rfl, HF.out _ (by assumption)⟩
end Go.Proofs.YtbpihlndojnlcaaDoor
