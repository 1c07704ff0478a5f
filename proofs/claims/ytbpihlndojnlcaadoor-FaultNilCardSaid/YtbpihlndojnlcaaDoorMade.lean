/-
  The statements' own function made: an error of a row of items.
-/
import Derived.Test.YtbpihlndojnlcaaDoorLrow
import Derived.Test.YtbpihlndojnlcaaDoorNew
import Derived.Test.YtbpihlndojnlcaaDoorHas
import Derived.StillTailTactics
import Derived.IntWalk
namespace Go.Proofs.YtbpihlndojnlcaaDoor
open Go Go.RowKit

theorem icells_get {its : List Item} {i : Nat} {x : Item} (h : its[i]? = some x) : (icells its)[i * 2]? = some (.int .i64 x.1) ∧ (icells its)[i * 2 + 1]? = some (.string x.2) := by
  induction its generalizing i with
  | nil => simp at h
  | cons y r ih =>
    cases i with
    | zero => simp at h; subst h; simp [icells]
    | succ i =>
      simp at h
      obtain ⟨h1, h2⟩ := ih h
      have e : icells (y :: r) = [.int .i64 y.1, .string y.2] ++ icells r := rfl
      rw [e]
      constructor
      · rw [List.getElem?_append_right (by simp; omega)]; simp; rw [show (i + 1) * 2 - 2 = i * 2 by omega]; exact h1
      · rw [List.getElem?_append_right (by simp; omega)]; simp; rw [show (i + 1) * 2 - 1 = i * 2 + 1 by omega]; exact h2

/-- An error's row says what its items are, and of which kind it is. -/
def Fits : List Item → Int → List El → Prop
  | [], k, xs => xs = [.num k]
  | x :: r, k, .fault _ p s :: xs => p = x.1 ∧ s = x.2 ∧ Fits r k xs
  | _ :: _, _, _ => False

set_option maxRecDepth 100000 in
set_option maxHeartbeats 1000000 in
theorem made_none (k : Int) (w : World) :
    Calls Tryd.prog 11 #[.agg #[.slice none 0 0, .int .i64 k]] w fun e w' => e = .returned (.iface 24 (.int .i64 k)) ∧ Below w.heap.size w w' := by
  go_enter Tryd.func11, Tryd.ntmps11
  go_wp2
  go_ret
  exact ⟨rfl, (Below.refl _ w).alloc (Nat.le_refl _) _⟩

set_option maxRecDepth 100000 in
set_option maxHeartbeats 1000000 in
theorem made_empty (k : Int) (g cap : Nat) (w : World) :
    Calls Tryd.prog 11 #[.agg #[.slice (some ⟨g, 0, none⟩) 0 cap, .int .i64 k]] w fun e w' => e = .returned (.iface 24 (.int .i64 k)) ∧ Below w.heap.size w w' := by
  go_enter Tryd.func11, Tryd.ntmps11
  go_wp2
  go_ret
  exact ⟨rfl, (Below.refl _ w).alloc (Nat.le_refl _) _⟩

/-- What the loop of made keeps. -/
def MaI (W0 : World) (its : List Item) (k : Int) (c : Nat) (e : Value) (wr : World) : Prop :=
  Below W0.heap.size W0 wr ∧ ∃ n b xs, e = .iface 42 (.pointer (some ⟨b, 0, none⟩)) ∧ Chain wr n e xs ∧ n ≤ wr.heap.size ∧ Fits (its.drop c) k xs
def MaC (i : Value) (c : Nat) : Prop := (c = 0 ∧ i = .int .i64 (-1)) ∨ ∃ d : Nat, c = d + 1 ∧ i = .int .i64 d
theorem maC (c : Nat) : MaC (.int .i64 ((c : Int) - 1)) c := by
  cases c with
  | zero => exact .inl ⟨rfl, rfl⟩
  | succ d => exact .inr ⟨d, rfl, by congr 1; omega⟩
theorem Chain.drew {W : World} {n : Nat} {v : Value} {xs : List El} (h : Chain W n v xs) : Chain W.drew n v xs := Chain.same (W := W) (fun _ _ => rfl) h

set_option maxRecDepth 100000 in
set_option maxHeartbeats 1000000 in
theorem made_some (k : Int) (g cap m : Nat) (its : List Item) (w : World) (hlen : its.length = m + 1) (hm : m < 9) (hk : (k == 0) = false)
    (hc : ∀ i x, its[i]? = some x → w.cell? ⟨g, i * 2, none⟩ = some (.int .i64 x.1) ∧ w.cell? ⟨g, i * 2 + 1, none⟩ = some (.string x.2)) (hg : g < w.heap.size) :
    Calls Tryd.prog 11 #[.agg #[.slice (some ⟨g, 0, none⟩) (m + 1) cap, .int .i64 k]] w fun e w' => ∃ n u xs, e = .returned (.iface 42 u) ∧ Chain w' n (.iface 42 u) xs ∧ n ≤ w'.heap.size ∧ Fits its k xs ∧ Below w.heap.size w w' := by
  have hml : m < its.length := by omega
  obtain ⟨hx1, hx2⟩ := hc m its[m] (List.getElem?_eq_getElem hml)
  obtain ⟨x, hxe⟩ : ∃ x, its[m] = x := ⟨_, rfl⟩
  rw [hxe] at hx1 hx2
  have HX := Lib.hid hxe
  have HC := Lib.hid hc
  clear hxe hc
  have hy1 : (w.alloc (.cells #[.slice (some ⟨g, 0, none⟩) (m + 1) cap, .int .i64 k] 26)).cell? ⟨g, m * 2, none⟩ = some (.int .i64 x.1) := (World.cell?_alloc_lt _ _ ⟨g, m * 2, none⟩ hg).trans hx1
  have hy2 : (w.alloc (.cells #[.slice (some ⟨g, 0, none⟩) (m + 1) cap, .int .i64 k] 26)).cell? ⟨g, m * 2 + 1, none⟩ = some (.string x.2) := (World.cell?_alloc_lt _ _ ⟨g, m * 2 + 1, none⟩ hg).trans hx2
  have hb1 : (w.alloc (.cells #[.slice (some ⟨g, 0, none⟩) (m + 1) cap, .int .i64 k] 26)).cell? ⟨w.heap.size, 0, none⟩ = some (.slice (some ⟨g, 0, none⟩) (m + 1) cap) := by simp
  have hb2 : (w.alloc (.cells #[.slice (some ⟨g, 0, none⟩) (m + 1) cap, .int .i64 k] 26)).cell? ⟨w.heap.size, 1, none⟩ = some (.int .i64 k) := by simp
  go_enter Tryd.func11, Tryd.ntmps11
  go_wp2
  have hw1 : IntKind.i64.wrap (m : Int) = (m : Int) := IntWalk.i64_in _ (by omega)
  have hw2 : IntKind.i64.wrap ((m : Int) + 1 - 1) = (m : Int) := by rw [← hw1]; congr 1; omega
  have hm0 : (0 : Int) ≤ (m : Int) := by omega
  have hm1 : (m : Int) < (m : Int) + 1 := by omega
  go_region_held3 (fun w' => w'.cell? ⟨w.heap.size, 0, none⟩ = some (.slice (some ⟨g, 0, none⟩) (m + 1) cap) ∧ w'.cell? ⟨w.heap.size, 1, none⟩ = some (.int .i64 k) ∧ w'.cell? ⟨g, m * 2, none⟩ = some (.int .i64 x.1) ∧ w'.cell? ⟨g, m * 2 + 1, none⟩ = some (.string x.2)) (go_keep)
    (first | (go_at_call 20; refine (new_any k x.1 x.2 _ hk).mono ?_; rintro e w' ⟨rfl, rfl⟩))
  have hwl : 0 ≤ (m : Int) := hm0
  clear hw1 hw2 hy1 hy2 hb1 hb2 hx1 hx2
  go_wp2
  obtain ⟨W0, hW0⟩ : ∃ W0 : World, w.alloc (.cells #[.slice (some ⟨g, 0, none⟩) (m + 1) cap, .int .i64 k] 26) = W0 := ⟨_, rfl⟩
  have hs0 : W0.heap.size = w.heap.size + 1 := by rw [← hW0]; simp
  have hBB : Below w.heap.size w W0 := by rw [← hW0]; exact (Below.refl _ w).alloc (Nat.le_refl _) _
  have hbc : W0.cell? ⟨w.heap.size, 0, none⟩ = some (.slice (some ⟨g, 0, none⟩) (m + 1) cap) := by rw [← hW0]; simp
  have hcz : ∀ i x, its[i]? = some x → W0.cell? ⟨g, i * 2, none⟩ = some (.int .i64 x.1) ∧ W0.cell? ⟨g, i * 2 + 1, none⟩ = some (.string x.2) := fun i y hy =>
    ⟨(hBB.cell (p := ⟨g, i * 2, none⟩) hg).trans (HC.out i y hy).1, (hBB.cell (p := ⟨g, i * 2 + 1, none⟩) hg).trans (HC.out i y hy).2⟩
  have HZ := Lib.hid hcz
  have HW0 := Lib.hid hW0
  have HBB := Lib.hid hBB
  have HBC := Lib.hid hbc
  have HS0 := Lib.hid hs0
  clear hcz hW0 hBB hbc hs0
  go_loopw [4, 5] (fun e i wr => ∃ c, c ≤ m ∧ MaC i c ∧ MaI W0 its k c e wr) (fun _ i _ => (intOf i + 1).toNat)
  case atStart =>
    refine ⟨m, Nat.le_refl _, ?_, ?_⟩
    · have := maC m
      rwa [show ((m : Int) + 1 - 2) = (m : Int) - 1 by omega]
    · rw [HW0.out, ← HS0.out]
      refine ⟨((Below.refl _ _).alloc (Nat.le_refl _) _).drew, W0.heap.size + 1, _, [.fault W0.heap.size x.1 x.2, .num k], rfl, (Chain.new k x.1 x.2 W0).drew, by show _ ≤ (W0.alloc _).heap.size; simp, ?_⟩
      rw [List.drop_eq_getElem_cons hml, List.drop_of_length_le (by omega), HX.out]
      exact ⟨rfl, rfl, rfl⟩
  case round =>
    obtain ⟨c, hcm, hmc, hB, n, b, xs, rfl, hch, hn, hfit⟩ := hrel
    rcases hmc with ⟨rfl, rfl⟩ | ⟨d, rfl, rfl⟩
    · have H1 := Lib.hid hch
      have H2 := Lib.hid hfit
      clear hch hfit
      go_wp2
      go_ret
      exact ⟨n, _, xs, rfl, H1.out, hn, by simpa using H2.out, HBB.out.trans (hB.mono (by rw [HS0.out]; omega))⟩
    · have hdl : d < its.length := by omega
      have hq1 : wr.cell? ⟨w.heap.size, 0, none⟩ = some (.slice (some ⟨g, 0, none⟩) (m + 1) cap) := (hB.cell (p := ⟨w.heap.size, 0, none⟩) (by rw [HS0.out]; exact Nat.lt_succ_self _)).trans HBC.out
      obtain ⟨hz1, hz2⟩ := HZ.out d its[d] (List.getElem?_eq_getElem hdl)
      obtain ⟨y, hye⟩ : ∃ y, its[d] = y := ⟨_, rfl⟩
      rw [hye] at hz1 hz2
      have hq2 : wr.cell? ⟨g, d * 2, none⟩ = some (.int .i64 y.1) := (hB.cell (p := ⟨g, d * 2, none⟩) (by rw [HS0.out]; show g < _; omega)).trans hz1
      have hq3 : wr.cell? ⟨g, d * 2 + 1, none⟩ = some (.string y.2) := (hB.cell (p := ⟨g, d * 2 + 1, none⟩) (by rw [HS0.out]; show g < _; omega)).trans hz2
      have HY := Lib.hid hye
      have H1 := Lib.hid hch
      have H2 := Lib.hid hfit
      clear hz1 hz2 hye hch hfit
      have hd0 : (0 : Int) ≤ (d : Int) := by omega
      have hd1 : (d : Int) < (m : Int) + 1 := by omega
      go_wp2
      go_region_held3 (fun w' => w'.cell? ⟨w.heap.size, 0, none⟩ = some (.slice (some ⟨g, 0, none⟩) (m + 1) cap) ∧ w'.cell? ⟨g, d * 2, none⟩ = some (.int .i64 y.1) ∧ w'.cell? ⟨g, d * 2 + 1, none⟩ = some (.string y.2)) (go_keep)
        (first | (go_at_call 21; refine (wrap_any _ _ y.1 y.2 _).mono ?_; rintro e w' ⟨rfl, rfl⟩))
      go_wp2
      go_roundw
      case rel =>
        refine ⟨d, by omega, maC d, ?_⟩
        have hb' : W0.heap.size ≤ wr.heap.size := hB.size
        refine ⟨(hB.alloc hb' _).drew, wr.heap.size + 1, _, .fault wr.heap.size y.1 y.2 :: xs, rfl, (Chain.wrap y.1 y.2 H1.out hn).drew, by show _ ≤ (wr.alloc _).heap.size; simp, ?_⟩
        rw [List.drop_eq_getElem_cons hdl, HY.out]
        exact ⟨rfl, rfl, H2.out⟩
      case measure => simp [intOf]

/-- made, of whatever row of nine items at most. -/
theorem made_any (k : Int) {v : Value} {its : List Item} (w : World) (hk : (k == 0) = false) (h9 : its.length ≤ 9) (B : Nat) (h : w.ownsRow B 38 2 v its.length (icells its)) :
    Calls Tryd.prog 11 #[.agg #[v, .int .i64 k]] w fun e w' => ∃ n t u xs, e = .returned (.iface t u) ∧ Chain w' n (.iface t u) xs ∧ n ≤ w'.heap.size ∧ Fits its k xs ∧ Below w.heap.size w w' := by
  cases its with
  | nil =>
    rcases h.2 with ⟨rfl, _⟩ | ⟨g, cap, cur, rfl, _⟩
    · exact (made_none k w).mono fun e w' ⟨he, hb⟩ => ⟨0, _, _, [.num k], he, ⟨rfl, rfl⟩, Nat.zero_le _, rfl, hb⟩
    · exact (made_empty k g cap w).mono fun e w' ⟨he, hb⟩ => ⟨0, _, _, [.num k], he, ⟨rfl, rfl⟩, Nat.zero_le _, rfl, hb⟩
  | cons x r =>
    rcases h.2 with ⟨_, h0⟩ | ⟨g, cap, cur, rfl, _, hg, _⟩
    · simp at h0
    · exact (made_some k g cap r.length (x :: r) w (by simp) (by simp at h9; omega) hk (fun i y hy => by
        obtain ⟨h1, h2⟩ := icells_get hy
        have hi : i < (x :: r).length := (List.getElem?_eq_some_iff.1 hy).1
        exact ⟨by rw [h.cellAt (i * 2) (by omega)]; exact h1, by rw [h.cellAt (i * 2 + 1) (by omega)]; exact h2⟩) (Array.getElem?_eq_some_iff.1 hg).1).mono fun e w' ⟨n, u, xs, h1, h2, h3, h4, h5⟩ => ⟨n, _, u, xs, h1, h2, h3, h4, h5⟩

theorem Fits.kind {its : List Item} {k : Int} {xs : List El} (h : Fits its k xs) : kindOf xs = k := by
  induction its generalizing xs with
  | nil => rw [show xs = [.num k] from h]; rfl
  | cons x r ih => cases xs with
    | nil => exact h.elim
    | cons y ys => cases y with
      | fault b p s => exact (show kindOf (El.fault b p s :: ys) = kindOf ys from rfl).trans (ih h.2.2)
      | num j => exact h.elim
      | strange u => exact h.elim
theorem Fits.has {its : List Item} {k : Int} {xs : List El} (j : Int) (h : Fits its k xs) : hasOf j xs = decide (k = j) := by
  induction its generalizing xs with
  | nil => rw [show xs = [.num k] from h]; simp [hasOf]
  | cons x r ih => cases xs with
    | nil => exact h.elim
    | cons y ys => cases y with
      | fault b p s => exact (show hasOf j (El.fault b p s :: ys) = hasOf j ys from rfl).trans (ih h.2.2)
      | num j => exact h.elim
      | strange u => exact h.elim
theorem Fits.len {its : List Item} {k : Int} {xs : List El} (h : Fits its k xs) : xs.length = its.length + 1 := by
  induction its generalizing xs with
  | nil => rw [show xs = [.num k] from h]; rfl
  | cons x r ih => cases xs with
    | nil => exact h.elim
    | cons y ys => cases y with
      | fault b p s => simp [ih h.2.2]
      | num j => exact h.elim
      | strange u => exact h.elim
end Go.Proofs.YtbpihlndojnlcaaDoor
