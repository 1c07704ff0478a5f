/-
  Layer 15's statements: what they use: awake, rest, short, finds. (Printed by wip/gen_afinds.py.)
-/
import Derived.Test.YtohogofehfbjoaaARef
import Derived.Laws.StructEq
namespace Go.Proofs.Ytohogofehfbjoaa
open Go Go.RowKit

set_option maxRecDepth 100000 in
set_option maxHeartbeats 2000000 in
theorem awake15_any (w : World) : Calls Try.prog 5 #[] w fun e w' => e = .returned (.bool true) ∧ Below w.heap.size w w' := by
  have HF := Lib.hid (show Calls Try.prog 8 #[.int .i64 2, .string { data := #[115, 103, 110] }, .string { data := #[117, 115] }] w (fun e w' => e = .returned (.tuple #[.agg #[.int .i64 2, .string ⟨#[115, 103, 110]⟩, .string ⟨#[117, 115]⟩, .string ⟨#[97, 115, 101]⟩, .string ⟨#[]⟩, .string ⟨#[]⟩], .bool true]) ∧ Below w.heap.size w w') from
    (Find_15 2 ⟨#[115, 103, 110]⟩ ⟨#[117, 115]⟩ w).mono fun e w' ⟨p, q⟩ => ⟨by rw [p]; kernel_rfl, q⟩)
  go_enter Try.func5, Try.ntmps5
  go_wp2_with (go_at_call 8; (with_reducible refine HF.out.mono ?_); rintro e w5 ⟨rfl, hb5⟩)
  go_ret
  exact ⟨rfl, by first | assumption | exact hb5.alloc hb5.size _⟩
theorem lt_of_cellA {W : World} {a : Addr} {v : Value} (h : W.cell? a = some v) : a.block < W.heap.size := by
  rcases Nat.lt_or_ge a.block W.heap.size with h' | h'
  · exact h'
  · simp [World.cell?, Array.getElem?_eq_none h'] at h
theorem keysA15 : als15.Pairwise (fun x y => ((x.k == y.k) && ((x.a.toList == y.a.toList) && (x.b.toList == y.b.toList))) = false) := by decide +kernel
theorem keysL15 : lks15.Pairwise (fun x y => ((x.l.toList == y.l.toList) && ((x.s.toList == y.s.toList) && (x.r.toList == y.r.toList))) = false) := by decide +kernel
theorem find_uniq {α : Type} {p : α → Bool} {R : α → α → Prop} (hR : ∀ x y, p x = true → p y = true → ¬ R x y) : ∀ {L : List α}, L.Pairwise R → ∀ {z : α}, z ∈ L → p z = true → L.find? p = some z
  | [], _, z, hz, _ => by cases hz
  | x :: l, h, z, hz, hp => by
    obtain ⟨h1, h2⟩ := List.pairwise_cons.1 h
    rcases List.mem_cons.1 hz with rfl | hz
    · rw [List.find?_cons, hp]
    · rw [List.find?_cons]
      cases hx : p x with
      | true => exact absurd (h1 z hz) (hR x z hx hp)
      | false => exact find_uniq hR h2 hz hp
theorem findA15 {k : Int} {a b : ByteArray} {z : Ax} (hz : z ∈ als15) (hp : pA k a b z = true) : als15.find? (pA k a b) = some z := by
  refine find_uniq (fun x y hx hy h => ?_) keysA15 hz hp
  unfold pA at hx hy
  simp only [Bool.and_eq_true, beq_iff_eq] at hx hy
  rw [hx.1, hy.1, hx.2.1, hy.2.1, hx.2.2, hy.2.2] at h
  simp at h
theorem findL15 {l s r : ByteArray} {z : Lx} (hz : z ∈ lks15) (hp : pL l s r z = true) : lks15.find? (pL l s r) = some z := by
  refine find_uniq (fun x y hx hy h => ?_) keysL15 hz hp
  unfold pL at hx hy
  simp only [Bool.and_eq_true, beq_iff_eq] at hx hy
  rw [hx.1, hy.1, hx.2.1, hy.2.1, hx.2.2, hy.2.2] at h
  simp at h
theorem eqgA : Try.prog.eqGuardType Try.prog.depth 32 = false := by kernel_rfl
theorem eqgL : Try.prog.eqGuardType Try.prog.depth 35 = false := by kernel_rfl
def AlsE (k : Int) (a b : ByteArray) (y : Ax) (one : Bool) : Prop := (one = false ∧ y = zeroAx) ∨ (one = true ∧ (y.k == k) = true ∧ (y.a.toList == a.toList) = true ∧ (y.b.toList == b.toList) = true)
def LksE (l s r : ByteArray) (y : Lx) (two : Bool) : Prop := (two = false ∧ y = zeroLx) ∨ (two = true ∧ (y.l.toList == l.toList) = true ∧ (y.s.toList == s.toList) = true ∧ (y.r.toList == r.toList) = true)
theorem alsE (k : Int) (a b : ByteArray) : AlsE k a b ((als15.find? (pA k a b)).getD zeroAx) (als15.find? (pA k a b)).isSome := by
  cases h : als15.find? (pA k a b) with
  | none => exact .inl ⟨rfl, rfl⟩
  | some y =>
    have hp := List.find?_some h
    unfold pA at hp
    simp only [Bool.and_eq_true] at hp
    exact .inr ⟨rfl, hp.1, hp.2.1, hp.2.2⟩
theorem lksE (l s r : ByteArray) : LksE l s r ((lks15.find? (pL l s r)).getD zeroLx) (lks15.find? (pL l s r)).isSome := by
  cases h : lks15.find? (pL l s r) with
  | none => exact .inl ⟨rfl, rfl⟩
  | some y =>
    have hp := List.find?_some h
    unfold pL at hp
    simp only [Bool.and_eq_true] at hp
    exact .inr ⟨rfl, hp.1, hp.2.1, hp.2.2⟩
theorem len_als15 : als15.length = 54 := by decide
theorem len_lks15 : lks15.length = 32 := by decide
set_option maxRecDepth 100000 in
set_option maxHeartbeats 8000000 in
theorem finds_15 (k : Int) (a b c : ByteArray) (b0 g1 g2 g3 g4 : Nat) (w : World) (hI : Im15 w b0 g1 g2 g3 g4) :
    Calls Try.prog 10 #[.agg #[.slice (some ⟨g1, 0, none⟩) 54 54, .slice (some ⟨g2, 0, none⟩) 32 32, .slice (some ⟨g3, 0, none⟩) 15 15, .slice (some ⟨g4, 0, none⟩) 7 7, .int .i64 40, .int .i64 5], .int .i64 k, .string a, .string b, .string c] w fun e w' => e = .returned (.bool true) ∧ Below w.heap.size w w' := by
  obtain ⟨W1, hW1⟩ : ∃ W1, w.alloc (.cells #[.slice (some ⟨g1, 0, none⟩) 54 54, .slice (some ⟨g2, 0, none⟩) 32 32, .slice (some ⟨g3, 0, none⟩) 15 15, .slice (some ⟨g4, 0, none⟩) 7 7, .int .i64 40, .int .i64 5] 29) = W1 := ⟨_, rfl⟩
  have hb1 : Below w.heap.size w W1 := by rw [← hW1]; exact (Below.refl _ w).alloc (Nat.le_refl _) _
  have hM : W1.heap[w.heap.size]? = some (.cells #[.slice (some ⟨g1, 0, none⟩) 54 54, .slice (some ⟨g2, 0, none⟩) 32 32, .slice (some ⟨g3, 0, none⟩) 15 15, .slice (some ⟨g4, 0, none⟩) 7 7, .int .i64 40, .int .i64 5] 29 (0, 0)) := by rw [← hW1]; exact World.alloc_heap_new w _
  have HB := Lib.hid (fun w' (h : Below W1.heap.size W1 w') => hb1.trans (h.mono hb1.size))
  have HS1 := Lib.hid (fun w' (h : Below W1.heap.size W1 w') => show w'.cell? ⟨w.heap.size, 0, none⟩ = some (.slice (some ⟨g1, 0, none⟩) 54 54) ∧ w'.cell? ⟨w.heap.size, 1, none⟩ = some (.slice (some ⟨g2, 0, none⟩) 32 32) from ⟨cellA (cs := [_, _, _, _, _, _]) ((h.block _ (lt_of_block hM)).trans hM) rfl, cellA (cs := [_, _, _, _, _, _]) ((h.block _ (lt_of_block hM)).trans hM) rfl⟩)
  have HCA := Lib.hid (fun w' (h : Below W1.heap.size W1 w') i x (hx : als15[i]? = some x) j v (hv : (axC x)[j]? = some v) => cellA ((hI.below (hb1.trans (h.mono hb1.size))).a) (flatA (sz := 6) (fun _ => rfl) hx hv))
  have HCL := Lib.hid (fun w' (h : Below W1.heap.size W1 w') i x (hx : lks15[i]? = some x) j v (hv : (lxC x)[j]? = some v) => cellA ((hI.below (hb1.trans (h.mono hb1.size))).l) (flatA (sz := 6) (fun _ => rfl) hx hv))
  obtain ⟨y, hy⟩ : ∃ y, (als15.find? (pA k a b)).getD zeroAx = y := ⟨_, rfl⟩
  obtain ⟨one, hone⟩ : ∃ z, (als15.find? (pA k a b)).isSome = z := ⟨_, rfl⟩
  obtain ⟨y2, hy2⟩ : ∃ y, (lks15.find? (pL a b c)).getD zeroLx = y := ⟨_, rfl⟩
  obtain ⟨two, htwo⟩ : ∃ z, (lks15.find? (pL a b c)).isSome = z := ⟨_, rfl⟩
  have HF := Lib.hid (fun w' (h : Below W1.heap.size W1 w') => (Find_15 k a b w').mono (R' := fun e w'' => e = .returned (.tuple #[.agg #[.int .i64 y.k, .string y.a, .string y.b, .string y.l, .string y.s, .string y.r], .bool one]) ∧ Below W1.heap.size W1 w'') fun e w'' ⟨p, q⟩ => ⟨by rw [p, hy, hone]; rfl, h.trans (q.mono h.size)⟩)
  have HG := Lib.hid (fun w' (h : Below W1.heap.size W1 w') => (Likely_15 a b c w').mono (R' := fun e w'' => e = .returned (.tuple #[.agg #[.string y2.l, .string y2.s, .string y2.r, .string y2.tl, .string y2.ts, .string y2.tr], .bool two]) ∧ Below W1.heap.size W1 w'' ∧ Below w'.heap.size w' w'') fun e w'' ⟨p, q⟩ => ⟨by rw [p, hy2, htwo]; rfl, h.trans (q.mono h.size), q⟩)
  have HUA := Lib.hid (fun z (hz : z ∈ als15) (hp : pA k a b z = true) => show y = z ∧ one = true by rw [← hy, ← hone, findA15 hz hp]; exact ⟨rfl, rfl⟩)
  have HUL := Lib.hid (fun z (hz : z ∈ lks15) (hp : pL a b c z = true) => show y2 = z ∧ two = true by rw [← hy2, ← htwo, findL15 hz hp]; exact ⟨rfl, rfl⟩)
  have HEA := alsE k a b
  have HEL := lksE a b c
  rw [hy, hone] at HEA
  rw [hy2, htwo] at HEL
  have HW1 := Lib.hid hW1
  have eqA := eqgA
  have eqL := eqgL
  clear hW1 hb1 hM hI hy hone hy2 htwo
  have HEA := Lib.hid HEA
  have HEL := Lib.hid HEL
  go_enter Try.func10, Try.ntmps10
  go_upto_region 1 with fail
  try rw [HW1.out]
  go_upto_region 3 with (first
    | (go_at_call 8; (with_reducible refine (HF.out _ (Below.refl _ _)).mono ?_); rintro e w2 ⟨rfl, hb2⟩; have hb2a := hb2.alloc hb2.size (.cells #[.int .i64 y.k, .string y.a, .string y.b, .string y.l, .string y.s, .string y.r] 32))
    | (go_at_call 9; (with_reducible refine (HG.out _ hb2a).mono ?_); rintro e w3 ⟨rfl, hb3, hq3⟩))
  obtain ⟨W4, hW4⟩ : ∃ W4, w3.alloc (.cells #[.string y2.l, .string y2.s, .string y2.r, .string y2.tl, .string y2.ts, .string y2.tr] 35) = W4 := ⟨_, rfl⟩
  have hb4 : Below W1.heap.size W1 W4 := by rw [← hW4]; exact hb3.alloc hb3.size _
  have z1 : W4.heap[w2.heap.size]? = some (.cells #[.int .i64 y.k, .string y.a, .string y.b, .string y.l, .string y.s, .string y.r] 32 (0, 0)) := by
    rw [← hW4]
    exact (Below.heap_alloc _ _ _ (Nat.lt_of_lt_of_le (by simp) hq3.size)).trans ((hq3.block _ (by simp)).trans (World.alloc_heap_new w2 _))
  have z2 : W4.heap[w3.heap.size]? = some (.cells #[.string y2.l, .string y2.s, .string y2.r, .string y2.tl, .string y2.ts, .string y2.tr] 35 (0, 0)) := by rw [← hW4]; exact World.alloc_heap_new w3 _
  rw [hW4]
  generalize w2.heap.size = A at *
  generalize w3.heap.size = B at *
  have HY := Lib.hid (fun w' (h : Below W4.heap.size W4 w') => show w'.cell? ⟨A, 0, none⟩ = some (.int .i64 y.k) ∧ w'.cell? ⟨A, 1, none⟩ = some (.string y.a) ∧ w'.cell? ⟨A, 2, none⟩ = some (.string y.b) ∧ w'.cell? ⟨A, 3, none⟩ = some (.string y.l) ∧ w'.cell? ⟨A, 4, none⟩ = some (.string y.s) ∧ w'.cell? ⟨A, 5, none⟩ = some (.string y.r) from
    have e := (h.block _ (lt_of_block z1)).trans z1
    ⟨cellA (cs := [_, _, _, _, _, _]) e rfl, cellA (cs := [_, _, _, _, _, _]) e rfl, cellA (cs := [_, _, _, _, _, _]) e rfl, cellA (cs := [_, _, _, _, _, _]) e rfl, cellA (cs := [_, _, _, _, _, _]) e rfl, cellA (cs := [_, _, _, _, _, _]) e rfl⟩)
  have HZ := Lib.hid (fun w' (h : Below W4.heap.size W4 w') => show w'.cell? ⟨B, 0, none⟩ = some (.string y2.l) ∧ w'.cell? ⟨B, 1, none⟩ = some (.string y2.s) ∧ w'.cell? ⟨B, 2, none⟩ = some (.string y2.r) ∧ w'.cell? ⟨B, 3, none⟩ = some (.string y2.tl) ∧ w'.cell? ⟨B, 4, none⟩ = some (.string y2.ts) ∧ w'.cell? ⟨B, 5, none⟩ = some (.string y2.tr) from
    have e := (h.block _ (lt_of_block z2)).trans z2
    ⟨cellA (cs := [_, _, _, _, _, _]) e rfl, cellA (cs := [_, _, _, _, _, _]) e rfl, cellA (cs := [_, _, _, _, _, _]) e rfl, cellA (cs := [_, _, _, _, _, _]) e rfl, cellA (cs := [_, _, _, _, _, _]) e rfl, cellA (cs := [_, _, _, _, _, _]) e rfl⟩)
  have HS4 := Lib.hid (fun w' (h : Below W4.heap.size W4 w') => HS1.out _ (hb4.trans (h.mono hb4.size)))
  have HC4 := Lib.hid (fun w' (h : Below W4.heap.size W4 w') => HCA.out _ (hb4.trans (h.mono hb4.size)))
  have HD4 := Lib.hid (fun w' (h : Below W4.heap.size W4 w') => HCL.out _ (hb4.trans (h.mono hb4.size)))
  have HB4 := Lib.hid (fun w' (h : Below W4.heap.size W4 w') => HB.out _ (hb4.trans (h.mono hb4.size)))
  have hl1 := lt_of_block z1
  have hl2 := lt_of_block z2
  have hl0 : w.heap.size < W4.heap.size := Nat.lt_of_lt_of_le (by exact lt_of_cellA (HS1.out W1 (Below.refl _ _)).1) hb4.size
  clear hW4 hb4 z1 z2 hb2 hb2a hb3 hq3 HB HS1 HCA HCL HF HG HW1
  go_wp2
  go_loopw [15] (fun i wr => ∃ n : Nat, n ≤ 54 ∧ i = .int .i64 (n : Int) ∧ Below W4.heap.size W4 wr) (fun i _ => 54 - (intOf i).toNat)
  case atStart => exact ⟨0, Nat.zero_le _, rfl, Below.refl _ _⟩
  case round =>
    obtain ⟨n, hn, rfl, hR⟩ := hrel
    obtain ⟨s0, s1⟩ := HS4.out _ hR
    by_cases hlt : n < 54
    · have hlt' : (n : Int) < 54 := by omega
      have hn0 : (0 : Int) ≤ (n : Int) := by omega
      obtain ⟨x, hx⟩ : ∃ x, als15[n]? = some x := ⟨_, List.getElem?_eq_getElem (by rw [len_als15]; exact hlt)⟩
      have d0 : wr.cell? ⟨g1, n * 6, none⟩ = some (.int .i64 x.k) := HC4.out _ hR n x hx 0 _ rfl
      have d1 : wr.cell? ⟨g1, n * 6 + 1, none⟩ = some (.string x.a) := HC4.out _ hR n x hx 1 _ rfl
      have d2 : wr.cell? ⟨g1, n * 6 + 2, none⟩ = some (.string x.b) := HC4.out _ hR n x hx 2 _ rfl
      have d3 : wr.cell? ⟨g1, n * 6 + 3, none⟩ = some (.string x.l) := HC4.out _ hR n x hx 3 _ rfl
      have d4 : wr.cell? ⟨g1, n * 6 + 4, none⟩ = some (.string x.s) := HC4.out _ hR n x hx 4 _ rfl
      have d5 : wr.cell? ⟨g1, n * 6 + 5, none⟩ = some (.string x.r) := HC4.out _ hR n x hx 5 _ rfl
      have hRa := hR.alloc hR.size (.cells #[.int .i64 x.k, .string x.a, .string x.b, .string x.l, .string x.s, .string x.r] 32)
      have HUX := Lib.hid (HUA.out x (List.mem_of_getElem? hx))
      have hbn := HY.out _ hRa
      clear hx HC4 HD4 HEA HEL HUA HUL HZ HY HS4
      unfold pA at HUX
      by_cases hT : ((x.k == k) = true ∧ (x.a.toList == a.toList) = true) ∧ (x.b.toList == b.toList) = true
      · obtain ⟨⟨e1, e2⟩, e3⟩ := hT
        obtain ⟨rfl, rfl⟩ := HUX.out (by rw [e1, e2, e3]; rfl)
        obtain ⟨y0, y1, y2, y3, y4, y5⟩ := hbn
        clear HUX
        go_wp2
        go_roundw
        case rel => exact ⟨n + 1, by omega, by go_num, by assumption⟩
        case measure => simp [intOf]; omega
      · clear HUX hbn
        cases e1 : (x.k == k) <;> cases e2 : (x.a.toList == a.toList) <;> cases e3 : (x.b.toList == b.toList) <;>
          first
          | (exfalso; revert hT; rw [e1, e2, e3]; simp; done)
          | (clear hT
             go_wp2
             go_roundw
             case rel => exact ⟨n + 1, by omega, by go_num, by assumption⟩
             case measure => simp [intOf]; omega)
    · obtain rfl : n = 54 := by omega
      go_wp2
      clear s0 s1
      go_loopw [17] (fun i wr => ∃ n : Nat, n ≤ 32 ∧ i = .int .i64 (n : Int) ∧ Below W4.heap.size W4 wr) (fun i _ => 32 - (intOf i).toNat)
      case atStart => exact ⟨0, Nat.zero_le _, rfl, hR⟩
      case round =>
        obtain ⟨n, hn, rfl, hR⟩ := hrel
        obtain ⟨s0, s1⟩ := HS4.out _ hR
        by_cases hlt : n < 32
        · have hlt' : (n : Int) < 32 := by omega
          have hn0 : (0 : Int) ≤ (n : Int) := by omega
          obtain ⟨x, hx⟩ : ∃ x, lks15[n]? = some x := ⟨_, List.getElem?_eq_getElem (by rw [len_lks15]; exact hlt)⟩
          have d0 : wr.cell? ⟨g2, n * 6, none⟩ = some (.string x.l) := HD4.out _ hR n x hx 0 _ rfl
          have d1 : wr.cell? ⟨g2, n * 6 + 1, none⟩ = some (.string x.s) := HD4.out _ hR n x hx 1 _ rfl
          have d2 : wr.cell? ⟨g2, n * 6 + 2, none⟩ = some (.string x.r) := HD4.out _ hR n x hx 2 _ rfl
          have d3 : wr.cell? ⟨g2, n * 6 + 3, none⟩ = some (.string x.tl) := HD4.out _ hR n x hx 3 _ rfl
          have d4 : wr.cell? ⟨g2, n * 6 + 4, none⟩ = some (.string x.ts) := HD4.out _ hR n x hx 4 _ rfl
          have d5 : wr.cell? ⟨g2, n * 6 + 5, none⟩ = some (.string x.tr) := HD4.out _ hR n x hx 5 _ rfl
          have hRa := hR.alloc hR.size (.cells #[.string x.l, .string x.s, .string x.r, .string x.tl, .string x.ts, .string x.tr] 35)
          have HUX := Lib.hid (HUL.out x (List.mem_of_getElem? hx))
          have hbn := HZ.out _ hRa
          clear hx HC4 HD4 HEA HEL HUA HUL HZ HY HS4
          unfold pL at HUX
          by_cases hT : ((x.l.toList == a.toList) = true ∧ (x.s.toList == b.toList) = true) ∧ (x.r.toList == c.toList) = true
          · obtain ⟨⟨e1, e2⟩, e3⟩ := hT
            obtain ⟨rfl, rfl⟩ := HUX.out (by rw [e1, e2, e3]; rfl)
            obtain ⟨y0, y1, y2, y3, y4, y5⟩ := hbn
            clear HUX
            go_wp2
            go_roundw
            case rel => exact ⟨n + 1, by omega, by go_num, by assumption⟩
            case measure => simp [intOf]; omega
          · clear HUX hbn
            cases e1 : (x.l.toList == a.toList) <;> cases e2 : (x.s.toList == b.toList) <;> cases e3 : (x.r.toList == c.toList) <;>
              first
              | (exfalso; revert hT; rw [e1, e2, e3]; simp; done)
              | (clear hT
                 go_wp2
                 go_roundw
                 case rel => exact ⟨n + 1, by omega, by go_num, by assumption⟩
                 case measure => simp [intOf]; omega)
        · obtain rfl : n = 32 := by omega
          obtain ⟨a0, a1, a2, a3, a4, a5⟩ := HY.out _ hR
          obtain ⟨r0, r1, r2, r3, r4, r5⟩ := HZ.out _ hR
          have HR := Lib.hid (HB4.out _ hR)
          clear HY HZ HS4 HC4 HD4 HB4 HUA HUL
          rcases HEA.out with ⟨rfl, rfl⟩ | ⟨rfl, k1, k2, k3⟩ <;> rcases HEL.out with ⟨rfl, rfl⟩ | ⟨rfl, l1, l2, l3⟩ <;>
            (try simp only [zeroAx] at a0 a1 a2 a3 a4 a5
             try simp only [zeroLx] at r0 r1 r2 r3 r4 r5
             clear HEA HEL
             go_wp2
             go_ret
             exact ⟨rfl, HR.out⟩)
end Go.Proofs.Ytohogofehfbjoaa
