/-
  keyword: a row copied, in small letters; where the first key is.
-/
import Derived.Test.YtgdcdijdpflmdaaUMem
import Derived.Test.YtgdcdijdpflmdaaLSubtags
namespace Go.Proofs.Ytgdcdijdpflmdaa
open Go Go.RowKit

/-- A row's cells, as an append reads them. -/
theorem RowU.news {W : World} {ao : Option Addr} {l : List ByteArray} {c : Nat} (h : RowU W (.slice ao l.length c) l) : (ao = none → l.length = 0) ∧ ∀ ad, ao = some ad → ∀ j u, (strs l)[j]? = some u → W.cell? (ad.add j) = some u := by
  obtain ⟨a, c', he, hc⟩ := h
  injection he with h1 _ _
  subst h1
  constructor
  · rintro rfl
    cases l with
    | nil => rfl
    | cons x r => obtain ⟨g, o, h, _⟩ := hc 0 x rfl; cases h
  · rintro ad rfl j u hu
    unfold strs at hu
    rw [List.getElem?_map] at hu
    cases hx : l[j]? with
    | none => rw [hx] at hu; simp at hu
    | some x =>
      rw [hx] at hu
      obtain ⟨g, o, h, hcell⟩ := hc j x hx
      cases h
      rw [Addr.add_lit, hcell]
      exact hu
theorem strsU_one {l : List ByteArray} : ∀ u ∈ strs l, u.oneCell' = true := by
  intro u hu
  unfold strs at hu
  obtain ⟨_, _, rfl⟩ := List.mem_map.1 hu
  rfl

set_option maxRecDepth 100000 in
set_option maxHeartbeats 1000000 in
theorem copied_own (v : Value) (l : List ByteArray) (w : World) (hv : RowU w v l) (hl : l.length ≤ 100000) :
    Calls Try.prog 57 #[v] w fun e w' => ∃ u, e = .returned u ∧ w'.ownsRow w.heap.size 9 1 u l.length (strs l) ∧ Below w.heap.size w w' := by
  obtain ⟨i0, hii, iz0, iz1, iz2⟩ := info_parts stringInfo
  obtain ⟨ao, c, rfl, hc⟩ := hv
  have HN := Lib.hid (RowU.news (W := w) (l := l) ⟨ao, c, rfl, hc⟩)
  clear hc
  go_enter Try.func57, Try.ntmps57
  go_wp2_with (at_builtin; refine wpList_append_any _ rfl _ _ 26 rfl w.heap.size 9 i0 (.string ByteArray.empty) 1 16 Try.underlying26 hii iz0 iz1 iz2 rfl (by decide) (.slice none 0 0) 0 [] rfl (World.ownsRow_nil _ _ _ _) ao l.length c (strs l) rfl (by simp [strs]) HN.out.1 HN.out.2 strsU_one (by unfold maxLen; omega) (by omega) (Nat.le_refl _) ?_; intro v' w2 hown hgrow)
  go_ret
  exact ⟨_, rfl, by simpa using hown, (Below.refl _ w).grown hgrow (Nat.le_refl _) (fun g hg => by simp [Value.ownBlock] at hg)⟩

/-- A row in small letters so far. -/
def lowK (l : List ByteArray) (k : Nat) : List ByteArray := (l.take k).map lowS ++ l.drop k
theorem lowK_zero (l : List ByteArray) : lowK l 0 = l := by simp [lowK]
theorem lowK_all (l : List ByteArray) : lowK l l.length = l.map lowS := by simp [lowK]
theorem lowK_len (l : List ByteArray) (k : Nat) : (lowK l k).length = l.length := by simp [lowK]; omega
theorem lowK_get {l : List ByteArray} {k : Nat} {x : ByteArray} (h : l[k]? = some x) : (lowK l k)[k]? = some x := by
  have hk : k < l.length := (List.getElem?_eq_some_iff.1 h).1
  unfold lowK
  rw [List.getElem?_append_right (by simp; omega)]
  simpa [Nat.min_eq_left (Nat.le_of_lt hk)] using h
theorem lowK_set {l : List ByteArray} {k : Nat} {x : ByteArray} (h : l[k]? = some x) : (strs (lowK l k)).set k (.string (lowS x)) = strs (lowK l (k + 1)) := by
  have hk : k < l.length := (List.getElem?_eq_some_iff.1 h).1
  unfold strs
  rw [← List.map_set]
  congr 1
  unfold lowK
  have hl : ((l.take k).map lowS).length = k := by simp; omega
  rw [List.set_append_right _ _ (by omega), hl, Nat.sub_self, take_next h, List.map_append, List.append_assoc]
  congr 1
  rw [List.drop_eq_getElem_cons hk]
  rfl
theorem strs_len (l : List ByteArray) : (strs l).length = l.length := by simp [strs]

set_option maxRecDepth 100000 in
set_option maxHeartbeats 2000000 in
theorem small_own (v : Value) (l : List ByteArray) (w : World) (hv : RowU w v l) (hl : l.length ≤ 100000) (hs : ∀ x ∈ l, x.size ≤ 1000) :
    Calls Try.prog 56 #[v] w fun e w' => ∃ u, e = .returned u ∧ w'.ownsRow w.heap.size 9 1 u l.length (strs (l.map lowS)) ∧ Below w.heap.size w w' := by
  have CC := Lib.hid (copied_own v l w hv hl)
  have HSZ := Lib.hid hs
  clear hv hs
  go_enter Try.func56, Try.ntmps56
  go_upto_region 2 with (go_at_call 57; (with_reducible refine CC.out.mono ?_); rintro e w1 ⟨u, rfl, ho1, hb1⟩)
  rcases owned_cases ho1 with ⟨rfl, h0⟩ | ⟨g, cap, rfl⟩
  · obtain rfl : l = [] := List.eq_nil_of_length_eq_zero h0
    go_wp2_with fail
    refine wp_loop_rounds 1 ?_
    rw [rounds_succ]
    go_wp2_with fail
    go_ret
    exact ⟨_, rfl, ho1, hb1⟩
  · rw [← lowK_zero l] at ho1
    have hlk := lowK_len l 0
    rw [hlk] at ho1
    have HO1 := Lib.hid ho1
    have HB1 := Lib.hid hb1
    clear ho1 hb1
    go_wp2_with fail
    go_loopw [10, 4, 5] (fun i _ _ wr => ∃ k : Nat, k ≤ l.length ∧ i = .int .i64 (k : Int) ∧ wr.ownsRow w.heap.size 9 1 (.slice (some ⟨g, 0, none⟩) l.length cap) l.length (strs (lowK l k)) ∧ Below w.heap.size w wr) (fun i _ _ _ => l.length - (intOf i).toNat)
    case atStart => exact ⟨0, Nat.zero_le _, rfl, HO1.out, HB1.out⟩
    case round =>
      obtain ⟨k, hk, rfl, hown, hB⟩ := hrel
      by_cases hlt : k < l.length
      · have hki : (k : Int) < (l.length : Int) := by omega
        have hk0 : (0 : Int) ≤ (k : Int) := by omega
        obtain ⟨x, hx⟩ : ∃ x, l[k]? = some x := ⟨_, List.getElem?_eq_getElem hlt⟩
        have c1 := own_cell hown k x (lowK_get hx)
        have CT := Lib.hid (fun w5 => lower_text x w5 (by have := HSZ.out x (List.mem_of_getElem? hx); omega))
        have HX := Lib.hid (lowK_set hx)
        have HO := Lib.hid hown
        have HBr := Lib.hid hB
        have hll := lowK_len l k
        have hsl := strs_len (lowK l k)
        clear hx hown hB
        generalize lowS x = y at *
        go_wp2_with (go_at_call 72; (with_reducible refine (CT.out _).mono ?_); rintro e w5 ⟨rfl, hb5⟩; have hO5 := ownsRow_belowF HO.out hb5; have c5 := hO5.cellAt k (by omega); rw [List.getElem?_eq_getElem (by omega)] at c5; have f5 := hO5.frozenAt k; have HB5 := Lib.hid hb5; have HO5 := Lib.hid hO5; clear hb5 hO5)
        go_roundw
        case rel =>
          have h1 := (HO5.out.stored k (.string y)).1
          rw [HX.out] at h1
          exact ⟨k + 1, by omega, by go_num, h1, (HBr.out.trans (HB5.out.mono HBr.out.size)).setCell (p := ⟨g, k, none⟩) ((HO.out.lt g rfl).1) _⟩
        case measure => simp [intOf]; omega
      · obtain rfl : k = l.length := by omega
        have hki : ¬ (l.length : Int) < (l.length : Int) := by omega
        rw [lowK_all] at hown
        go_wp2_with fail
        go_ret
        exact ⟨_, rfl, hown, hB⟩

set_option maxRecDepth 100000 in
theorem isKey_own (s : ByteArray) (w : World) :
    Calls Try.prog 84 #[.string s] w fun e w' => e = .returned (.bool (isK s)) ∧ w' = w := by
  have h : ((s.size : Int) == 2) = isK s := by unfold isK; rw [Bool.eq_iff_iff]; simp; omega
  go_enter Try.func84, Try.ntmps84
  go_wp2
  go_ret
  exact ⟨by first | rfl | (rw [← h]; rfl) | (rw [← h]), rfl⟩
def untilI (l : List ByteArray) : Int := if untilN l < l.length then (untilN l : Int) else -1
set_option maxRecDepth 100000 in
set_option maxHeartbeats 2000000 in
theorem indexS_own (v : Value) (l : List ByteArray) (w : World) (hv : RowU w v l) (hl : l.length ≤ 100000) :
    Calls Try.prog 83 #[v, .func (.func 84) #[] #[]] w fun e w' => e = .returned (.int .i64 (untilI l)) ∧ w' = w := by
  obtain ⟨ao, c, rfl, hc⟩ := hv
  have HC := Lib.hid hc
  clear hc
  go_enter Try.func83, Try.ntmps83
  go_wp2_with fail
  go_loopw [8, 5] (fun i _ wr => ∃ k : Nat, k ≤ l.length ∧ i = .int .i64 (k : Int) ∧ wr = w ∧ Hid (∀ i x, i < k → l[i]? = some x → isK x = false)) (fun i _ _ => l.length - (intOf i).toNat)
  case atStart => exact ⟨0, Nat.zero_le _, rfl, rfl, Lib.hid (fun i x h => by omega)⟩
  case round =>
    obtain ⟨k, hk, rfl, rfl, HP⟩ := hrel
    by_cases hlt : k < l.length
    · have hki : (k : Int) < (l.length : Int) := by omega
      have hk0 : (0 : Int) ≤ (k : Int) := by omega
      obtain ⟨x, hx⟩ : ∃ x, l[k]? = some x := ⟨_, List.getElem?_eq_getElem hlt⟩
      obtain ⟨g, o, rfl, c1⟩ := HC.out k x hx
      have CT := Lib.hid (fun w5 => isKey_own x w5)
      have HX := Lib.hid hx
      clear hx
      by_cases hb : isK x = true
      · have HR := Lib.hid (show untilI l = (k : Int) by
          have e : untilN l = k := untilN_of (by omega) HP.out (fun y hy => by rw [HX.out] at hy; cases hy; exact hb)
          unfold untilI
          rw [e, if_pos hlt])
        generalize isK x = b at *
        subst hb
        go_wp2_with (go_at_call 84; (with_reducible refine (CT.out _).mono ?_); rintro e w5 ⟨rfl, rfl⟩)
        go_ret
        exact ⟨by rw [HR.out]; rfl, rfl⟩
      · have hb : isK x = false := by simpa using hb
        have HS := Lib.hid (show ∀ i y, i < k + 1 → l[i]? = some y → isK y = false from fun i y hi hy => by
          rcases Nat.lt_or_ge i k with h | h
          · exact HP.out i y h hy
          · obtain rfl : i = k := by omega
            rw [HX.out] at hy; cases hy; exact hb)
        generalize isK x = b at *
        subst hb
        go_wp2_with (go_at_call 84; (with_reducible refine (CT.out _).mono ?_); rintro e w5 ⟨rfl, rfl⟩)
        go_roundw
        case rel => exact ⟨k + 1, by omega, by go_num, trivial, HS⟩
        case measure => simp [intOf]; omega
    · obtain rfl : k = l.length := by omega
      have hki : ¬ (l.length : Int) < (l.length : Int) := by omega
      have HR := Lib.hid (show untilI l = -1 by
        have e : untilN l = l.length := untilN_of (Nat.le_refl _) HP.out (fun y hy => by simp at hy)
        unfold untilI
        rw [e, if_neg (by omega)])
      go_wp2_with fail
      go_ret
      exact ⟨by rw [HR.out]; rfl, rfl⟩

/-- A row's beginning, and what is left of it. -/
theorem RowU.take {W : World} {ao : Option Addr} {l : List ByteArray} {c : Nat} (h : RowU W (.slice ao l.length c) l) {n : Nat} (hn : n ≤ l.length) (c' : Nat) : RowU W (.slice ao n c') (l.take n) := by
  obtain ⟨a, c0, he, hc⟩ := h
  injection he with h1 _ _
  subst h1
  refine ⟨ao, c', by rw [List.length_take, Nat.min_eq_left hn], fun i x hx => ?_⟩
  rw [List.getElem?_take] at hx
  split at hx
  · exact hc i x hx
  · cases hx
theorem RowU.drop {W : World} {ao a2 : Option Addr} {l : List ByteArray} {c : Nat} (h : RowU W (.slice ao l.length c) l) {n : Nat} (c' : Nat) (ha : ∀ g o, n < l.length → ao = some ⟨g, o, none⟩ → a2 = some ⟨g, o + n, none⟩) : RowU W (.slice a2 (l.length - n) c') (l.drop n) := by
  obtain ⟨a, c0, he, hc⟩ := h
  injection he with h1 _ _
  subst h1
  refine ⟨a2, c', by rw [List.length_drop], fun i x hx => ?_⟩
  rw [List.getElem?_drop] at hx
  have hi := (List.getElem?_eq_some_iff.1 hx).1
  obtain ⟨g, o, rfl, h2⟩ := hc _ x hx
  exact ⟨g, o + n, ha g o (by omega) rfl, by rw [Nat.add_assoc]; exact h2⟩
set_option maxRecDepth 100000 in
set_option maxHeartbeats 2000000 in
theorem until_own (ao : Option Addr) (c : Nat) (l : List ByteArray) (w1 w : World) (hv : RowU w1 (.slice ao l.length c) l) (hb1 : Below w1.heap.size w1 w) (hl : l.length ≤ 100000) (hc : l.length ≤ c) :
    Calls Try.prog 55 #[.slice ao l.length c] w fun e w' => (∃ a1 c1 a2, e = .returned (.tuple #[.slice a1 (untilN l) c1, .slice a2 (l.length - untilN l) (c - untilN l)]) ∧ RowU w1 (.slice a1 (untilN l) c1) (l.take (untilN l)) ∧ RowU w1 (.slice a2 (l.length - untilN l) (c - untilN l)) (l.drop (untilN l))) ∧ Below w.heap.size w w' := by
  have CI := Lib.hid (fun w5 (h : RowU w5 (.slice ao l.length c) l) => indexS_own (.slice ao l.length c) l w5 h hl)
  have HV := Lib.hid (hv.below hb1)
  have hu := untilN_le l
  clear hb1
  by_cases hk : untilN l < l.length
  · have HI : untilI l = (untilN l : Int) := by unfold untilI; rw [if_pos hk]
    rw [HI] at CI
    have HT := Lib.hid (fun c' => RowU.take hv hu c')
    have HD := Lib.hid (fun a2 c' ha => RowU.drop (a2 := a2) (n := untilN l) hv c' ha)
    generalize untilN l = n at *
    have hn1 : ¬ (n : Int) < 0 := by omega
    have hn0 : 0 ≤ (n : Int) := by omega
    have hnc : (n : Int) ≤ (c : Int) := by omega
    have hnl : (n : Int) ≤ (l.length : Int) := by omega
    clear hv HI
    go_enter Try.func55, Try.ntmps55
    go_wp2_with (go_at_call 83; (with_reducible refine (CI.out _ HV.out).mono ?_); rintro e w5 ⟨rfl, rfl⟩)
    go_quiet (fail)
    go_wp2_with fail
    go_ret2
    exact ⟨⟨_, _, _, rfl, HT.out _, HD.out _ _ (fun g o _ ha => by rw [ha]; simp [Addr.add_lit])⟩, below_drewN (Below.refl _ _) _⟩
  · have hz : untilN l = l.length := by omega
    have HI : untilI l = -1 := by unfold untilI; rw [if_neg hk]
    rw [HI] at CI
    rw [hz]
    have HT := Lib.hid (fun c' => RowU.take hv (Nat.le_refl l.length) c')
    have HD := Lib.hid (fun a2 c' ha => RowU.drop (a2 := a2) (n := l.length) hv c' ha)
    have hnc : (l.length : Int) ≤ (c : Int) := by omega
    have hnl : (l.length : Int) ≤ (l.length : Int) := by omega
    have hn0 : 0 ≤ (l.length : Int) := by omega
    clear hv HI hk hz hu
    go_enter Try.func55, Try.ntmps55
    go_wp2_with (go_at_call 83; (with_reducible refine (CI.out _ HV.out).mono ?_); rintro e w5 ⟨rfl, rfl⟩)
    go_quiet (fail)
    go_wp2_with fail
    all_goals go_ret2
    all_goals
      have e1 := HT.out
      have e2 := HD.out
      simp at e1 e2
      exact ⟨⟨_, _, _, rfl, e1 _, e2 _ _⟩, below_drewN (Below.refl _ _) _⟩
end Go.Proofs.Ytgdcdijdpflmdaa
