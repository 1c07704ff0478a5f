/-
  Package render: the document's Short.
-/
import Derived.Test.YtggfdmhfcpabdaaQFits
namespace Go.Proofs.Ytggfdmhfcpabdaa
open Go Go.RowKit

theorem fitK_unique {l : List ByteArray} {n : Int} {k : Nat} (h1 : k ≤ l.length) (h2 : ∀ j, j < k → ((joinS (l.take (j + 1))).size : Int) ≤ n) (h3 : k < l.length → ¬ ((joinS (l.take (k + 1))).size : Int) ≤ n) : fitK l n l.length 0 = k := by
  obtain ⟨a1, a2, a3⟩ := fitK_spec l n l.length 0 (by omega) (by omega) (fun j hj => by omega)
  generalize fitK l n l.length 0 = m at *
  rcases Nat.lt_trichotomy m k with h | h | h
  · exact absurd (h2 m h) (a3 (by omega))
  · exact h
  · exact absurd (a2 k h) (h3 (by omega))
theorem backK_step {l : List ByteArray} {k : Nat} {p : ByteArray} (h : l[k + 1]? = some p) : backK l (k + 2) = if p.size = 1 then backK l (k + 1) else k + 2 := by
  show (if (l[k + 1]?.map ByteArray.size) = some 1 then backK l (k + 1) else k + 2) = _
  rw [h]
  by_cases hp : p.size = 1
  · rw [if_pos hp, if_pos (by simp [hp])]
  · rw [if_neg hp, if_neg (by simpa using hp)]
theorem backK_small {l : List ByteArray} {k : Nat} (h : k ≤ 1) : backK l k = k := by
  rcases k with _ | _ | k
  · rfl
  · rfl
  · omega

set_option maxRecDepth 100000 in
set_option maxHeartbeats 4000000 in
theorem shortr_ref (v : Value) (T : TagM) (n : Int) (w : World) (hT : TagIs w v T) (ht : TagTiny T) :
    Calls Try.prog 20 #[v, .int .i64 n] w fun e w' => e = .returned (.string (shortR (subtagsT T) n)) ∧ Below w.heap.size w w' := by
  have SR := Lib.hid (fun w5 (hb : Below w.heap.size w w5) => subtags_ref v T w5 (hT.below hb) ht.fits)
  have hN := tiny_len8 ht
  have HSZ := Lib.hid (tiny_sizes ht)
  obtain ⟨ve, vv, vx, vp, rfl, ⟨a1, c1, rfl, _⟩, ⟨a2, c2, rfl, _⟩, ⟨a3, c3, rfl, _⟩, ⟨a4, c4, rfl, _⟩⟩ := hT
  clear ht
  have HR := Lib.hid (fun (m : Nat) (h : fitK (subtagsT T) n (subtagsT T).length 0 = m) => (show shortR (subtagsT T) n = caseS (joinS ((subtagsT T).take (backK (subtagsT T) m))) by unfold shortR; rw [h]))
  generalize shortR (subtagsT T) n = res at *
  generalize subtagsT T = P at *
  go_enter Try.func20, Try.ntmps20
  go_upto_region 2 with (go_at_call 14; (with_reducible refine (SR.out _ ((Below.refl _ w).alloc (Nat.le_refl _) _)).mono ?_); rintro e w6 ⟨u, rfl, ho, hb6⟩)
  have hbw : Below w.heap.size w w6 := ((Below.refl _ w).alloc (Nat.le_refl _) _).trans (hb6.mono (by simp))
  clear hb6 SR
  rcases owned_cases ho with ⟨rfl, hz⟩ | ⟨g, cap, rfl⟩
  · obtain rfl : P = [] := List.eq_nil_of_length_eq_zero hz
    have HF := Lib.hid (HR.out 0 rfl)
    have JR := Lib.hid (joinNone8 w6)
    have CR := Lib.hid (case_ref (joinS []) w6 (by decide))
    clear ho hz HR HSZ hN
    go_wp2
    go_loop [6] (fun i => i = .int .i64 0) (fun _ => 0)
    case atStart => rfl
    case round =>
      obtain rfl := hrel
      go_wp2
      go_loop [6] (fun i => i = .int .i64 0) (fun _ => 0)
      case atStart => rfl
      case round =>
        obtain rfl := hrel
        go_wp2_with (first
          | (go_at_call 13; (with_reducible refine JR.out.mono ?_); rintro e w7 ⟨rfl, rfl⟩)
          | (go_at_call 18; (with_reducible refine CR.out.mono ?_); rintro e w8 ⟨rfl, hb8⟩))
        go_ret
        exact ⟨ret_string HF.out.symm, hbw.trans (hb8.mono hbw.size)⟩
  · have HC := Lib.hid (own_cell ho)
    have hcap := own_cap ho
    obtain ⟨N, hNN⟩ : ∃ N, P.length = N := ⟨_, rfl⟩
    have HNN := Lib.hid hNN
    rw [hNN] at hcap hN ⊢
    have hcap' : (N : Int) ≤ (cap : Int) := by omega
    have hN' : (N : Int) ≤ 102 := by omega
    have HP := Lib.hid (fun p (hp : p ∈ P) => Nat.le_trans (HSZ.out p hp) (show 100 ≤ 1048576 by decide))
    clear ho hNN
    go_wp2
    go_loop [6] (fun i => ∃ k : Nat, k ≤ N ∧ i = .int .i64 k ∧ Hid (∀ j, j < k → ((joinS (P.take (j + 1))).size : Int) ≤ n)) (fun i => N - (intOf i).toNat)
    case atStart => exact ⟨0, Nat.zero_le _, rfl, Lib.hid (fun j hj => by omega)⟩
    case round =>
      obtain ⟨k, hk, rfl, HA⟩ := hrel
      have hk0 : (0 : Int) ≤ (k : Int) := by omega
      have hkb : (k : Int) ≤ 102 := by omega
      have hend : (k < N → ¬ ((joinS (P.take (k + 1))).size : Int) ≤ n) → Hid (fitK P n P.length 0 = k) := fun h => Lib.hid (fitK_unique (by rw [HNN.out]; exact hk) HA.out (by rw [HNN.out]; exact h))
      have hcs : (k < N ∧ ((joinS (P.take (k + 1))).size : Int) ≤ n) ∨ (k < N ∧ ¬ ((joinS (P.take (k + 1))).size : Int) ≤ n) ∨ k = N := by omega
      rcases hcs with ⟨hlt, hf⟩ | ⟨hlt, hf⟩ | hkN
      · have JR := Lib.hid (join_big g (k + 1) cap P w6 (by rw [HNN.out]; omega) (by rw [HNN.out]; omega) HP.out HC.out)
        have hlt' : (k : Int) < (N : Int) := by omega
        have hkc : (k : Int) + 1 ≤ (cap : Int) := by omega
        have HF := Lib.hid hf
        generalize joinS (P.take (k + 1)) = t at JR hf
        clear hend
        go_wp2_with (go_at_call 13; (with_reducible refine JR.out.mono ?_); rintro e w7 ⟨rfl, rfl⟩)
        go_round
        case rel => exact ⟨k + 1, by omega, by go_num, Lib.hid (fun j hj => by
          rcases Nat.lt_or_eq_of_le (Nat.le_of_lt_succ hj) with h | h
          · exact HA.out j h
          · subst h; exact HF.out)⟩
        case measure => simp [intOf]; omega
      case' inr.inl =>
        have JR := Lib.hid (join_big g (k + 1) cap P w6 (by rw [HNN.out]; omega) (by rw [HNN.out]; omega) HP.out HC.out)
        have hlt' : (k : Int) < (N : Int) := by omega
        have hkc : (k : Int) + 1 ≤ (cap : Int) := by omega
        have HE := hend (fun _ => hf)
        generalize joinS (P.take (k + 1)) = t at JR hf
        clear hend
        go_wp2_with (go_at_call 13; (with_reducible refine JR.out.mono ?_); rintro e w7 ⟨rfl, rfl⟩)
      case' inr.inr =>
        have hlt' : ¬ (k : Int) < (N : Int) := by omega
        have HE := hend (fun h => by omega)
        clear hend hkN
        go_wp2
      all_goals
        have HRK := Lib.hid (HR.out k HE.out)
        clear HE HR HA
        go_loop [6] (fun i => ∃ j : Nat, j ≤ k ∧ i = .int .i64 j ∧ Hid (backK P k = backK P j)) (fun i => (intOf i).toNat)
        case atStart => exact ⟨k, Nat.le_refl _, rfl, Lib.hid rfl⟩
        case round =>
          obtain ⟨j, hj, rfl, HB⟩ := hrel
          have hjb : (j : Int) ≤ 102 := by omega
          have hj0 : (0 : Int) ≤ (j : Int) := by omega
          have hjc : (j : Int) ≤ (cap : Int) := by omega
          have JR2 := Lib.hid (join_big g j cap P w6 (by rw [HNN.out]; omega) (by rw [HNN.out]; omega) HP.out HC.out)
          have CR2 := Lib.hid (case_ref (joinS (P.take j)) w6 (by
            have h1 := joinS_size 100 (P.take j) (fun p hp => HSZ.out p (List.mem_of_mem_take hp))
            have h2 : (P.take j).length ≤ 102 := by rw [List.length_take]; omega
            omega))
          rcases Nat.lt_or_ge 1 j with h1 | h1
          · obtain ⟨i, rfl⟩ : ∃ i, j = i + 2 := ⟨j - 2, by omega⟩
            obtain ⟨p, hp⟩ : ∃ p, P[i + 1]? = some p := ⟨_, List.getElem?_eq_getElem (by rw [HNN.out]; omega)⟩
            have hst := backK_step hp
            have hcj := HC.out (i + 1) p hp
            have hi0 : (0 : Int) ≤ (i : Int) := by omega
            have hib : (i : Int) ≤ 100 := by omega
            have hic : (i : Int) + 1 ≤ (cap : Int) := by omega
            have hin : (i : Int) + 2 ≤ (N : Int) := by omega
            by_cases hl : p.size = 1
            · rw [if_pos hl] at hst
              have e1 : ((p.size : Int) == 1) = true := by rw [beq_iff_eq]; omega
              have HS := Lib.hid (HB.out.trans hst)
              clear hst hl hp
              go_wp2
              go_round
              case rel => exact ⟨i + 1, by omega, by go_num, HS⟩
              case measure => simp [intOf]; omega
            · rw [if_neg hl] at hst
              have e1 : ((p.size : Int) == 1) = false := by rw [beq_eq_false_iff_ne]; omega
              have HF := Lib.hid (show res = caseS (joinS (P.take (i + 2))) by rw [HRK.out, HB.out, hst])
              clear hst hl hp
              go_wp2_with (first
                | (go_at_call 13; (with_reducible refine JR2.out.mono ?_); rintro e w7 ⟨rfl, rfl⟩)
                | (go_at_call 18; (with_reducible refine CR2.out.mono ?_); rintro e w8 ⟨rfl, hb8⟩))
              go_ret
              exact ⟨ret_string HF.out.symm, hbw.trans (hb8.mono hbw.size)⟩
          · have HF := Lib.hid (show res = caseS (joinS (P.take j)) by rw [HRK.out, HB.out, backK_small h1])
            have h1i : ¬ (1 : Int) < (j : Int) := by omega
            go_wp2_with (first
              | (go_at_call 13; (with_reducible refine JR2.out.mono ?_); rintro e w7 ⟨rfl, rfl⟩)
              | (go_at_call 18; (with_reducible refine CR2.out.mono ?_); rintro e w8 ⟨rfl, hb8⟩))
            go_ret
            exact ⟨ret_string HF.out.symm, hbw.trans (hb8.mono hbw.size)⟩
end Go.Proofs.Ytggfdmhfcpabdaa
