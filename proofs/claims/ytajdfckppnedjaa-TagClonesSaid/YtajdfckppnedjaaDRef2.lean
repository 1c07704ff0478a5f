/-
  The document's own answers for package split: Join.
-/
import Derived.Test.YtajdfckppnedjaaDRefS
import Derived.Test.YtajdfckppnedjaaDJoinS
namespace Go.Proofs.Ytajdfckppnedjaa
open Go Go.RowKit

theorem joinS_snoc (l : List ByteArray) (h : l ≠ []) (p : ByteArray) : joinS (l ++ [p]) = joinS l ++ ⟨#[45]⟩ ++ p := by
  apply ofL_ext
  unfold joinS
  rw [bs_glue, bs_ofL, bs_ofL, List.map_append, List.map_cons, List.map_nil, joinP_snoc (fun e => h (List.map_eq_nil_iff.1 e))]
theorem joinS_size (m : Nat) (l : List ByteArray) (h : ∀ p ∈ l, p.size ≤ m) : (joinS l).size ≤ (m + 1) * l.length := by
  unfold joinS
  rw [size_ofL]
  have := joinP_len m (l.map bs) (fun p hp => by obtain ⟨q, hq, rfl⟩ := List.mem_map.1 hp; rw [size_bs]; exact h q hq)
  rwa [List.length_map] at this

set_option maxRecDepth 100000 in
set_option maxHeartbeats 4000000 in
theorem join_big (g n cap : Nat) (l : List ByteArray) (w : World) (hn : n ≤ l.length) (hl : l.length ≤ 20003) (hp : ∀ p ∈ l, p.size ≤ 1048576) (hc : ∀ i p, l[i]? = some p → w.cell? ⟨g, i, none⟩ = some (.string p)) :
    Calls Try.prog 10 #[.slice (some ⟨g, 0, none⟩) n cap] w fun e w' => e = .returned (.string (joinS (l.take n))) ∧ w = w' := by
  have HC := Lib.hid hc
  have HP := Lib.hid hp
  clear hc hp
  go_enter Try.func10, Try.ntmps10
  go_wp2
  go_loop [3, 4] (fun t i => ∃ k : Nat, k ≤ n ∧ i = .int .i64 k ∧ t = .string (joinS (l.take k))) (fun _ i => n - (intOf i).toNat)
  case atStart => exact ⟨0, Nat.zero_le _, rfl, rfl⟩
  case round =>
    obtain ⟨k, hk, rfl, rfl⟩ := hrel
    rcases Nat.lt_or_ge k n with hlt | hge
    · have hkl : k < l.length := by omega
      obtain ⟨p, hp⟩ : ∃ p, l[k] = p := ⟨_, rfl⟩
      have hck := HC.out k p (by rw [List.getElem?_eq_getElem hkl, hp])
      have hps : p.size ≤ 1048576 := HP.out p (by rw [← hp]; exact List.getElem_mem _)
      have hjs : (joinS (l.take k)).size ≤ 20974685731 := by
        have := joinS_size 1048576 (l.take k) (fun q hq => HP.out q (List.mem_of_mem_take hq))
        have hlen : (l.take k).length ≤ 20003 := by rw [List.length_take]; omega
        omega
      have htk : l.take (k + 1) = l.take k ++ [p] := by rw [List.take_succ_eq_append_getElem hkl, hp]
      have hki : (k : Int) < (n : Int) := by omega
      have hk0 : (0 : Int) ≤ (k : Int) := by omega
      rcases k with _ | k
      · have HS := Lib.hid (show joinS (l.take (0 + 1)) = p by rw [htk]; exact join_single p)
        have HZ := Lib.hid (show joinS (l.take 0) = ⟨#[]⟩ from rfl)
        rw [HZ.out]
        clear hp htk hjs
        go_wp2
        go_round
        case rel => exact ⟨1, by omega, rfl, by rw [HS.out]; first | rfl | (congr 1; apply ofL_ext; simp [bs])⟩
        case measure => simp [intOf]; omega
      · have HS := Lib.hid (show joinS (l.take (k + 1 + 1)) = joinS (l.take (k + 1)) ++ ⟨#[45]⟩ ++ p by
          rw [htk, joinS_snoc _ (fun e => by have h := congrArg List.length e; rw [List.length_take, Nat.min_eq_left (by omega)] at h; simp at h)])
        obtain ⟨t, ht⟩ : ∃ t, joinS (l.take (k + 1)) = t := ⟨_, rfl⟩
        rw [ht] at hjs HS ⊢
        clear hp htk ht
        go_wp2
        go_round
        case rel => exact ⟨k + 1 + 1, by omega, by go_num, by rw [HS.out]⟩
        case measure => simp [intOf]; omega
    · obtain rfl : k = n := by omega
      go_wp2
      go_ret
      exact ⟨rfl, rfl⟩
theorem join_ref (g n cap : Nat) (l : List ByteArray) (w : World) (hn : n ≤ l.length) (hl : l.length ≤ 1024) (hp : ∀ p ∈ l, p.size ≤ 1024) (hc : ∀ i p, l[i]? = some p → w.cell? ⟨g, i, none⟩ = some (.string p)) :
    Calls Try.prog 10 #[.slice (some ⟨g, 0, none⟩) n cap] w fun e w' => e = .returned (.string (joinS (l.take n))) ∧ w = w' :=
  join_big g n cap l w hn (by omega) (fun p h => by have := hp p h; omega) hc
end Go.Proofs.Ytajdfckppnedjaa
