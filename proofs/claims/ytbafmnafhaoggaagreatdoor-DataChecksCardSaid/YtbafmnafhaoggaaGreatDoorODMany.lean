/-
  image.Decode: so many rules.
-/
import Derived.Test.YtbafmnafhaoggaaGreatDoorODRule
import Derived.Test.YtbafmnafhaoggaaGreatDoorODThings
namespace Go.Proofs.YtbafmnafhaoggaaGreatDoor
open Go Go.RowKit

theorem infoRD : (Tryz.prog.info? 79).map (fun i => (i.zero, i.size, i.bytes)) = some (some (.agg #[.int .i64 0, .int .i64 0, .bool false, .string ByteArray.empty, .string ByteArray.empty, .string ByteArray.empty, .string ByteArray.empty, .string ByteArray.empty, .string ByteArray.empty]), 9, 120) := by kernel_rfl
def rowRD (b : ByteArray) (p n : Nat) : List Rl := (List.range n).map fun i => rlD b (p + 51 * i)
theorem rowRD_next (b : ByteArray) (p n : Nat) : ((rowRD b p (n + 1)).map rlC).flatMap id = ((rowRD b p n).map rlC).flatMap id ++ rlC (rlD b (p + 51 * n)) := by
  unfold rowRD
  rw [List.range_succ, List.map_append, List.map_append, List.flatMap_append]
  simp
set_option maxRecDepth 100000 in
set_option maxHeartbeats 8000000 in
theorem thingsR_any {W : World} {R T p n : Nat} {b : ByteArray} (h : RdZ W R T b p) (hn : n ≤ 65535) :
    Calls Tryz.prog 67 #[.int .i64 (n : Int), .func (.func 68) #[] #[.pointer (some ⟨T, 0, none⟩)]] W fun e w' => ∃ v, e = .returned v ∧ w'.ownsRow W.heap.size 79 9 v n (((rowRD b p n).map rlC).flatMap id) ∧ RdZ w' R T b (p + 51 * n) ∧ W.grownBy w' (some R) := by
  obtain ⟨i0, hii, iz0, iz1, iz2⟩ := info_parts infoRD
  have hR := lt_of_block h.rd
  have hT := lt_of_block h.bx
  have HN := Lib.hid (fun (j : Nat) w' (hr : RdZ w' R T b (p + 51 * j)) (hw : W.grownBy w' (some R)) => nextR_any hr)
  have HX := Lib.hid (fun j => rowRD_next b p j)
  have HO := Lib.hid (show W.ownsRow W.heap.size 79 9 (.slice none 0 0) 0 (((rowRD b p 0).map rlC).flatMap id) from World.ownsRow_nil _ _ _ _)
  have HR := Lib.hid (show RdZ W R T b (p + 51 * 0) from h)
  have HRT := Lib.hid (And.intro hR hT)
  have hni : (n : Int) ≤ 65535 := by omega
  clear h hR hT
  go_enter Tryz.func67, Tryz.ntmps67
  go_wp2_with fail
  go_loopw [5, 7] (fun v i wr => ∃ k : Nat, k ≤ n ∧ i = .int .i64 (k : Int) ∧ Hid (wr.ownsRow W.heap.size 79 9 v k (((rowRD b p k).map rlC).flatMap id)) ∧ Hid (RdZ wr R T b (p + 51 * k)) ∧ Hid (W.grownBy wr (some R))) (fun _ i _ => n - (intOf i).toNat)
  case atStart => exact ⟨0, Nat.zero_le _, rfl, HO, HR, Lib.hid (World.grownBy.refl _ _)⟩
  case round =>
    obtain ⟨k, hk, rfl, HOk, HRk, HGk⟩ := hrel
    clear HO HR
    by_cases hlt : k < n
    · have hlt' : (k : Int) < (n : Int) := by omega
      have hk0 : (0 : Int) ≤ (k : Int) := by omega
      have HNk := Lib.hid (HN.out k _ HRk.out HGk.out)
      have HXk := Lib.hid (HX.out k)
      have HE := Lib.hid (show rlC (rlD b (p + 51 * k)) = [.int .i64 (rlD b (p + 51 * k)).lv, .int .i64 (rlD b (p + 51 * k)).co, .bool (rlD b (p + 51 * k)).ow, .string (rlD b (p + 51 * k)).d0, .string (rlD b (p + 51 * k)).d1, .string (rlD b (p + 51 * k)).d2, .string (rlD b (p + 51 * k)).s0, .string (rlD b (p + 51 * k)).s1, .string (rlD b (p + 51 * k)).s2] from rfl)
      rw [HE.out] at HXk
      clear HE
      obtain ⟨x, hx⟩ : ∃ x, rlD b (p + 51 * k) = x := ⟨_, rfl⟩
      have HNx := Lib.hid (HNk.out.mono (R' := fun e w' => e = .returned (.agg #[.int .i64 (rlD b (p + 51 * k)).lv, .int .i64 (rlD b (p + 51 * k)).co, .bool (rlD b (p + 51 * k)).ow, .string (rlD b (p + 51 * k)).d0, .string (rlD b (p + 51 * k)).d1, .string (rlD b (p + 51 * k)).d2, .string (rlD b (p + 51 * k)).s0, .string (rlD b (p + 51 * k)).s1, .string (rlD b (p + 51 * k)).s2]) ∧ RdZ w' R T b (p + 51 * k + 51) ∧ _) fun e w' q => q)
      clear HNk
      have HNk := HNx
      clear HNx
      rw [hx] at HNk HXk
      clear hx
      have hsz := HGk.out.size
      obtain ⟨va, vn, vc, rfl⟩ : ∃ a n c, u5 = Value.slice a n c := by rcases owned_cases HOk.out with ⟨h1, _⟩ | ⟨g9, c9, h1⟩ <;> exact ⟨_, _, _, h1⟩
      obtain rfl : k = vn := by
        rcases owned_cases HOk.out with ⟨h1, h2⟩ | ⟨g9, c9, h1⟩
        · cases h1; exact h2
        · cases h1; rfl
      go_wp2_with (first
        | (go_at_call 68; (with_reducible refine HNk.out.mono ?_); rintro e w5 ⟨rfl, hr5, hg5⟩; have HO5 := Lib.hid (own_keptR HOk.out hg5 HRT.out.1); have HG5 := Lib.hid (grown_transR HGk.out hg5); have hs5 := HG5.out.size; have hr5' := hr5.below ((Below.refl _ w5).alloc (Nat.le_refl _) (.cells #[.int .i64 x.lv, .int .i64 x.co, .bool x.ow, .string x.d0, .string x.d1, .string x.d2, .string x.s0, .string x.s1, .string x.s2] 79)); have HG5a := Lib.hid (grown_lowR HG5.out ((Below.refl W.heap.size w5).alloc hs5 (.cells #[.int .i64 x.lv, .int .i64 x.co, .bool x.ow, .string x.d0, .string x.d1, .string x.d2, .string x.s0, .string x.s1, .string x.s2] 79))))
        | (at_builtin; refine wpList_append_anyW _ rfl _ _ 26 rfl W.heap.size 79 i0 (.agg #[.int .i64 0, .int .i64 0, .bool false, .string ByteArray.empty, .string ByteArray.empty, .string ByteArray.empty, .string ByteArray.empty, .string ByteArray.empty, .string ByteArray.empty]) 9 120 Tryz.underlying26 hii iz0 iz1 iz2 rfl (by decide) _ k _ rfl (HO5.out.alloc _) (some ⟨w5.heap.size, 0, none⟩) 1 1 [.int .i64 x.lv, .int .i64 x.co, .bool x.ow, .string x.d0, .string x.d1, .string x.d2, .string x.s0, .string x.s1, .string x.s2] rfl rfl (fun h => by cases h) (fun ad had j u hu => by cases had; exact World.news_of_block (World.alloc_heap_new w5 _) j u hu) (fun u hu => List.all_eq_true.1 (show ([.int .i64 x.lv, .int .i64 x.co, .bool x.ow, .string x.d0, .string x.d1, .string x.d2, .string x.s0, .string x.s1, .string x.s2] : List Value).all (·.oneCell') = true from rfl) u hu) (by unfold maxLen; omega) (by omega) (Nat.le_trans hs5 (by simp)) ?_; intro v8 w8 hown8 hgrow8; have HR8 := Lib.hid (hr5'.grown hgrow8 (fun g hg => ((HO5.out.alloc (.cells #[.int .i64 x.lv, .int .i64 x.co, .bool x.ow, .string x.d0, .string x.d1, .string x.d2, .string x.s0, .string x.s1, .string x.s2] 79)).lt g hg).1) HRT.out.1 HRT.out.2); have HG8 := Lib.hid (grown_rowR HG5a.out hgrow8 (fun g hg => ((HO5.out.alloc (.cells #[.int .i64 x.lv, .int .i64 x.co, .bool x.ow, .string x.d0, .string x.d1, .string x.d2, .string x.s0, .string x.s1, .string x.s2] 79)).lt g hg).1))))
      go_roundw
      case rel =>
        refine ⟨k + 1, by omega, by go_num, Lib.hid ?_, Lib.hid ?_, HG8⟩
        · rw [HXk.out]; exact hown8
        · rw [show p + 51 * (k + 1) = p + 51 * k + 51 by omega]; exact HR8.out
      case measure => simp [intOf]; omega
    · obtain rfl : k = n := by omega
      go_wp2_with fail
      go_ret
      exact ⟨_, rfl, HOk.out, HRk.out, HGk.out⟩
end Go.Proofs.YtbafmnafhaoggaaGreatDoor
