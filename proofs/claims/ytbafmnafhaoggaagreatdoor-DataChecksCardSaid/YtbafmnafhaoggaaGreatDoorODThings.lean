/-
  image.Decode: so many things.
-/
import Derived.Test.YtbafmnafhaoggaaGreatDoorODNext
import Derived.Test.YtbafmnafhaoggaaGreatDoorWApp
namespace Go.Proofs.YtbafmnafhaoggaaGreatDoor
open Go Go.RowKit

theorem infoAD : (Tryz.prog.info? 42).map (fun i => (i.zero, i.size, i.bytes)) = some (some (.agg #[.int .i64 0, .string ByteArray.empty, .string ByteArray.empty, .string ByteArray.empty, .string ByteArray.empty, .string ByteArray.empty]), 6, 88) := by kernel_rfl
def rowAD (b : ByteArray) (p n : Nat) : List Al := (List.range n).map fun i => alD b (p + 41 * i)
theorem rowAD_next (b : ByteArray) (p n : Nat) : ((rowAD b p (n + 1)).map alC).flatMap id = ((rowAD b p n).map alC).flatMap id ++ alC (alD b (p + 41 * n)) := by
  unfold rowAD
  rw [List.range_succ, List.map_append, List.map_append, List.flatMap_append]
  simp
set_option maxRecDepth 100000 in
set_option maxHeartbeats 8000000 in
theorem thingsA_any {W : World} {R T p n : Nat} {b : ByteArray} (h : RdZ W R T b p) (hn : n ≤ 65535) (hG : GL W) (hgR : 1 ≠ R) :
    Calls Tryz.prog 61 #[.int .i64 (n : Int), .func (.func 62) #[] #[.pointer (some ⟨T, 0, none⟩)]] W fun e w' => ∃ v, e = .returned v ∧ w'.ownsRow W.heap.size 42 6 v n (((rowAD b p n).map alC).flatMap id) ∧ RdZ w' R T b (p + 41 * n) ∧ W.grownBy w' (some R) := by
  obtain ⟨i0, hii, iz0, iz1, iz2⟩ := info_parts infoAD
  have hR := lt_of_block h.rd
  have hT := lt_of_block h.bx
  have HN := Lib.hid (fun (j : Nat) w' (hr : RdZ w' R T b (p + 41 * j)) (hw : W.grownBy w' (some R)) => nextA_any hr (hG.block (hw.block _ hG.size (fun e => hgR (Option.some.inj e)))) hgR)
  have HX := Lib.hid (fun j => rowAD_next b p j)
  have HO := Lib.hid (show W.ownsRow W.heap.size 42 6 (.slice none 0 0) 0 (((rowAD b p 0).map alC).flatMap id) from World.ownsRow_nil _ _ _ _)
  have HR := Lib.hid (show RdZ W R T b (p + 41 * 0) from h)
  have HRT := Lib.hid (And.intro hR hT)
  have hni : (n : Int) ≤ 65535 := by omega
  clear h hR hT hG
  go_enter Tryz.func61, Tryz.ntmps61
  go_wp2_with fail
  go_loopw [5, 7] (fun v i wr => ∃ k : Nat, k ≤ n ∧ i = .int .i64 (k : Int) ∧ Hid (wr.ownsRow W.heap.size 42 6 v k (((rowAD b p k).map alC).flatMap id)) ∧ Hid (RdZ wr R T b (p + 41 * k)) ∧ Hid (W.grownBy wr (some R))) (fun _ i _ => n - (intOf i).toNat)
  case atStart => exact ⟨0, Nat.zero_le _, rfl, HO, HR, Lib.hid (World.grownBy.refl _ _)⟩
  case round =>
    obtain ⟨k, hk, rfl, HOk, HRk, HGk⟩ := hrel
    clear HO HR
    by_cases hlt : k < n
    · have hlt' : (k : Int) < (n : Int) := by omega
      have hk0 : (0 : Int) ≤ (k : Int) := by omega
      have HNk := Lib.hid (HN.out k _ HRk.out HGk.out)
      have HXk := Lib.hid (HX.out k)
      have HE := Lib.hid (show alC (alD b (p + 41 * k)) = [.int .i64 (alD b (p + 41 * k)).k, .string (alD b (p + 41 * k)).a, .string (alD b (p + 41 * k)).b, .string (alD b (p + 41 * k)).l, .string (alD b (p + 41 * k)).s, .string (alD b (p + 41 * k)).r] from rfl)
      rw [HE.out] at HXk
      clear HE
      obtain ⟨x, hx⟩ : ∃ x, alD b (p + 41 * k) = x := ⟨_, rfl⟩
      rw [hx] at HNk HXk
      clear hx
      have hsz := HGk.out.size
      obtain ⟨va, vn, vc, rfl⟩ : ∃ a n c, u5 = Value.slice a n c := by rcases owned_cases HOk.out with ⟨h1, _⟩ | ⟨g9, c9, h1⟩ <;> exact ⟨_, _, _, h1⟩
      obtain rfl : k = vn := by
        rcases owned_cases HOk.out with ⟨h1, h2⟩ | ⟨g9, c9, h1⟩
        · cases h1; exact h2
        · cases h1; rfl
      go_wp2_with (first
        | (go_at_call 62; (with_reducible refine HNk.out.mono ?_); rintro e w5 ⟨rfl, hr5, hg5⟩; have HO5 := Lib.hid (own_keptR HOk.out hg5 HRT.out.1); have HG5 := Lib.hid (grown_transR HGk.out hg5); have hs5 := HG5.out.size; have hr5' := hr5.below ((Below.refl _ w5).alloc (Nat.le_refl _) (.cells #[.int .i64 x.k, .string x.a, .string x.b, .string x.l, .string x.s, .string x.r] 42)); have HG5a := Lib.hid (grown_lowR HG5.out ((Below.refl W.heap.size w5).alloc hs5 (.cells #[.int .i64 x.k, .string x.a, .string x.b, .string x.l, .string x.s, .string x.r] 42))))
        | (at_builtin; refine wpList_append_anyW _ rfl _ _ 24 rfl W.heap.size 42 i0 (.agg #[.int .i64 0, .string ByteArray.empty, .string ByteArray.empty, .string ByteArray.empty, .string ByteArray.empty, .string ByteArray.empty]) 6 88 Tryz.underlying24 hii iz0 iz1 iz2 rfl (by decide) _ k _ rfl (HO5.out.alloc _) (some ⟨w5.heap.size, 0, none⟩) 1 1 [.int .i64 x.k, .string x.a, .string x.b, .string x.l, .string x.s, .string x.r] rfl rfl (fun h => by cases h) (fun ad had j u hu => by cases had; exact World.news_of_block (World.alloc_heap_new w5 _) j u hu) (fun u hu => List.all_eq_true.1 (show ([.int .i64 x.k, .string x.a, .string x.b, .string x.l, .string x.s, .string x.r] : List Value).all (·.oneCell') = true from rfl) u hu) (by unfold maxLen; omega) (by omega) (Nat.le_trans hs5 (by simp)) ?_; intro v8 w8 hown8 hgrow8; have HR8 := Lib.hid (hr5'.grown hgrow8 (fun g hg => ((HO5.out.alloc (.cells #[.int .i64 x.k, .string x.a, .string x.b, .string x.l, .string x.s, .string x.r] 42)).lt g hg).1) HRT.out.1 HRT.out.2); have HG8 := Lib.hid (grown_rowR HG5a.out hgrow8 (fun g hg => ((HO5.out.alloc (.cells #[.int .i64 x.k, .string x.a, .string x.b, .string x.l, .string x.s, .string x.r] 42)).lt g hg).1))))
      go_roundw
      case rel =>
        refine ⟨k + 1, by omega, by go_num, Lib.hid ?_, Lib.hid ?_, HG8⟩
        · rw [HXk.out]; exact hown8
        · rw [show p + 41 * (k + 1) = p + 41 * k + 41 by omega]; exact HR8.out
      case measure => simp [intOf]; omega
    · obtain rfl : k = n := by omega
      go_wp2_with fail
      go_ret
      exact ⟨_, rfl, HOk.out, HRk.out, HGk.out⟩

theorem infoLD : (Tryz.prog.info? 75).map (fun i => (i.zero, i.size, i.bytes)) = some (some (.agg #[.string ByteArray.empty, .string ByteArray.empty, .string ByteArray.empty, .string ByteArray.empty, .string ByteArray.empty, .string ByteArray.empty]), 6, 96) := by kernel_rfl
def rowLD (b : ByteArray) (p n : Nat) : List Lk := (List.range n).map fun i => lkD b (p + 48 * i)
theorem rowLD_next (b : ByteArray) (p n : Nat) : ((rowLD b p (n + 1)).map lkC).flatMap id = ((rowLD b p n).map lkC).flatMap id ++ lkC (lkD b (p + 48 * n)) := by
  unfold rowLD
  rw [List.range_succ, List.map_append, List.map_append, List.flatMap_append]
  simp
set_option maxRecDepth 100000 in
set_option maxHeartbeats 8000000 in
theorem thingsL_any {W : World} {R T p n : Nat} {b : ByteArray} (h : RdZ W R T b p) (hn : n ≤ 65535) :
    Calls Tryz.prog 64 #[.int .i64 (n : Int), .func (.func 65) #[] #[.pointer (some ⟨T, 0, none⟩)]] W fun e w' => ∃ v, e = .returned v ∧ w'.ownsRow W.heap.size 75 6 v n (((rowLD b p n).map lkC).flatMap id) ∧ RdZ w' R T b (p + 48 * n) ∧ W.grownBy w' (some R) := by
  obtain ⟨i0, hii, iz0, iz1, iz2⟩ := info_parts infoLD
  have hR := lt_of_block h.rd
  have hT := lt_of_block h.bx
  have HN := Lib.hid (fun (j : Nat) w' (hr : RdZ w' R T b (p + 48 * j)) (hw : W.grownBy w' (some R)) => nextL_any hr)
  have HX := Lib.hid (fun j => rowLD_next b p j)
  have HO := Lib.hid (show W.ownsRow W.heap.size 75 6 (.slice none 0 0) 0 (((rowLD b p 0).map lkC).flatMap id) from World.ownsRow_nil _ _ _ _)
  have HR := Lib.hid (show RdZ W R T b (p + 48 * 0) from h)
  have HRT := Lib.hid (And.intro hR hT)
  have hni : (n : Int) ≤ 65535 := by omega
  clear h hR hT
  go_enter Tryz.func64, Tryz.ntmps64
  go_wp2_with fail
  go_loopw [5, 7] (fun v i wr => ∃ k : Nat, k ≤ n ∧ i = .int .i64 (k : Int) ∧ Hid (wr.ownsRow W.heap.size 75 6 v k (((rowLD b p k).map lkC).flatMap id)) ∧ Hid (RdZ wr R T b (p + 48 * k)) ∧ Hid (W.grownBy wr (some R))) (fun _ i _ => n - (intOf i).toNat)
  case atStart => exact ⟨0, Nat.zero_le _, rfl, HO, HR, Lib.hid (World.grownBy.refl _ _)⟩
  case round =>
    obtain ⟨k, hk, rfl, HOk, HRk, HGk⟩ := hrel
    clear HO HR
    by_cases hlt : k < n
    · have hlt' : (k : Int) < (n : Int) := by omega
      have hk0 : (0 : Int) ≤ (k : Int) := by omega
      have HNk := Lib.hid (HN.out k _ HRk.out HGk.out)
      have HXk := Lib.hid (HX.out k)
      have HE := Lib.hid (show lkC (lkD b (p + 48 * k)) = [.string (lkD b (p + 48 * k)).l, .string (lkD b (p + 48 * k)).s, .string (lkD b (p + 48 * k)).r, .string (lkD b (p + 48 * k)).tl, .string (lkD b (p + 48 * k)).ts, .string (lkD b (p + 48 * k)).tr] from rfl)
      rw [HE.out] at HXk
      clear HE
      obtain ⟨x, hx⟩ : ∃ x, lkD b (p + 48 * k) = x := ⟨_, rfl⟩
      have HNx := Lib.hid (HNk.out.mono (R' := fun e w' => e = .returned (.agg #[.string (lkD b (p + 48 * k)).l, .string (lkD b (p + 48 * k)).s, .string (lkD b (p + 48 * k)).r, .string (lkD b (p + 48 * k)).tl, .string (lkD b (p + 48 * k)).ts, .string (lkD b (p + 48 * k)).tr]) ∧ RdZ w' R T b (p + 48 * k + 48) ∧ _) fun e w' q => q)
      clear HNk
      have HNk := HNx
      clear HNx
      rw [hx] at HNk HXk
      clear hx
      have hsz := HGk.out.size
      obtain ⟨va, vn, vc, rfl⟩ : ∃ a n c, u5 = Value.slice a n c := by rcases owned_cases HOk.out with ⟨h1, _⟩ | ⟨g9, c9, h1⟩ <;> exact ⟨_, _, _, h1⟩
      obtain rfl : k = vn := by
        rcases owned_cases HOk.out with ⟨h1, h2⟩ | ⟨g9, c9, h1⟩
        · cases h1; exact h2
        · cases h1; rfl
      go_wp2_with (first
        | (go_at_call 65; (with_reducible refine HNk.out.mono ?_); rintro e w5 ⟨rfl, hr5, hg5⟩; have HO5 := Lib.hid (own_keptR HOk.out hg5 HRT.out.1); have HG5 := Lib.hid (grown_transR HGk.out hg5); have hs5 := HG5.out.size; have hr5' := hr5.below ((Below.refl _ w5).alloc (Nat.le_refl _) (.cells #[.string x.l, .string x.s, .string x.r, .string x.tl, .string x.ts, .string x.tr] 75)); have HG5a := Lib.hid (grown_lowR HG5.out ((Below.refl W.heap.size w5).alloc hs5 (.cells #[.string x.l, .string x.s, .string x.r, .string x.tl, .string x.ts, .string x.tr] 75))))
        | (at_builtin; refine wpList_append_anyW _ rfl _ _ 25 rfl W.heap.size 75 i0 (.agg #[.string ByteArray.empty, .string ByteArray.empty, .string ByteArray.empty, .string ByteArray.empty, .string ByteArray.empty, .string ByteArray.empty]) 6 96 Tryz.underlying25 hii iz0 iz1 iz2 rfl (by decide) _ k _ rfl (HO5.out.alloc _) (some ⟨w5.heap.size, 0, none⟩) 1 1 [.string x.l, .string x.s, .string x.r, .string x.tl, .string x.ts, .string x.tr] rfl rfl (fun h => by cases h) (fun ad had j u hu => by cases had; exact World.news_of_block (World.alloc_heap_new w5 _) j u hu) (fun u hu => List.all_eq_true.1 (show ([.string x.l, .string x.s, .string x.r, .string x.tl, .string x.ts, .string x.tr] : List Value).all (·.oneCell') = true from rfl) u hu) (by unfold maxLen; omega) (by omega) (Nat.le_trans hs5 (by simp)) ?_; intro v8 w8 hown8 hgrow8; have HR8 := Lib.hid (hr5'.grown hgrow8 (fun g hg => ((HO5.out.alloc (.cells #[.string x.l, .string x.s, .string x.r, .string x.tl, .string x.ts, .string x.tr] 75)).lt g hg).1) HRT.out.1 HRT.out.2); have HG8 := Lib.hid (grown_rowR HG5a.out hgrow8 (fun g hg => ((HO5.out.alloc (.cells #[.string x.l, .string x.s, .string x.r, .string x.tl, .string x.ts, .string x.tr] 75)).lt g hg).1))))
      go_roundw
      case rel =>
        refine ⟨k + 1, by omega, by go_num, Lib.hid ?_, Lib.hid ?_, HG8⟩
        · rw [HXk.out]; exact hown8
        · rw [show p + 48 * (k + 1) = p + 48 * k + 48 by omega]; exact HR8.out
      case measure => simp [intOf]; omega
    · obtain rfl : k = n := by omega
      go_wp2_with fail
      go_ret
      exact ⟨_, rfl, HOk.out, HRk.out, HGk.out⟩

theorem infoMD : (Tryz.prog.info? 82).map (fun i => (i.zero, i.size, i.bytes)) = some (some (.agg #[.string ByteArray.empty, .string ByteArray.empty]), 2, 32) := by kernel_rfl
def rowMD (b : ByteArray) (p n : Nat) : List Mb := (List.range n).map fun i => mbD b (p + 16 * i)
theorem rowMD_next (b : ByteArray) (p n : Nat) : ((rowMD b p (n + 1)).map mbC).flatMap id = ((rowMD b p n).map mbC).flatMap id ++ mbC (mbD b (p + 16 * n)) := by
  unfold rowMD
  rw [List.range_succ, List.map_append, List.map_append, List.flatMap_append]
  simp
set_option maxRecDepth 100000 in
set_option maxHeartbeats 8000000 in
theorem thingsM_any {W : World} {R T p n : Nat} {b : ByteArray} (h : RdZ W R T b p) (hn : n ≤ 65535) :
    Calls Tryz.prog 69 #[.int .i64 (n : Int), .func (.func 70) #[] #[.pointer (some ⟨T, 0, none⟩)]] W fun e w' => ∃ v, e = .returned v ∧ w'.ownsRow W.heap.size 82 2 v n (((rowMD b p n).map mbC).flatMap id) ∧ RdZ w' R T b (p + 16 * n) ∧ W.grownBy w' (some R) := by
  obtain ⟨i0, hii, iz0, iz1, iz2⟩ := info_parts infoMD
  have hR := lt_of_block h.rd
  have hT := lt_of_block h.bx
  have HN := Lib.hid (fun (j : Nat) w' (hr : RdZ w' R T b (p + 16 * j)) (hw : W.grownBy w' (some R)) => nextM_any hr)
  have HX := Lib.hid (fun j => rowMD_next b p j)
  have HO := Lib.hid (show W.ownsRow W.heap.size 82 2 (.slice none 0 0) 0 (((rowMD b p 0).map mbC).flatMap id) from World.ownsRow_nil _ _ _ _)
  have HR := Lib.hid (show RdZ W R T b (p + 16 * 0) from h)
  have HRT := Lib.hid (And.intro hR hT)
  have hni : (n : Int) ≤ 65535 := by omega
  clear h hR hT
  go_enter Tryz.func69, Tryz.ntmps69
  go_wp2_with fail
  go_loopw [5, 7] (fun v i wr => ∃ k : Nat, k ≤ n ∧ i = .int .i64 (k : Int) ∧ Hid (wr.ownsRow W.heap.size 82 2 v k (((rowMD b p k).map mbC).flatMap id)) ∧ Hid (RdZ wr R T b (p + 16 * k)) ∧ Hid (W.grownBy wr (some R))) (fun _ i _ => n - (intOf i).toNat)
  case atStart => exact ⟨0, Nat.zero_le _, rfl, HO, HR, Lib.hid (World.grownBy.refl _ _)⟩
  case round =>
    obtain ⟨k, hk, rfl, HOk, HRk, HGk⟩ := hrel
    clear HO HR
    by_cases hlt : k < n
    · have hlt' : (k : Int) < (n : Int) := by omega
      have hk0 : (0 : Int) ≤ (k : Int) := by omega
      have HNk := Lib.hid (HN.out k _ HRk.out HGk.out)
      have HXk := Lib.hid (HX.out k)
      have HE := Lib.hid (show mbC (mbD b (p + 16 * k)) = [.string (mbD b (p + 16 * k)).st, .string (mbD b (p + 16 * k)).rg] from rfl)
      rw [HE.out] at HXk
      clear HE
      obtain ⟨x, hx⟩ : ∃ x, mbD b (p + 16 * k) = x := ⟨_, rfl⟩
      have HNx := Lib.hid (HNk.out.mono (R' := fun e w' => e = .returned (.agg #[.string (mbD b (p + 16 * k)).st, .string (mbD b (p + 16 * k)).rg]) ∧ RdZ w' R T b (p + 16 * k + 16) ∧ _) fun e w' q => q)
      clear HNk
      have HNk := HNx
      clear HNx
      rw [hx] at HNk HXk
      clear hx
      have hsz := HGk.out.size
      obtain ⟨va, vn, vc, rfl⟩ : ∃ a n c, u5 = Value.slice a n c := by rcases owned_cases HOk.out with ⟨h1, _⟩ | ⟨g9, c9, h1⟩ <;> exact ⟨_, _, _, h1⟩
      obtain rfl : k = vn := by
        rcases owned_cases HOk.out with ⟨h1, h2⟩ | ⟨g9, c9, h1⟩
        · cases h1; exact h2
        · cases h1; rfl
      go_wp2_with (first
        | (go_at_call 70; (with_reducible refine HNk.out.mono ?_); rintro e w5 ⟨rfl, hr5, hg5⟩; have HO5 := Lib.hid (own_keptR HOk.out hg5 HRT.out.1); have HG5 := Lib.hid (grown_transR HGk.out hg5); have hs5 := HG5.out.size; have hr5' := hr5.below ((Below.refl _ w5).alloc (Nat.le_refl _) (.cells #[.string x.st, .string x.rg] 82)); have HG5a := Lib.hid (grown_lowR HG5.out ((Below.refl W.heap.size w5).alloc hs5 (.cells #[.string x.st, .string x.rg] 82))))
        | (at_builtin; refine wpList_append_anyW _ rfl _ _ 27 rfl W.heap.size 82 i0 (.agg #[.string ByteArray.empty, .string ByteArray.empty]) 2 32 Tryz.underlying27 hii iz0 iz1 iz2 rfl (by decide) _ k _ rfl (HO5.out.alloc _) (some ⟨w5.heap.size, 0, none⟩) 1 1 [.string x.st, .string x.rg] rfl rfl (fun h => by cases h) (fun ad had j u hu => by cases had; exact World.news_of_block (World.alloc_heap_new w5 _) j u hu) (fun u hu => List.all_eq_true.1 (show ([.string x.st, .string x.rg] : List Value).all (·.oneCell') = true from rfl) u hu) (by unfold maxLen; omega) (by omega) (Nat.le_trans hs5 (by simp)) ?_; intro v8 w8 hown8 hgrow8; have HR8 := Lib.hid (hr5'.grown hgrow8 (fun g hg => ((HO5.out.alloc (.cells #[.string x.st, .string x.rg] 82)).lt g hg).1) HRT.out.1 HRT.out.2); have HG8 := Lib.hid (grown_rowR HG5a.out hgrow8 (fun g hg => ((HO5.out.alloc (.cells #[.string x.st, .string x.rg] 82)).lt g hg).1))))
      go_roundw
      case rel =>
        refine ⟨k + 1, by omega, by go_num, Lib.hid ?_, Lib.hid ?_, HG8⟩
        · rw [HXk.out]; exact hown8
        · rw [show p + 16 * (k + 1) = p + 16 * k + 16 by omega]; exact HR8.out
      case measure => simp [intOf]; omega
    · obtain rfl : k = n := by omega
      go_wp2_with fail
      go_ret
      exact ⟨_, rfl, HOk.out, HRk.out, HGk.out⟩
end Go.Proofs.YtbafmnafhaoggaaGreatDoor
