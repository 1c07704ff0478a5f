/-
  image.unpacked: what can be read of an image's bytes.
-/
import Derived.Test.YtbafmnafhaoggaaGreatDoorODMany
import Derived.Test.YtbafmnafhaoggaaGreatDoorZMany
import Derived.BigQuiet
namespace Go.Proofs.YtbafmnafhaoggaaGreatDoor
open Go Go.RowKit

theorem grown_setK (W : World) (B k : Nat) (v : Value) : W.grownBy (W.setCell ⟨B, k, none⟩ v) (some B) :=
  ⟨rfl, rfl, rfl, by simp [World.setCell], fun j _ hne => Below.heap_setCell W ⟨B, k, none⟩ v j (fun e => hne (by rw [e]))⟩
theorem al_storeG (w : World) (B : Nat) (b0 b1 b2 b3 b4 b5 : Value) : w.grownBy ((((((w.setCell ⟨B, 0, none⟩ b0).setCell ⟨B, 1, none⟩ b1).setCell ⟨B, 2, none⟩ b2).setCell ⟨B, 3, none⟩ b3).setCell ⟨B, 4, none⟩ b4).setCell ⟨B, 5, none⟩ b5) (some B) :=
  grown_transR (grown_transR (grown_transR (grown_transR (grown_transR (grown_setK _ _ _ _) (grown_setK _ _ _ _)) (grown_setK _ _ _ _)) (grown_setK _ _ _ _)) (grown_setK _ _ _ _)) (grown_setK _ _ _ _)
/-- Where the reader, its function's box, the image and the counts lie. -/
structure OrdU (N R T I C : Nat) : Prop where
  r : N < R
  t : R < T
  i : T < I
  c : I < C
structure UnS (w : World) (N R T I C : Nat) (b : ByteArray) (p : Nat) (ic cc : Array Value) (wr : World) : Prop where
  rd : RdZ wr R T b p
  z0 : wr.heap[N]? = some (.cells #[.slice none 0 0, .slice none 0 0, .slice none 0 0, .slice none 0 0, .int .i64 0, .int .i64 0] 29 (0, 0))
  im : wr.heap[I]? = some (.cells ic 29 (0, 0))
  cn : wr.heap[C]? = some (.cells cc 83 (0, 0))
  fr : Below N w wr
theorem UnS.grown {w wr w' : World} {N R T I C p q : Nat} {b : ByteArray} {ic cc : Array Value} (h : UnS w N R T I C b p ic cc wr) (o : OrdU N R T I C) (hr : RdZ w' R T b q) (hg : wr.grownBy w' (some R)) : UnS w N R T I C b q ic cc w' :=
  have f : ∀ k, k < wr.heap.size → k ≠ R → w'.heap[k]? = wr.heap[k]? := fun k hk hne => hg.block k hk (fun e => hne (Option.some.inj e))
  ⟨hr, (f _ (lt_of_block h.z0) (Nat.ne_of_lt o.r)).trans h.z0, (f _ (lt_of_block h.im) (by have := o.t; have := o.i; omega)).trans h.im, (f _ (lt_of_block h.cn) (by have := o.t; have := o.i; have := o.c; omega)).trans h.cn,
   ⟨hg.os.trans h.fr.os, hg.tape.trans h.fr.tape, hg.output.trans h.fr.output, Nat.le_trans h.fr.size hg.size, fun k hk => (f k (Nat.lt_trans hk (lt_of_block h.z0)) (by have := o.r; omega)).trans (h.fr.block k hk)⟩⟩
theorem UnS.below {w wr w' : World} {N R T I C p : Nat} {b : ByteArray} {ic cc : Array Value} (h : UnS w N R T I C b p ic cc wr) (hb : Below wr.heap.size wr w') : UnS w N R T I C b p ic cc w' :=
  ⟨h.rd.below hb, (hb.block _ (lt_of_block h.z0)).trans h.z0, (hb.block _ (lt_of_block h.im)).trans h.im, (hb.block _ (lt_of_block h.cn)).trans h.cn, h.fr.trans (hb.mono (Nat.le_of_lt (lt_of_block h.z0)))⟩
theorem UnS.setI {w wr : World} {N R T I C p : Nat} {b : ByteArray} {ic cc : Array Value} (h : UnS w N R T I C b p ic cc wr) (o : OrdU N R T I C) (k : Nat) (v : Value) : UnS w N R T I C b p (ic.setIfInBounds k v) cc (wr.setCell ⟨I, k, none⟩ v) :=
  ⟨h.rd.set (by have := o.t; have := o.i; omega) (by have := o.i; omega), (Below.heap_setCell wr ⟨I, k, none⟩ v N (by have := o.r; have := o.t; have := o.i; show N ≠ I; omega)).trans h.z0, setY h.im v, (Below.heap_setCell wr ⟨I, k, none⟩ v C (by have := o.c; show C ≠ I; omega)).trans h.cn, h.fr.setCell (p := ⟨I, k, none⟩) (by have := o.r; have := o.t; have := o.i; show N ≤ I; omega) v⟩
theorem UnS.setC {w wr : World} {N R T I C p : Nat} {b : ByteArray} {ic cc : Array Value} (h : UnS w N R T I C b p ic cc wr) (o : OrdU N R T I C) (k : Nat) (v : Value) : UnS w N R T I C b p ic (cc.setIfInBounds k v) (wr.setCell ⟨C, k, none⟩ v) :=
  ⟨h.rd.set (by have := o.t; have := o.i; have := o.c; omega) (by have := o.i; have := o.c; omega), (Below.heap_setCell wr ⟨C, k, none⟩ v N (by have := o.r; have := o.t; have := o.i; have := o.c; show N ≠ C; omega)).trans h.z0, (Below.heap_setCell wr ⟨C, k, none⟩ v I (by have := o.c; show I ≠ C; omega)).trans h.im, setY h.cn v, h.fr.setCell (p := ⟨C, k, none⟩) (by have := o.r; have := o.t; have := o.i; have := o.c; show N ≤ C; omega) v⟩

/-! What is read. -/
def cU (b : ByteArray) (j : Nat) : Nat := nb b (4 + 2 * j) 2
theorem cU_le (b : ByteArray) (j : Nat) : cU b j ≤ 65535 := by have := nb_lt b (4 + 2 * j) 2 (by decide); unfold cU; omega
def cV (b : ByteArray) (k j : Nat) : Value := if j < k then .int .i64 (cU b j : Nat) else .int .i64 0
def cntD (b : ByteArray) (k : Nat) : Array Value := #[cV b k 0, cV b k 1, cV b k 2, cV b k 3]
theorem cntD_succ (b : ByteArray) (k : Nat) (h : k < 4) : (cntD b k).setIfInBounds k (.int .i64 (cU b k : Nat)) = cntD b (k + 1) := by
  have h5 : k = 0 ∨ k = 1 ∨ k = 2 ∨ k = 3 := by omega
  rcases h5 with rfl | rfl | rfl | rfl <;> rfl
theorem cntD_at (b : ByteArray) (k : Nat) (h : k < 4) : ∃ u, (cntD b k)[k]? = some u := by
  have h5 : k = 0 ∨ k = 1 ∨ k = 2 ∨ k = 3 := by omega
  rcases h5 with rfl | rfl | rfl | rfl <;> exact ⟨_, rfl⟩
def unpI (b : ByteArray) : Im :=
  if (lf b 14).size = cU b 0 * 41 + cU b 1 * 48 + cU b 2 * 51 + cU b 3 * 16 then
    ⟨rowAD b 14 (cU b 0), rowLD b (14 + 41 * cU b 0) (cU b 1), rowRD b (14 + 41 * cU b 0 + 48 * cU b 1) (cU b 2), rowMD b (14 + 41 * cU b 0 + 48 * cU b 1 + 51 * cU b 2) (cU b 3), (nb b 12 1 : Nat), (nb b 13 1 : Nat)⟩
  else ⟨[], [], [], [], (nb b 12 1 : Nat), (nb b 13 1 : Nat)⟩
theorem unpI_whole (b : ByteArray) (h : (lf b 14).size = cU b 0 * 41 + cU b 1 * 48 + cU b 2 * 51 + cU b 3 * 16) : unpI b = ⟨rowAD b 14 (cU b 0), rowLD b (14 + 41 * cU b 0) (cU b 1), rowRD b (14 + 41 * cU b 0 + 48 * cU b 1) (cU b 2), rowMD b (14 + 41 * cU b 0 + 48 * cU b 1 + 51 * cU b 2) (cU b 3), (nb b 12 1 : Nat), (nb b 13 1 : Nat)⟩ := if_pos h
theorem unpI_part (b : ByteArray) (h : ¬ (lf b 14).size = cU b 0 * 41 + cU b 1 * 48 + cU b 2 * 51 + cU b 3 * 16) : unpI b = ⟨[], [], [], [], (nb b 12 1 : Nat), (nb b 13 1 : Nat)⟩ := if_neg h
theorem own_lit {w : World} {base e sz n : Nat} {v : Value} {xs : List Value} (h : w.ownsRow base e sz v n xs) : ∃ a c, v = .slice a n c := by
  rcases owned_cases h with ⟨rfl, rfl⟩ | ⟨g, c, rfl⟩ <;> exact ⟨_, _, rfl⟩
theorem sizeImD : (Tryz.prog.info? 29).map (·.size) = some 6 := by kernel_rfl
theorem rowC_ownN {W : World} {base sz n : Nat} {e : TypeId} {v : Value} {L : List (List Value)} (h : W.ownsRow base e sz v n (L.flatMap id)) (hn : L.length = n) (hs : ∀ c ∈ L, c.length = sz) : RowC W v sz L := by
  subst hn
  exact rowC_own h hs

set_option maxRecDepth 100000 in
set_option maxHeartbeats 16000000 in
theorem unpacked_any (b : ByteArray) (w : World) (hbs : b.size ≤ 1048576) (hg : GL w) :
    Calls Tryz.prog 25 #[.string b] w fun e w' => ∃ v1 v2 v3 v4, e = .returned (.agg #[v1, v2, v3, v4, .int .i64 (unpI b).th, .int .i64 (unpI b).de]) ∧ ImR w' v1 v2 v3 v4 (unpI b) ∧ Below w.heap.size w w' ∧ (∀ w'' P, w'.grownBy w'' (some P) → P < w.heap.size → ImR w'' v1 v2 v3 v4 (unpI b)) := by
  go_enter Tryz.func25, Tryz.ntmps25
  go_upto_region 1 with fail
  obtain ⟨W1, hW1⟩ : ∃ x, w.alloc (.cells #[.slice none 0 0, .slice none 0 0, .slice none 0 0, .slice none 0 0, .int .i64 0, .int .i64 0] 29) = x := ⟨_, rfl⟩
  rw [hW1]
  go_upto_region 2 with fail
  obtain ⟨W2, hW2⟩ : ∃ x, W1.alloc (.cells #[.string b] 114) = x := ⟨_, rfl⟩
  rw [hW2]
  have hst : (store ⟨W2.heap.size, 0, none⟩ (.func (.func 59) #[.pointer (some ⟨W1.heap.size, 0, none⟩)] #[])).run Tryz.prog (W2.alloc (.cells #[.nilFunc] 95)) = .ok () ((W2.alloc (.cells #[.nilFunc] 95)).setCell ⟨W2.heap.size, 0, none⟩ (.func (.func 59) #[.pointer (some ⟨W1.heap.size, 0, none⟩)] #[])) := store_cell (World.alloc_heap_new W2 _) (by decide) rfl
  go_upto_region 3 with fail
  obtain ⟨W3, hW3⟩ : ∃ x, W2.alloc (.cells #[.func (.func 59) #[.pointer (some ⟨W1.heap.size, 0, none⟩)] #[]] 95) = x := ⟨_, rfl⟩
  rw [hW3]
  clear hst
  go_upto_region 4 with fail
  obtain ⟨W4, hW4⟩ : ∃ x, W3.alloc (.cells #[.slice none 0 0, .slice none 0 0, .slice none 0 0, .slice none 0 0, .int .i64 0, .int .i64 0] 29) = x := ⟨_, rfl⟩
  rw [hW4]
  go_upto_region 5 with fail
  obtain ⟨W5, hW5⟩ : ∃ x, W4.alloc (.cells #[.int .i64 0, .int .i64 0, .int .i64 0, .int .i64 0] 83) = x := ⟨_, rfl⟩
  rw [hW5]
  have b01 : Below w.heap.size w W1 := by rw [← hW1]; exact (Below.refl _ w).alloc (Nat.le_refl _) _
  have b12 : Below W1.heap.size W1 W2 := by rw [← hW2]; exact (Below.refl _ W1).alloc (Nat.le_refl _) _
  have b23 : Below W2.heap.size W2 W3 := by rw [← hW3]; exact (Below.refl _ W2).alloc (Nat.le_refl _) _
  have b34 : Below W3.heap.size W3 W4 := by rw [← hW4]; exact (Below.refl _ W3).alloc (Nat.le_refl _) _
  have b45 : Below W4.heap.size W4 W5 := by rw [← hW5]; exact (Below.refl _ W4).alloc (Nat.le_refl _) _
  have a1 : W1.heap[w.heap.size]? = some (.cells #[.slice none 0 0, .slice none 0 0, .slice none 0 0, .slice none 0 0, .int .i64 0, .int .i64 0] 29 (0, 0)) := by rw [← hW1]; exact World.alloc_heap_new w _
  have a2 : W2.heap[W1.heap.size]? = some (.cells #[.string b] 114 (0, 0)) := by rw [← hW2]; exact World.alloc_heap_new W1 _
  have a3 : W3.heap[W2.heap.size]? = some (.cells #[takeV W1.heap.size] 95 (0, 0)) := by rw [← hW3]; exact World.alloc_heap_new W2 _
  have a4 : W4.heap[W3.heap.size]? = some (.cells #[.slice none 0 0, .slice none 0 0, .slice none 0 0, .slice none 0 0, .int .i64 0, .int .i64 0] 29 (0, 0)) := by rw [← hW4]; exact World.alloc_heap_new W3 _
  have a5 : W5.heap[W4.heap.size]? = some (.cells #[.int .i64 0, .int .i64 0, .int .i64 0, .int .i64 0] 83 (0, 0)) := by rw [← hW5]; exact World.alloc_heap_new W4 _
  have o : OrdU w.heap.size W1.heap.size W2.heap.size W3.heap.size W4.heap.size := ⟨lt_of_block a1, lt_of_block a2, lt_of_block a3, lt_of_block a4⟩
  have b35 := b34.trans (b45.mono b34.size)
  have b25 := b23.trans (b35.mono b23.size)
  have b15 := b12.trans (b25.mono b12.size)
  have U5 : UnS w w.heap.size W1.heap.size W2.heap.size W3.heap.size W4.heap.size b 0 #[.slice none 0 0, .slice none 0 0, .slice none 0 0, .slice none 0 0, .int .i64 0, .int .i64 0] (cntD b 0) W5 :=
    ⟨⟨by rw [lf_zero]; exact (b25.block _ (lt_of_block a2)).trans a2, (b35.block _ (lt_of_block a3)).trans a3, Nat.ne_of_gt o.t, hbs⟩, (b15.block _ (lt_of_block a1)).trans a1, (b45.block _ (lt_of_block a4)).trans a4, a5, b01.trans (b15.mono b01.size)⟩
  have HG := Lib.hid (And.intro hg hg.size)
  have HO := Lib.hid o
  clear o hW1 hW2 hW3 hW4 hW5 b01 b12 b23 b34 b45 b35 b25 b15 a1 a2 a3 a4 a5 hg
  generalize W1.heap.size = R at *
  generalize W2.heap.size = T at *
  generalize W3.heap.size = I at *
  generalize W4.heap.size = C at *
  have HT := Lib.hid (U5.rd.take 4 4 rfl (by decide))
  have c5 := U5.rd.box
  unfold takeV at c5
  have HU5 := Lib.hid U5
  clear U5
  go_wp2_with (go_at_call 59; (with_reducible refine HT.out.mono ?_); rintro e w6 ⟨rfl, hr6, hg6⟩; have HU6 := Lib.hid (HU5.out.grown HO.out hr6 hg6); clear hr6 hg6)
  go_loopw [7, 15] (fun _ i wr => ∃ k : Nat, k ≤ 4 ∧ i = .int .i64 (k : Int) ∧ Hid (UnS w w.heap.size R T I C b (4 + 2 * k) #[.slice none 0 0, .slice none 0 0, .slice none 0 0, .slice none 0 0, .int .i64 0, .int .i64 0] (cntD b k) wr)) (fun _ i _ => 4 - (intOf i).toNat)
  case atStart => exact ⟨0, Nat.zero_le _, rfl, HU6⟩
  case round =>
    obtain ⟨k, hk, rfl, HU⟩ := hrel
    clear HU5 HU6 HT c5
    by_cases hlt : k < 4
    · have hlt' : (k : Int) < 4 := by omega
      have hk0 : (0 : Int) ≤ (k : Int) := by omega
      have HN := Lib.hid (numberD_any HU.out.rd 2 2 rfl (by decide))
      have HE := Lib.hid (show cU b k = nb b (4 + 2 * k) 2 from rfl)
      rw [← HE.out] at HN
      have HSU := Lib.hid (cntD_succ b k hlt)
      obtain ⟨u, hu⟩ := cntD_at b k hlt
      have cb := HU.out.rd.box
      unfold takeV at cb HN
      generalize cU b k = ck at *
      go_wp2_with (go_at_call 60; (with_reducible refine HN.out.mono ?_); rintro e w7 ⟨rfl, hr7, hg7⟩; have HU7 := Lib.hid (HU.out.grown HO.out hr7 hg7); have c7 := cellAtY HU7.out.cn k _ hu; have f7 := frozenY HU7.out.cn k; clear hr7 hg7)
      go_roundw
      case rel =>
        refine ⟨k + 1, by omega, by go_num, Lib.hid ?_⟩
        have := HU7.out.setC HO.out k (.int .i64 (ck : Nat))
        rw [HSU.out] at this
        rw [show 4 + 2 * (k + 1) = 4 + 2 * k + 2 by omega]
        exact this
      case measure => simp [intOf]; omega
    · obtain rfl : k = 4 := by omega
      obtain ⟨wo, rfl⟩ : ∃ x, x = wr := ⟨_, rfl⟩
      have HU9 := Lib.hid (show UnS w w.heap.size R T I C b 12 #[.slice none 0 0, .slice none 0 0, .slice none 0 0, .slice none 0 0, .int .i64 0, .int .i64 0] #[.int .i64 (cU b 0 : Nat), .int .i64 (cU b 1 : Nat), .int .i64 (cU b 2 : Nat), .int .i64 (cU b 3 : Nat)] wo from HU.out)
      clear HU
      have l0 := cU_le b 0
      have l1 := cU_le b 1
      have l2 := cU_le b 2
      have l3 := cU_le b 3
      have HWH := Lib.hid (unpI_whole b)
      have HPT := Lib.hid (unpI_part b)
      have HN1 := Lib.hid (numberD_any HU9.out.rd 1 1 rfl (by decide))
      have HN2 := Lib.hid (fun w' (hr : RdZ w' R T b 13) => numberD_any hr 1 1 rfl (by decide))
      have cb := HU9.out.rd.box
      unfold takeV at cb HN1 HN2
      generalize nb b 12 1 = th at *
      generalize nb b 13 1 = de at *
      have hz14 := size_lf b 14
      have hlf : (lf b 14).size ≤ 1048576 := by omega
      clear hz14
      go_upto_region 13 with (first
        | (go_at_call 60; (with_reducible refine (HN2.out _ HU6.out.rd).mono ?_); rintro e w7 ⟨rfl, hr7, hg7⟩; have HV7 := Lib.hid (HU6.out.grown HO.out hr7 hg7); have e7 := cellAtY HV7.out.im 5 _ rfl; have g7 := frozenY HV7.out.im 5; clear hr7 hg7)
        | (go_at_call 60; (with_reducible refine HN1.out.mono ?_); rintro e w6 ⟨rfl, hr6, hg6⟩; have HV6 := Lib.hid (HU9.out.grown HO.out hr6 hg6); have e6 := cellAtY HV6.out.im 4 _ rfl; have g6 := frozenY HV6.out.im 4; have HU6 := Lib.hid (HV6.out.setI HO.out 4 (.int .i64 (th : Int))); have cb6 := HU6.out.rd.box; unfold takeV at cb6; clear hr6 hg6))
      have HU8 := Lib.hid (show UnS w w.heap.size R T I C b 14 #[.slice none 0 0, .slice none 0 0, .slice none 0 0, .slice none 0 0, .int .i64 (th : Int), .int .i64 (de : Int)] #[.int .i64 (cU b 0 : Nat), .int .i64 (cU b 1 : Nat), .int .i64 (cU b 2 : Nat), .int .i64 (cU b 3 : Nat)] (w7.setCell ⟨I, 5, none⟩ (.int .i64 (de : Int))) from HV7.out.setI HO.out 5 (.int .i64 (de : Int)))
      clear HU9 HN1 HN2 cb e6 g6 e7 g7 HV6 HV7 HU6 cb6 hlt
      obtain ⟨W8, hW8⟩ : ∃ x, w7.setCell ⟨I, 5, none⟩ (.int .i64 (de : Int)) = x := ⟨_, rfl⟩
      rw [hW8] at HU8
      rw [hW8]
      clear hW8
      generalize cU b 0 = c0 at *
      generalize cU b 1 = c1 at *
      generalize cU b 2 = c2 at *
      generalize cU b 3 = c3 at *
      have d0 := cell_of_one HU8.out.rd.rd
      have d1 := cellAtY HU8.out.cn 0 _ rfl
      have d2 := cellAtY HU8.out.cn 1 _ rfl
      have d3 := cellAtY HU8.out.cn 2 _ rfl
      have d4 := cellAtY HU8.out.cn 3 _ rfl
      obtain ⟨S, hS⟩ : ∃ S, lf b 14 = S := ⟨_, rfl⟩
      rw [hS] at d0 hlf HWH HPT
      have k0 : (0 : Int) ≤ (c0 : Int) ∧ (c0 : Int) ≤ 65535 ∧ (0 : Int) ≤ (c1 : Int) ∧ (c1 : Int) ≤ 65535 ∧ (0 : Int) ≤ (c2 : Int) ∧ (c2 : Int) ≤ 65535 ∧ (0 : Int) ≤ (c3 : Int) ∧ (c3 : Int) ≤ 65535 := by omega
      have m0 : IntKind.i64.wrap ((c0 : Int) * 41) = (c0 : Int) * 41 := IntWalk.i64_in _ ⟨by omega, by omega⟩
      have m1 : IntKind.i64.wrap ((c1 : Int) * 48) = (c1 : Int) * 48 := IntWalk.i64_in _ ⟨by omega, by omega⟩
      have m2 : IntKind.i64.wrap ((c2 : Int) * 51) = (c2 : Int) * 51 := IntWalk.i64_in _ ⟨by omega, by omega⟩
      have m3 : IntKind.i64.wrap ((c3 : Int) * 16) = (c3 : Int) * 16 := IntWalk.i64_in _ ⟨by omega, by omega⟩
      have m4 : IntKind.i64.wrap ((c0 : Int) * 41 + (c1 : Int) * 48) = (c0 : Int) * 41 + (c1 : Int) * 48 := IntWalk.i64_in _ ⟨by omega, by omega⟩
      have m5 : IntKind.i64.wrap ((c0 : Int) * 41 + (c1 : Int) * 48 + (c2 : Int) * 51) = (c0 : Int) * 41 + (c1 : Int) * 48 + (c2 : Int) * 51 := IntWalk.i64_in _ ⟨by omega, by omega⟩
      have m6 : IntKind.i64.wrap ((c0 : Int) * 41 + (c1 : Int) * 48 + (c2 : Int) * 51 + (c3 : Int) * 16) = (c0 : Int) * 41 + (c1 : Int) * 48 + (c2 : Int) * 51 + (c3 : Int) * 16 := IntWalk.i64_in _ ⟨by omega, by omega⟩
      by_cases hL : S.size = c0 * 41 + c1 * 48 + c2 * 51 + c3 * 16
      · have hLi : (S.size : Int) = (c0 : Int) * 41 + (c1 : Int) * 48 + (c2 : Int) * 51 + (c3 : Int) * 16 := by omega
        have HIM := Lib.hid (HWH.out hL)
        have HCS := Lib.hid (And.intro (And.intro l0 l1) (And.intro l2 l3))
        clear hL HWH HPT l0 l1 l2 l3 k0 hS
        go_quiet (fail)
        obtain ⟨W9, hW9⟩ : ∃ x, W8.drewN nq = x := ⟨_, rfl⟩
        have HU10 := Lib.hid (HU8.out.below (w' := W9) (by rw [← hW9]; exact below_drewN (Below.refl _ _) _))
        rw [hW9]
        clear hW9
        clear m0 m1 m2 m3 m4 m5 m6 hLi d0 d1 d2 d3 d4
        have d1 := cellAtY HU10.out.cn 0 _ rfl
        have HA8 := Lib.hid (thingsA_any HU10.out.rd HCS.out.1.1 (HG.out.1.below HU10.out.fr HG.out.2) (by have := HG.out.2; have := HO.out.r; omega))
        clear HU8
        go_upto_region 19 with (first
          | (go_at_call 69; (with_reducible refine HA11.out.mono ?_); rintro e w12 ⟨v3, rfl, ho3, hr, hgr⟩; obtain ⟨x3, y3, rfl⟩ := own_lit ho3; have HV12 := Lib.hid (HF11.out.grown HO.out hr hgr); have e12 := cellAtY HV12.out.im 3 _ rfl; have q12 := frozenY HV12.out.im 3; have HF12 := Lib.hid (show UnS w w.heap.size R T I C b (14 + 41 * c0 + 48 * c1 + 51 * c2 + 16 * c3) #[.slice x0 c0 y0, .slice x1 c1 y1, .slice x2 c2 y2, .slice x3 c3 y3, .int .i64 (th : Int), .int .i64 (de : Int)] #[.int .i64 (c0 : Int), .int .i64 (c1 : Int), .int .i64 (c2 : Int), .int .i64 (c3 : Int)] (w12.setCell ⟨I, 3, none⟩ (.slice x3 c3 y3)) from HV12.out.setI HO.out 3 (.slice x3 c3 y3)); have HR0_3 := Lib.hid (own_keptR (own_keptR HR0_2.out hgr HB0.out.1) (grown_setK w12 I 3 (.slice x3 c3 y3)) HB0.out.2); have HR1_3 := Lib.hid (own_keptR (own_keptR HR1_2.out hgr HB1.out.1) (grown_setK w12 I 3 (.slice x3 c3 y3)) HB1.out.2); have HR2_3 := Lib.hid (own_keptR (own_keptR HR2_2.out hgr HB2.out.1) (grown_setK w12 I 3 (.slice x3 c3 y3)) HB2.out.2); have HB3 := Lib.hid (And.intro (lt_of_block HF11.out.rd.rd) (lt_of_block HF11.out.im)); have HR3_3 := Lib.hid (own_keptR ho3 (grown_setK w12 I 3 (.slice x3 c3 y3)) HB3.out.2); clear hr hgr ho3)
          | (go_at_call 67; (with_reducible refine HA10.out.mono ?_); rintro e w11 ⟨v2, rfl, ho2, hr, hgr⟩; obtain ⟨x2, y2, rfl⟩ := own_lit ho2; have HV11 := Lib.hid (HF10.out.grown HO.out hr hgr); have e11 := cellAtY HV11.out.im 2 _ rfl; have q11 := frozenY HV11.out.im 2; have HF11 := Lib.hid (show UnS w w.heap.size R T I C b (14 + 41 * c0 + 48 * c1 + 51 * c2) #[.slice x0 c0 y0, .slice x1 c1 y1, .slice x2 c2 y2, .slice none 0 0, .int .i64 (th : Int), .int .i64 (de : Int)] #[.int .i64 (c0 : Int), .int .i64 (c1 : Int), .int .i64 (c2 : Int), .int .i64 (c3 : Int)] (w11.setCell ⟨I, 2, none⟩ (.slice x2 c2 y2)) from HV11.out.setI HO.out 2 (.slice x2 c2 y2)); have HR0_2 := Lib.hid (own_keptR (own_keptR HR0_1.out hgr HB0.out.1) (grown_setK w11 I 2 (.slice x2 c2 y2)) HB0.out.2); have HR1_2 := Lib.hid (own_keptR (own_keptR HR1_1.out hgr HB1.out.1) (grown_setK w11 I 2 (.slice x2 c2 y2)) HB1.out.2); have HB2 := Lib.hid (And.intro (lt_of_block HF10.out.rd.rd) (lt_of_block HF10.out.im)); have HR2_2 := Lib.hid (own_keptR ho2 (grown_setK w11 I 2 (.slice x2 c2 y2)) HB2.out.2); have d22 := cellAtY HF11.out.cn 3 _ rfl; have HA11 := Lib.hid (thingsM_any (n := c3) HF11.out.rd (by have := HCS.out; omega)); clear hr hgr ho2)
          | (go_at_call 64; (with_reducible refine HA9.out.mono ?_); rintro e w10 ⟨v1, rfl, ho1, hr, hgr⟩; obtain ⟨x1, y1, rfl⟩ := own_lit ho1; have HV10 := Lib.hid (HF9.out.grown HO.out hr hgr); have e10 := cellAtY HV10.out.im 1 _ rfl; have q10 := frozenY HV10.out.im 1; have HF10 := Lib.hid (show UnS w w.heap.size R T I C b (14 + 41 * c0 + 48 * c1) #[.slice x0 c0 y0, .slice x1 c1 y1, .slice none 0 0, .slice none 0 0, .int .i64 (th : Int), .int .i64 (de : Int)] #[.int .i64 (c0 : Int), .int .i64 (c1 : Int), .int .i64 (c2 : Int), .int .i64 (c3 : Int)] (w10.setCell ⟨I, 1, none⟩ (.slice x1 c1 y1)) from HV10.out.setI HO.out 1 (.slice x1 c1 y1)); have HR0_1 := Lib.hid (own_keptR (own_keptR HR0_0.out hgr HB0.out.1) (grown_setK w10 I 1 (.slice x1 c1 y1)) HB0.out.2); have HB1 := Lib.hid (And.intro (lt_of_block HF9.out.rd.rd) (lt_of_block HF9.out.im)); have HR1_1 := Lib.hid (own_keptR ho1 (grown_setK w10 I 1 (.slice x1 c1 y1)) HB1.out.2); have d21 := cellAtY HF10.out.cn 2 _ rfl; have HA10 := Lib.hid (thingsR_any (n := c2) HF10.out.rd (by have := HCS.out; omega)); clear hr hgr ho1)
          | (go_at_call 61; (with_reducible refine HA8.out.mono ?_); rintro e w9 ⟨v0, rfl, ho0, hr, hgr⟩; obtain ⟨x0, y0, rfl⟩ := own_lit ho0; have HV9 := Lib.hid (HU10.out.grown HO.out hr hgr); have e9 := cellAtY HV9.out.im 0 _ rfl; have q9 := frozenY HV9.out.im 0; have HF9 := Lib.hid (show UnS w w.heap.size R T I C b (14 + 41 * c0) #[.slice x0 c0 y0, .slice none 0 0, .slice none 0 0, .slice none 0 0, .int .i64 (th : Int), .int .i64 (de : Int)] #[.int .i64 (c0 : Int), .int .i64 (c1 : Int), .int .i64 (c2 : Int), .int .i64 (c3 : Int)] (w9.setCell ⟨I, 0, none⟩ (.slice x0 c0 y0)) from HV9.out.setI HO.out 0 (.slice x0 c0 y0)); have HB0 := Lib.hid (And.intro (lt_of_block HU10.out.rd.rd) (lt_of_block HU10.out.im)); have HR0_0 := Lib.hid (own_keptR ho0 (grown_setK w9 I 0 (.slice x0 c0 y0)) HB0.out.2); have d20 := cellAtY HF9.out.cn 1 _ rfl; have HA9 := Lib.hid (thingsL_any (n := c1) HF9.out.rd (by have := HCS.out; omega)); clear hr hgr ho0))
        have HUF := Lib.hid (show UnS w w.heap.size R T I C b (14 + 41 * c0 + 48 * c1 + 51 * c2 + 16 * c3) #[.slice x0 c0 y0, .slice x1 c1 y1, .slice x2 c2 y2, .slice x3 c3 y3, .int .i64 (th : Int), .int .i64 (de : Int)] #[.int .i64 (c0 : Int), .int .i64 (c1 : Int), .int .i64 (c2 : Int), .int .i64 (c3 : Int)] (w12.setCell ⟨I, 3, none⟩ (.slice x3 c3 y3)) from HF12.out)
        clear HA8 HA9 HA10 HA11 HV9 HV10 HV11 HV12 HF9 HF10 HF11 HF12 d1 d20 d21 d22 e9 e10 e11 e12 q9 q10 q11 q12 HR0_0 HR0_1 HR0_2 HR1_1 HR1_2 HR2_2 HCS
        obtain ⟨WF, hWF⟩ : ∃ x, w12.setCell ⟨I, 3, none⟩ (.slice x3 c3 y3) = x := ⟨_, rfl⟩
        rw [hWF] at HUF HR0_3 HR1_3 HR2_3 HR3_3
        rw [hWF]
        clear hWF
        have HBN := Lib.hid (show w.heap.size < W9.heap.size ∧ _ ∧ _ ∧ _ from ⟨lt_of_block HU10.out.z0, Nat.lt_trans HO.out.r HB1.out.1, Nat.lt_trans HO.out.r HB2.out.1, Nat.lt_trans HO.out.r HB3.out.1⟩)
        obtain ⟨i0, i1, i2, i3, i4, i5⟩ := cells6 HUF.out.im
        obtain ⟨⟨n0, n1, n2, n3, n4, n5⟩, f0, f1, f2, f3, f4, f5⟩ := al_cells HUF.out.z0
        have HS := Lib.hid (al_store HUF.out.z0 (.slice x0 c0 y0) (.slice x1 c1 y1) (.slice x2 c2 y2) (.slice x3 c3 y3) (.int .i64 (th : Int)) (.int .i64 (de : Int)))
        have hgS := al_storeG WF w.heap.size (.slice x0 c0 y0) (.slice x1 c1 y1) (.slice x2 c2 y2) (.slice x3 c3 y3) (.int .i64 (th : Int)) (.int .i64 (de : Int))
        have K0 := Lib.hid (own_keptR HR0_3.out hgS HBN.out.1)
        have K1 := Lib.hid (own_keptR HR1_3.out hgS HBN.out.2.1)
        have K2 := Lib.hid (own_keptR HR2_3.out hgS HBN.out.2.2.1)
        have K3 := Lib.hid (own_keptR HR3_3.out hgS HBN.out.2.2.2)
        clear hgS HR0_3 HR1_3 HR2_3 HR3_3
        go_wp2
        refine bodyPost_ret (results_cell_row rfl _ _ w.heap.size 29 _ (0, 0) _ rfl HS.out.1 Tryz.underlying29 rfl sizeImD) rfl ?_
        rw [HIM.out]
        exact ⟨_, _, _, _, rfl, ⟨rowC_ownN K0.out (by rw [List.length_map, rowAD, List.length_map, List.length_range]) (by intro c hc; obtain ⟨x, -, rfl⟩ := List.mem_map.1 hc; rfl), rowC_ownN K1.out (by rw [List.length_map, rowLD, List.length_map, List.length_range]) (by intro c hc; obtain ⟨x, -, rfl⟩ := List.mem_map.1 hc; rfl), rowC_ownN K2.out (by rw [List.length_map, rowRD, List.length_map, List.length_range]) (by intro c hc; obtain ⟨x, -, rfl⟩ := List.mem_map.1 hc; rfl), rowC_ownN K3.out (by rw [List.length_map, rowMD, List.length_map, List.length_range]) (by intro c hc; obtain ⟨x, -, rfl⟩ := List.mem_map.1 hc; rfl)⟩, HUF.out.fr.trans (HS.out.2 _ (Nat.le_refl _)), fun w'' P hg hP => ⟨rowC_ownN (own_keptR K0.out hg (Nat.lt_trans hP HBN.out.1)) (by rw [List.length_map, rowAD, List.length_map, List.length_range]) (by intro c hc; obtain ⟨x, -, rfl⟩ := List.mem_map.1 hc; rfl), rowC_ownN (own_keptR K1.out hg (Nat.lt_trans hP HBN.out.2.1)) (by rw [List.length_map, rowLD, List.length_map, List.length_range]) (by intro c hc; obtain ⟨x, -, rfl⟩ := List.mem_map.1 hc; rfl), rowC_ownN (own_keptR K2.out hg (Nat.lt_trans hP HBN.out.2.2.1)) (by rw [List.length_map, rowRD, List.length_map, List.length_range]) (by intro c hc; obtain ⟨x, -, rfl⟩ := List.mem_map.1 hc; rfl), rowC_ownN (own_keptR K3.out hg (Nat.lt_trans hP HBN.out.2.2.2)) (by rw [List.length_map, rowMD, List.length_map, List.length_range]) (by intro c hc; obtain ⟨x, -, rfl⟩ := List.mem_map.1 hc; rfl)⟩⟩
      · have hLi : ¬ (S.size : Int) = (c0 : Int) * 41 + (c1 : Int) * 48 + (c2 : Int) * 51 + (c3 : Int) * 16 := by omega
        have hne : ((S.size : Int) != (c0 : Int) * 41 + (c1 : Int) * 48 + (c2 : Int) * 51 + (c3 : Int) * 16) = true := by simpa using hLi
        have HIM := Lib.hid (HPT.out hL)
        clear hL HWH HPT l0 l1 l2 l3 k0 hS
        go_quiet (fail)
        obtain ⟨W9, hW9⟩ : ∃ x, W8.drewN nq = x := ⟨_, rfl⟩
        have HU10 := Lib.hid (HU8.out.below (w' := W9) (by rw [← hW9]; exact below_drewN (Below.refl _ _) _))
        rw [hW9]
        clear hW9
        have hI := HU10.out.im
        obtain ⟨i0, i1, i2, i3, i4, i5⟩ := cells6 hI
        obtain ⟨⟨n0, n1, n2, n3, n4, n5⟩, f0, f1, f2, f3, f4, f5⟩ := al_cells HU10.out.z0
        have HS := Lib.hid (al_store HU10.out.z0 (.slice none 0 0) (.slice none 0 0) (.slice none 0 0) (.slice none 0 0) (.int .i64 (th : Int)) (.int .i64 (de : Int)))
        clear hI HU8
        clear m0 m1 m2 m3 m4 m5 m6 hLi d0 d1 d2 d3 d4
        go_wp2
        refine bodyPost_ret (results_cell_row rfl _ _ w.heap.size 29 _ (0, 0) _ rfl HS.out.1 Tryz.underlying29 rfl sizeImD) rfl ?_
        rw [HIM.out]
        exact ⟨_, _, _, _, rfl, ⟨RowC.nil _ _ _, RowC.nil _ _ _, RowC.nil _ _ _, RowC.nil _ _ _⟩, HU10.out.fr.trans (HS.out.2 _ (Nat.le_refl _)), fun w'' P hg hP => ⟨RowC.nil _ _ _, RowC.nil _ _ _, RowC.nil _ _ _, RowC.nil _ _ _⟩⟩
end Go.Proofs.YtbafmnafhaoggaaGreatDoor
