/-
  Tags by numbers: Made.
-/
import Derived.Test.YtpnhjpplfjamkaaGreatDoorIPick
import Derived.Test.YtpnhjpplfjamkaaGreatDoorRFree
import Derived.Test.YtpnhjpplfjamkaaGreatDoorHFew
import Derived.Test.YtpnhjpplfjamkaaGreatDoorISpoilt
namespace Go.Proofs.YtpnhjpplfjamkaaGreatDoor
open Go Go.RowKit

/-- A row of numbers that came in. -/
def IntsA (W : World) (v : Value) (l : List Int) : Prop :=
  ∃ ao cap, v = .slice ao l.length cap ∧ l.length ≤ maxLen ∧ ∀ i n, l[i]? = some n → ∃ b o, ao = some ⟨b, o, none⟩ ∧ W.cell? ⟨b, o + i, none⟩ = some (.int .i64 n)
theorem IntsA.below {W W' : World} {v : Value} {l : List Int} (h : IntsA W v l) (hb : Below W.heap.size W W') : IntsA W' v l := by
  obtain ⟨ao, cap, rfl, hl, hc⟩ := h
  refine ⟨ao, cap, rfl, hl, fun i n hn => ?_⟩
  obtain ⟨b, o, h1, h2⟩ := hc i n hn
  exact ⟨b, o, h1, (hb.cell (p := ⟨b, o + i, none⟩) (lt_of_cellF h2)).trans h2⟩
structure SeedM where
  lang : Int
  extl : Int
  script : Int
  region : Int
  vars : List Int
  keys : List Int
  priv : List Int
  odd : Int
def privL : List ByteArray := [⟨#[97]⟩, ⟨#[117, 115]⟩, ⟨#[112, 114, 105, 118, 97, 116, 101, 49]⟩, ⟨#[120]⟩]
def extlL : List ByteArray := [⟨#[121, 117, 101]⟩, ⟨#[99, 109, 110]⟩, ⟨#[109, 105, 110]⟩]
def madeE (y1 : ByteArray) (e : Int) : List ByteArray := if y1.size ≤ 3 ∧ Int.tmod e 4 = 1 then [pickT extlL (Int.tdiv e 4)] else []

theorem grown_append {W w5 w7 : World} {r : Option Nat} {e : TypeId} {s n : Nat} {v : Value} {xs : List Value} {o : Obj} (h : W.grownBy w5 r) (ho : w5.ownsRow W.heap.size e s v n xs) (hg : (w5.alloc o).grownBy w7 v.ownBlock) : W.grownBy w7 r :=
  ⟨hg.os.trans h.os, hg.tape.trans h.tape, hg.output.trans h.output, by have := hg.size; have := h.size; simp at *; omega, fun k hk hne => (hg.block k (by have := h.size; simp; omega) (fun e => by have := (ho.lt k e.symm).1; omega)).trans ((Below.heap_alloc _ _ _ (by have := h.size; omega)).trans (h.block k hk hne))⟩
theorem own_not_ext {w : World} {base B : Nat} {v : Value} {n : Nat} {xs : List Value} {cs : Array Value} (h : w.ownsRow base 9 1 v n xs) (hB : w.heap[B]? = some (.cells cs 51 (0, 0))) : v.ownBlock ≠ some B := by
  rcases h.2 with ⟨rfl, _⟩ | ⟨g, c, cur, rfl, _, hg, _⟩
  · simp [Value.ownBlock]
  · intro e
    have e : g = B := by simpa [Value.ownBlock] using e
    subst e
    rw [hB] at hg
    simp at hg
theorem wrap_small (x : Int) (h1 : -9223372036854775808 ≤ x) (h2 : x ≤ 9223372036854775807) : IntKind.i64.wrap x = x := by
  have := wrap_i64_tdiv x 1 h1 h2 (by decide)
  simpa using this
def madeP (l : List Int) : List ByteArray := (l.take 3).map (pickT privL)
def addP (acc : List ByteArray) (p : ByteArray) : List ByteArray := if acc.any (fun x => decide (x = p)) then acc else acc ++ [p]
def addVs (l : List Int) : List ByteArray := l.foldl (fun acc n => addP acc (pickT variantsL n)) []
def madeV (l : List Int) : List ByteArray := addVs (l.take 4)
theorem addP_len (acc : List ByteArray) (p : ByteArray) : (addP acc p).length ≤ acc.length + 1 := by unfold addP; split <;> simp
theorem addVs_lenA : ∀ (l : List Int) (acc : List ByteArray), (l.foldl (fun acc n => addP acc (pickT variantsL n)) acc).length ≤ acc.length + l.length
  | [], _ => by simp
  | n :: r, acc => by
    rw [List.foldl_cons, List.length_cons]
    have h1 := addVs_lenA r (addP acc (pickT variantsL n))
    have h2 := addP_len acc (pickT variantsL n)
    omega
theorem addVs_len (l : List Int) : (addVs l).length ≤ l.length := by have := addVs_lenA l []; simpa [addVs] using this

def keyI (i : Nat) : ByteArray := ([⟨#[117]⟩, ⟨#[116]⟩, ⟨#[97]⟩, ⟨#[57]⟩] : List ByteArray).getD i ByteArray.empty
def subsN (N : Nat) : List ByteArray := (List.range (N % 4 + 1)).map fun (k : Nat) => pickT wordsL (((N / 4 : Nat) : Int) + ((k * k * 3 : Nat) : Int))
def wordAt (d k : Nat) : ByteArray := pickT wordsL ((d : Int) + ((k * k * 3 : Nat) : Int))
theorem ext_cells {W : World} {g : Nat} {a b : Value} {t : TypeId} (h : W.heap[g]? = some (.cells #[a, b] t (0, 0))) : W.cell? ⟨g, 0, none⟩ = some a ∧ W.cell? ⟨g, 1, none⟩ = some b := by simp [World.cell?, h]
def extKs (l : List Int) : List (ByteArray × List ByteArray) := l.zipIdx.map fun x => (keyI x.2, subsN (pickI 1000 x.1))
def madeX (l : List Int) : List (ByteArray × List ByteArray) := extKs (l.take 3)
theorem extKs_snoc (l : List Int) (n : Int) : extKs (l ++ [n]) = extKs l ++ [(keyI l.length, subsN (pickI 1000 n))] := by
  unfold extKs
  rw [List.zipIdx_append, List.map_append]
  simp
theorem extKs_len (l : List Int) : (extKs l).length = l.length := by simp [extKs]

theorem langs_size (n : Int) : (pickT langsL n).size ≤ 8 := by
  unfold pickT
  have : pickI langsL.length n < 12 := (pick_facts 12 n (by decide)).2.2.2
  generalize pickI langsL.length n = k at *
  have : ∀ k : Fin 12, (langsL.getD k.val ByteArray.empty).size ≤ 8 := by decide +kernel
  exact this ⟨k, by assumption⟩
theorem madeV_len (l : List Int) : (madeV l).length ≤ 1000 := by
  unfold madeV
  have := addVs_len (l.take 4)
  rw [List.length_take] at this
  omega
theorem madeX_len (l : List Int) : (madeX l).length ≤ 1000 := by unfold madeX; rw [extKs_len, List.length_take]; omega
theorem madeP_len (l : List Int) : (madeP l).length ≤ 1000 := by unfold madeP; rw [List.length_map, List.length_take]; omega
theorem ext_slice {w : World} {base : Nat} {v : Value} {L : List (ByteArray × List ByteArray)} (h : ExtO w base v L) : ∃ ao n c, v = .slice ao n c := by
  obtain ⟨us, _, h, _⟩ := h
  exact own_slice h
/-- The tag of a seed. -/
def madeT (S : SeedM) : TagM :=
  spoiltT ⟨pickT langsL S.lang, madeE (pickT langsL S.lang) S.extl, pickT scriptsL S.script, pickT regionsL S.region, madeV S.vars, madeX S.keys, madeP S.priv, ByteArray.empty⟩ (pickI 12 S.odd)

set_option maxRecDepth 100000 in
set_option maxHeartbeats 8000000 in
theorem made_any (S : SeedM) (vv vk vp : Value) (w : World) (hV : IntsA w vv S.vars) (hK : IntsA w vk S.keys) (hP : IntsA w vp S.priv) (hx1 : -9223372036854775808 ≤ S.extl) (hx2 : S.extl ≤ 9223372036854775807) :
    Calls Tryz.prog 7 #[.agg #[.int .i64 S.lang, .int .i64 S.extl, .int .i64 S.script, .int .i64 S.region, vv, vk, vp, .int .i64 S.odd]] w fun e w' => ∃ u, e = .returned u ∧ TagIs w' u (madeT S) ∧ Below w.heap.size w w' := by
  obtain ⟨W0, hW0⟩ : ∃ W0, w.alloc (.cells #[.int .i64 S.lang, .int .i64 S.extl, .int .i64 S.script, .int .i64 S.region, vv, vk, vp, .int .i64 S.odd] 24) = W0 := ⟨_, rfl⟩
  have hb0 : Below w.heap.size w W0 := by rw [← hW0]; exact (Below.refl _ w).alloc (Nat.le_refl _) _
  have hz0' : w.heap.size < W0.heap.size := by rw [← hW0]; simp
  have hh0 : W0.heap[w.heap.size]? = some (.cells #[.int .i64 S.lang, .int .i64 S.extl, .int .i64 S.script, .int .i64 S.region, vv, vk, vp, .int .i64 S.odd] 24 (0, 0)) := by rw [← hW0]; exact World.alloc_heap_new w _
  obtain ⟨W1, hW1⟩ : ∃ W1, (W0.alloc (.cells #[.string ByteArray.empty, .slice none 0 0, .string ByteArray.empty, .string ByteArray.empty, .slice none 0 0, .slice none 0 0, .slice none 0 0, .string ByteArray.empty] 31)).drew = W1 := ⟨_, rfl⟩
  have hb1 : Below W0.heap.size W0 W1 := by rw [← hW1]; exact Below.drew ((Below.refl _ _).alloc (Nat.le_refl _) _)
  have hz1 : W0.heap.size < W1.heap.size := by rw [← hW1]; simp [World.drew]
  have hh1 : W1.heap[w.heap.size]? = some (.cells #[.int .i64 S.lang, .int .i64 S.extl, .int .i64 S.script, .int .i64 S.region, vv, vk, vp, .int .i64 S.odd] 24 (0, 0)) := (hb1.block _ hz0').trans hh0
  have hr1 : W1.heap[W0.heap.size]? = some (.cells #[.string ByteArray.empty, .slice none 0 0, .string ByteArray.empty, .string ByteArray.empty, .slice none 0 0, .slice none 0 0, .slice none 0 0, .string ByteArray.empty] 31 (0, 0)) := by rw [← hW1]; exact World.alloc_heap_new W0 _
  have hz01 : w.heap.size < W1.heap.size := by omega
  have hbw1 : Below w.heap.size w W1 := hb0.trans (hb1.mono (by omega))
  have HH := Lib.hid (fun wr (hb : Below W1.heap.size W1 wr) => tag_cells ((hb.block _ hz01).trans hh1))
  have HV := Lib.hid (hV.below hbw1)
  have HK := Lib.hid (hK.below hbw1)
  have HP := Lib.hid (hP.below hbw1)
  have HBW1 := Lib.hid hbw1
  have HR1 := Lib.hid hr1
  have HBOX := Lib.hid hh1
  obtain ⟨y1, hy1⟩ : ∃ y, pickT langsL S.lang = y := ⟨_, rfl⟩
  obtain ⟨y2, hy2⟩ : ∃ y, pickT scriptsL S.script = y := ⟨_, rfl⟩
  obtain ⟨y3, hy3⟩ : ∃ y, pickT regionsL S.region = y := ⟨_, rfl⟩
  have Hy1 := Lib.hid hy1
  have Hy2 := Lib.hid hy2
  have Hy3 := Lib.hid hy3
  clear hV hK hP hb0 hb1 hbw1 hh0 hh1 hr1 hy1 hy2 hy3
  go_enter Tryz.func7, Tryz.ntmps7
  go_upto_region 1 with fail
  clear hW0
  go_cut [3] from 13 to 25 (fun u wx => ∃ B, u = .pointer (some ⟨B, 0, none⟩) ∧ W1.heap.size ≤ B ∧ wx.heap[B]? = some (.cells #[.string y1, .slice none 0 0, .string y2, .string y3, .slice none 0 0, .slice none 0 0, .slice none 0 0, .string ByteArray.empty] 31 (0, 0)) ∧ Below W1.heap.size W1 wx)
  case first =>
    rename_i J1 K1 hJ1 hK1
    refine wp_region_any (by kernel_rfl) ?_
    change wpAny _ _ _ _ _ _ _ (World.drew (World.alloc _ (.cells #[.string ByteArray.empty, .slice none 0 0, .string ByteArray.empty, .string ByteArray.empty, .slice none 0 0, .slice none 0 0, .slice none 0 0, .string ByteArray.empty] _)))
    rw [hW1]
    clear hW1
    refine wp_region_free (n := 166) (z := 14) none (V := fun j u w' => match j with
      | 0 => Row w' u langsL
      | 1 => u = .pointer (some ⟨w.heap.size, 0, none⟩)
      | 2 => u = .int .i64 S.lang
      | 3 => u = .string y1
      | 4 => Row w' u scriptsL
      | 5 => u = .pointer (some ⟨w.heap.size, 2, none⟩)
      | 6 => u = .int .i64 S.script
      | 7 => u = .string y2
      | 8 => Row w' u regionsL
      | 9 => u = .pointer (some ⟨w.heap.size, 3, none⟩)
      | 10 => u = .int .i64 S.region
      | 11 => u = .string y3
      | 12 => u = .agg #[.string y1, .slice none 0 0, .string y2, .string y3, .slice none 0 0, .slice none 0 0, .slice none 0 0, .string ByteArray.empty]
      | 13 => ∃ B, u = .pointer (some ⟨B, 0, none⟩) ∧ W1.heap.size ≤ B ∧ w'.heap[B]? = some (.cells #[.string ByteArray.empty, .slice none 0 0, .string ByteArray.empty, .string ByteArray.empty, .slice none 0 0, .slice none 0 0, .slice none 0 0, .string ByteArray.empty] 31 (0, 0))
      | _ => True)
      (blk := fun _ _ => none) (by kernel_rfl) (Nat.le_refl _) 15 (fun _ => false) (by kernel_rfl) ?_ (fun _ _ _ _ h => by cases h) ?_ ?_
    case refine_1 =>
      intro j u wa wb hv hb
      match j with
      | 0 => exact hv.below (belowF_of hb)
      | 1 => exact hv
      | 2 => exact hv
      | 3 => exact hv
      | 4 => exact hv.below (belowF_of hb)
      | 5 => exact hv
      | 6 => exact hv
      | 7 => exact hv
      | 8 => exact hv.below (belowF_of hb)
      | 9 => exact hv
      | 10 => exact hv
      | 11 => exact hv
      | 12 => exact hv
      | 13 => obtain ⟨B, h0, h1, h2⟩ := hv; exact ⟨B, h0, h1, (hb.block _ (lt_of_heap h2) (by simp)).trans h2⟩
      | n + 14 => trivial
    case refine_2 =>
      intro i hi vals a wr hB _ hV hD hE hO K hK
      have hB := belowF_of hB
      obtain ⟨d0, d1, d2, d3, d4, d5, d6, d7⟩ := HH.out _ hB
      have hOl := Lib.hid hO
      have hEl := Lib.hid hE
      have hVl := Lib.hid hV
      have hKl := Lib.hid hK
      clear hO hE hV hK hD HH
      match i, hi with
      | 0, _ =>
        refine wpOp_step rfl ?_
        intro K' hK'
        go_simp
        go_at_call 22; refine (langs_ref _).mono ?_; rintro e w' ⟨u, rfl, hR, hb⟩
        go_simp
        exact hK' _ _ (hKl.out _ _ (fun _ => grownF_of hb) (fun h => absurd h (by decide)) (fun h => by cases h) hR (fun g hg => by cases hg))
      | 1, _ =>
        have g0 : a.tmps.getD 1 undef = .pointer (some ⟨w.heap.size, 0, none⟩) := hOl.out 1 (by kernel_rfl)
        refine wpOp_step rfl ?_
        intro K' hK'
        go_simp
        exact hK' _ _ (hKl.out _ _ (fun _ => World.grownBy.refl _ _) (fun h => absurd h (by decide)) (fun _ => rfl) rfl (fun g hg => by cases hg))
      | 2, _ =>
        have g0 : a.tmps.getD 14 undef = .pointer (some ⟨w.heap.size, 0, none⟩) := (hEl.out 1 14 (by kernel_rfl) rfl).trans (hVl.out 1 (by kernel_rfl) (fun h => by cases h))
        refine wpOp_step rfl ?_
        intro K' hK'
        go_simp
        exact hK' _ _ (hKl.out _ _ (fun _ => World.grownBy.refl _ _) (fun h => absurd h (by decide)) (fun _ => rfl) rfl (fun g hg => by cases hg))
      | 3, _ =>
        have g0 : a.tmps.getD 13 undef = vals 0 := hEl.out 0 13 (by kernel_rfl) rfl
        have g1 : a.tmps.getD 15 undef = .int .i64 S.lang := (hEl.out 2 15 (by kernel_rfl) rfl).trans (hVl.out 2 (by kernel_rfl) (fun h => by cases h))
        have hRow := hVl.out 0 (by kernel_rfl) (fun h => by cases h)
        refine wpOp_step rfl ?_
        intro K' hK'
        go_simp
        go_at_call 21; refine (pick_ref _ langsL _ _ hRow (by decide) (by decide)).mono ?_; rintro e w' ⟨rfl, rfl⟩
        go_simp
        exact hK' _ _ (hKl.out _ _ (fun _ => World.grownBy.refl _ _) (fun h => absurd h (by decide)) (fun _ => rfl) (congrArg Value.string Hy1.out) (fun g hg => by cases hg))
      | 4, _ =>
        refine wpOp_step rfl ?_
        intro K' hK'
        go_simp
        go_at_call 23; refine (scripts_ref _).mono ?_; rintro e w' ⟨u, rfl, hR, hb⟩
        go_simp
        exact hK' _ _ (hKl.out _ _ (fun _ => grownF_of hb) (fun h => absurd h (by decide)) (fun h => by cases h) hR (fun g hg => by cases hg))
      | 5, _ =>
        have g0 : a.tmps.getD 1 undef = .pointer (some ⟨w.heap.size, 0, none⟩) := hOl.out 1 (by kernel_rfl)
        refine wpOp_step rfl ?_
        intro K' hK'
        go_simp
        exact hK' _ _ (hKl.out _ _ (fun _ => World.grownBy.refl _ _) (fun h => absurd h (by decide)) (fun _ => rfl) rfl (fun g hg => by cases hg))
      | 6, _ =>
        have g0 : a.tmps.getD 18 undef = .pointer (some ⟨w.heap.size, 2, none⟩) := (hEl.out 5 18 (by kernel_rfl) rfl).trans (hVl.out 5 (by kernel_rfl) (fun h => by cases h))
        refine wpOp_step rfl ?_
        intro K' hK'
        go_simp
        exact hK' _ _ (hKl.out _ _ (fun _ => World.grownBy.refl _ _) (fun h => absurd h (by decide)) (fun _ => rfl) rfl (fun g hg => by cases hg))
      | 7, _ =>
        have g0 : a.tmps.getD 17 undef = vals 4 := hEl.out 4 17 (by kernel_rfl) rfl
        have g1 : a.tmps.getD 19 undef = .int .i64 S.script := (hEl.out 6 19 (by kernel_rfl) rfl).trans (hVl.out 6 (by kernel_rfl) (fun h => by cases h))
        have hRow := hVl.out 4 (by kernel_rfl) (fun h => by cases h)
        refine wpOp_step rfl ?_
        intro K' hK'
        go_simp
        go_at_call 21; refine (pick_ref _ scriptsL _ _ hRow (by decide) (by decide)).mono ?_; rintro e w' ⟨rfl, rfl⟩
        go_simp
        exact hK' _ _ (hKl.out _ _ (fun _ => World.grownBy.refl _ _) (fun h => absurd h (by decide)) (fun _ => rfl) (congrArg Value.string Hy2.out) (fun g hg => by cases hg))
      | 8, _ =>
        refine wpOp_step rfl ?_
        intro K' hK'
        go_simp
        go_at_call 24; refine (regions_ref _).mono ?_; rintro e w' ⟨u, rfl, hR, hb⟩
        go_simp
        exact hK' _ _ (hKl.out _ _ (fun _ => grownF_of hb) (fun h => absurd h (by decide)) (fun h => by cases h) hR (fun g hg => by cases hg))
      | 9, _ =>
        have g0 : a.tmps.getD 1 undef = .pointer (some ⟨w.heap.size, 0, none⟩) := hOl.out 1 (by kernel_rfl)
        refine wpOp_step rfl ?_
        intro K' hK'
        go_simp
        exact hK' _ _ (hKl.out _ _ (fun _ => World.grownBy.refl _ _) (fun h => absurd h (by decide)) (fun _ => rfl) rfl (fun g hg => by cases hg))
      | 10, _ =>
        have g0 : a.tmps.getD 22 undef = .pointer (some ⟨w.heap.size, 3, none⟩) := (hEl.out 9 22 (by kernel_rfl) rfl).trans (hVl.out 9 (by kernel_rfl) (fun h => by cases h))
        refine wpOp_step rfl ?_
        intro K' hK'
        go_simp
        exact hK' _ _ (hKl.out _ _ (fun _ => World.grownBy.refl _ _) (fun h => absurd h (by decide)) (fun _ => rfl) rfl (fun g hg => by cases hg))
      | 11, _ =>
        have g0 : a.tmps.getD 21 undef = vals 8 := hEl.out 8 21 (by kernel_rfl) rfl
        have g1 : a.tmps.getD 23 undef = .int .i64 S.region := (hEl.out 10 23 (by kernel_rfl) rfl).trans (hVl.out 10 (by kernel_rfl) (fun h => by cases h))
        have hRow := hVl.out 8 (by kernel_rfl) (fun h => by cases h)
        refine wpOp_step rfl ?_
        intro K' hK'
        go_simp
        go_at_call 21; refine (pick_ref _ regionsL _ _ hRow (by decide) (by decide)).mono ?_; rintro e w' ⟨rfl, rfl⟩
        go_simp
        exact hK' _ _ (hKl.out _ _ (fun _ => World.grownBy.refl _ _) (fun h => absurd h (by decide)) (fun _ => rfl) (congrArg Value.string Hy3.out) (fun g hg => by cases hg))
      | 12, _ =>
        have g0 : a.tmps.getD 16 undef = .string y1 := (hEl.out 3 16 (by kernel_rfl) rfl).trans (hVl.out 3 (by kernel_rfl) (fun h => by cases h))
        have g1 : a.tmps.getD 20 undef = .string y2 := (hEl.out 7 20 (by kernel_rfl) rfl).trans (hVl.out 7 (by kernel_rfl) (fun h => by cases h))
        have g2 : a.tmps.getD 24 undef = .string y3 := (hEl.out 11 24 (by kernel_rfl) rfl).trans (hVl.out 11 (by kernel_rfl) (fun h => by cases h))
        rw [Array.getD_eq_getD_getElem?] at g0 g1 g2
        refine wpOp_step rfl ?_
        intro K' hK'
        go_simp
        exact hK' _ _ (hKl.out _ _ (fun _ => World.grownBy.refl _ _) (fun h => absurd h (by decide)) (fun _ => rfl) rfl (fun g hg => by cases hg))
      | 13, _ =>
        refine wpOp_step rfl ?_
        intro K' hK'
        go_simp
        exact hK' _ _ (hKl.out _ _ (fun _ => World.grownBy_alloc _ _ _) (fun h => absurd h (by decide)) (fun h => by cases h) ⟨_, rfl, hB.size, World.alloc_heap_new _ _⟩ (fun g hg => by cases hg))
      | n + 14, h => exact absurd h (by omega)
    case refine_3 =>
      intro vals wr hB hV hD hL K hK
      have hB := belowF_of hB
      obtain ⟨B, hv13, hB13, hh13⟩ := hV 13 (by omega) (fun h => absurd h (by decide))
      have hv12 := hV 12 (by omega) (fun h => absurd h (by decide))
      have hKl := Lib.hid hK
      generalize hput : putLF _ vals _ _ _ = aa
      obtain rfl : aa = ⟨#[.agg #[.int .i64 S.lang, .int .i64 S.extl, .int .i64 S.script, .int .i64 S.region, vv, vk, vp, .int .i64 S.odd], .pointer (some ⟨w.heap.size, 0, none⟩), .pointer (some ⟨W0.heap.size, 0, none⟩), .pointer (some ⟨B, 0, none⟩), undef, undef, undef, undef, undef, undef, undef, undef, undef, vals 0, vals 1, vals 2, vals 3, vals 4, vals 5, vals 6, vals 7, vals 8, vals 9, vals 10, vals 11, .agg #[.string y1, .slice none 0 0, .string y2, .string y3, .slice none 0 0, .slice none 0 0, .slice none 0 0, .string ByteArray.empty], undef, undef, undef, undef, undef, undef, undef, undef, undef, undef, undef, undef, undef, undef, undef, undef, undef, undef, undef, undef, undef, undef, undef, undef, undef, undef, undef, undef, undef, undef, undef, undef, undef, undef, undef, undef, undef, undef, undef, undef, undef, undef, undef, undef, undef, undef, undef, undef, undef, undef, undef, undef, undef, undef, undef, undef, undef, undef, undef, undef, undef, undef, undef, undef, undef, undef, undef, undef, undef, undef, undef, undef, undef, undef, undef, undef, undef, undef, undef, undef, undef, undef, undef, undef, undef, undef, undef, undef, undef, undef, undef, undef, undef, undef, undef, undef, undef, undef, undef, undef, undef, undef, undef, undef, undef, undef, undef, undef, undef, undef, undef, undef, undef, undef, undef, undef, undef, undef, undef, undef, undef, undef, undef, undef, undef, undef, undef, undef, undef, undef, undef, undef, undef, undef, undef, undef, undef, undef, undef, undef], []⟩ := by rw [← hv12, ← hv13, ← hput]; kernel_rfl
      clear hV hD hL hK HH hput
      obtain ⟨d0, d1, d2, d3, d4, d5, d6, d7⟩ := tag_cells hh13
      have f0 := cells_frozen 0 hh13
      have f1 := cells_frozen 1 hh13
      have f2 := cells_frozen 2 hh13
      have f3 := cells_frozen 3 hh13
      have f4 := cells_frozen 4 hh13
      have f5 := cells_frozen 5 hh13
      have f6 := cells_frozen 6 hh13
      have f7 := cells_frozen 7 hh13
      refine wpOp_step rfl ?_
      intro K' hK'
      go_simp
      refine hK' _ _ (hKl.out _ _ (hK1 _ _ (Met.intro (hJ1 _ _ ?_))))
      obtain ⟨hw1, hw2⟩ := tag_store hh13 (.string y1) (.slice none 0 0) (.string y2) (.string y3) (.slice none 0 0) (.slice none 0 0) (.slice none 0 0) (.string ByteArray.empty)
      generalize (((((((wr.setCell _ _).setCell _ _).setCell _ _).setCell _ _).setCell _ _).setCell _ _).setCell _ _).setCell _ _ = wz at *
      (repeat apply Exists.intro)
      refine ⟨?rel, rfl⟩
      case rel => exact ⟨B, rfl, hB13, hw1, hB.grown hw2 hB.size (fun k hk => by cases hk; exact hB13)⟩
  case rest =>
    obtain ⟨B, rfl, hB1, hhB, hBw⟩ := hcut
    obtain ⟨w2, rfl⟩ : ∃ x, x = wc := ⟨_, rfl⟩
    have hbox2 := (hBw.block _ hz01).trans HBOX.out
    have hres2 := (hBw.block _ hz1).trans HR1.out
    have hBl2 := lt_of_heap hhB
    have hs12 := hBw.size
    have HBW2 := Lib.hid (HBW1.out.trans (hBw.mono (by omega)))
    have HB12 := Lib.hid hBw
    have HBW1' := HBW1
    clear HBW1 HR1 HBOX HH hBw
    obtain ⟨d0, d1, d2, d3, d4, d5, d6, d7⟩ := tag_cells hbox2
    obtain ⟨e0, e1, e2, e3, e4, e5, e6, e7⟩ := tag_cells hhB
    go_upto_region 2 with fail
    go_cut [35] from 26 to 35 (fun u wx => u = .bool (decide (y1.size ≤ 3 ∧ Int.tmod S.extl 4 = 1)) ∧ wx = w2)
    case first =>
      by_cases hy : y1.size ≤ 3
      · have hyi : (y1.size : Int) ≤ 3 := by omega
        by_cases he : Int.tmod S.extl 4 = 1
        · have he' : (Int.tmod S.extl 4 == 1) = true := by rw [beq_iff_eq]; exact he
          go_wp2_with fail
          go_meet
          case rel => exact ⟨by rw [decide_eq_true (show y1.size ≤ 3 ∧ Int.tmod S.extl 4 = 1 from ⟨hy, he⟩)], rfl⟩
        · have he' : (Int.tmod S.extl 4 == 1) = false := by rw [beq_eq_false_iff_ne]; exact he
          go_wp2_with fail
          go_meet
          case rel => exact ⟨by rw [decide_eq_false (show ¬ (y1.size ≤ 3 ∧ Int.tmod S.extl 4 = 1) from fun h => he h.2)], rfl⟩
      · have hyi : ¬ (y1.size : Int) ≤ 3 := by omega
        go_wp2_with fail
        go_meet
        case rel => exact ⟨by rw [decide_eq_false (show ¬ (y1.size ≤ 3 ∧ Int.tmod S.extl 4 = 1) from fun h => hy h.1)], rfl⟩
    case rest =>
      obtain ⟨rfl, rfl⟩ := hcut
      go_upto_if 35 with fail
      go_cut [3] from 35 to 42 (fun u wx => ∃ ve, u = .pointer (some ⟨B, 0, none⟩) ∧ wx.ownsRow wc.heap.size 9 1 ve (madeE y1 S.extl).length (strs (madeE y1 S.extl)) ∧ wx.heap[B]? = some (.cells #[.string y1, ve, .string y2, .string y3, .slice none 0 0, .slice none 0 0, .slice none 0 0, .string ByteArray.empty] 31 (0, 0)) ∧ wc.grownBy wx (some B))
      case first =>
        by_cases hc : y1.size ≤ 3 ∧ Int.tmod S.extl 4 = 1
        · have hE : madeE y1 S.extl = [pickT extlL (Int.tdiv S.extl 4)] := by unfold madeE; rw [if_pos hc]
          rw [decide_eq_true hc]
          have f1 := cells_frozen 1 hhB
          have hwl : w.heap.size < wc.heap.size := by omega
          obtain ⟨z, hz⟩ : ∃ z, pickT extlL (Int.tdiv S.extl 4) = z := ⟨_, rfl⟩
          have Hz := Lib.hid hz
          have a1 : (wc.alloc (.cells #[.string ⟨#[121, 117, 101]⟩, .string ⟨#[99, 109, 110]⟩, .string ⟨#[109, 105, 110]⟩] 9)).cell? ⟨w.heap.size, 1, none⟩ = some (.int .i64 S.extl) := (((Below.refl wc.heap.size wc).alloc (Nat.le_refl _) _).cell (p := ⟨w.heap.size, 1, none⟩) hwl).trans d1
          have hbel : Below wc.heap.size wc ((wc.alloc (.cells #[.string ⟨#[121, 117, 101]⟩, .string ⟨#[99, 109, 110]⟩, .string ⟨#[109, 105, 110]⟩] 9)).alloc (.cells #[.string z] 9)) := ((Below.refl wc.heap.size wc).alloc (Nat.le_refl _) _).alloc (by simp) _
          have a2 := (hbel.cell (p := ⟨B, 1, none⟩) hBl2).trans e1
          have a3 := (hbel.frozen (p := ⟨B, 1, none⟩) hBl2).trans f1
          clear hz
          go_wp2_with (go_at_call 21; refine (pick_ref _ extlL _ _ (Row.of_block extlL 3 3 rfl (World.alloc_heap_new _ _)) (by decide) (by decide)).mono ?_; rintro e w' ⟨rfl, rfl⟩; rw [Hz.out])
          go_meet
          case rel =>
            rw [hE, Hz.out]
            have hx := (grownF_trans (grownF_trans (grown_setF (World.grownBy.refl wc (some B)) 1 (.slice (some ⟨wc.heap.size + 1, 0, none⟩) 1 1)) (World.grownBy_alloc _ (.cells (strs extlL).toArray 9) _)) (World.grownBy_alloc _ (.cells #[.string z] 9) _))
            have hb9 : Below (wc.setCell ⟨B, 1, none⟩ (.slice (some ⟨wc.heap.size + 1, 0, none⟩) 1 1)).heap.size (wc.setCell ⟨B, 1, none⟩ (.slice (some ⟨wc.heap.size + 1, 0, none⟩) 1 1)) (((wc.setCell ⟨B, 1, none⟩ (.slice (some ⟨wc.heap.size + 1, 0, none⟩) 1 1)).alloc (.cells (strs extlL).toArray 9)).alloc (.cells #[.string z] 9)) := ((Below.refl _ _).alloc (Nat.le_refl _) _).alloc (by simp) _
            refine ⟨_, rfl, ?_, (hb9.block B (by simpa [World.setCell] using hBl2)).trans (cells_set hhB _), hx⟩
            have := World.ownsRow_lit (base := wc.heap.size) (e := 9) (size := 1) ((wc.setCell ⟨B, 1, none⟩ (.slice (some ⟨wc.heap.size + 1, 0, none⟩) 1 1)).alloc (.cells (strs extlL).toArray 9)) #[.string z] 1 (by simp [World.setCell]) (by decide) rfl
            simpa [World.setCell, strs] using this
        · have hE : madeE y1 S.extl = [] := by unfold madeE; rw [if_neg hc]
          rw [decide_eq_false hc]
          go_wp2_with fail
          go_meet
          case rel => rw [hE]; exact ⟨_, rfl, World.ownsRow_nil _ _ _ _, hhB, World.grownBy.refl _ _⟩
      case rest =>
        obtain ⟨ve, rfl, hve, hhB3, hg3⟩ := hcut
        obtain ⟨w2, rfl⟩ : ∃ x, x = wc := ⟨_, rfl⟩
        have hbox3 := (hg3.block w.heap.size (by omega) (by simp; omega)).trans hbox2
        have hres3 := (hg3.block W0.heap.size (by omega) (by simp; omega)).trans hres2
        have HBW3 := Lib.hid (HB12.out.grown hg3 HB12.out.size (fun g hg => by cases hg; exact hB1))
        have hs23 := hg3.size
        have HE3 := Lib.hid (And.intro hve hhB3)
        have hBl3 : B < w2.heap.size := by omega
        have HRES3 := Lib.hid hres3
        have HBOX3 := Lib.hid hbox3
        clear hbox2 hres2 hhB d0 d1 d2 d3 d4 d5 d6 d7 e0 e1 e2 e3 e4 e5 e6 e7 hve hhB3 hg3 hbox3 hres3
        obtain ⟨ao, cap, rfl, hVl, hVe⟩ := HV.out
        unfold maxLen at hVl
        have HVE := Lib.hid hVe
        clear hVe HV
        go_step
        go_step
        go_cut [3] from 43 to 85 (fun u wx => ∃ v, u = .pointer (some ⟨B, 0, none⟩) ∧ wx.ownsRow w2.heap.size 9 1 v (madeV S.vars).length (strs (madeV S.vars)) ∧ wx.heap[B]? = some (.cells #[.string y1, ve, .string y2, .string y3, v, .slice none 0 0, .slice none 0 0, .string ByteArray.empty] 31 (0, 0)) ∧ w2.grownBy wx (some B))
        case first =>
          go_wp2_with fail
          go_loopw [4] (fun i wr => ∃ (k : Nat) (v : Value), k ≤ S.vars.length ∧ k ≤ 4 ∧ i = .int .i64 (k : Int) ∧ wr.ownsRow w2.heap.size 9 1 v (addVs (S.vars.take k)).length (strs (addVs (S.vars.take k))) ∧ wr.heap[B]? = some (.cells #[.string y1, ve, .string y2, .string y3, v, .slice none 0 0, .slice none 0 0, .string ByteArray.empty] 31 (0, 0)) ∧ w2.grownBy wr (some B)) (fun i _ => 5 - (intOf i).toNat)
          case atStart => exact ⟨0, _, Nat.zero_le _, by omega, rfl, World.ownsRow_nil _ _ _ _, HE3.out.2, World.grownBy.refl _ _⟩
          case round =>
            obtain ⟨k, v, hk, hk4, rfl, hown, hhB, hgr⟩ := hrel
            have hboxr := (hgr.block w.heap.size (by omega) (by simp; omega)).trans HBOX3.out
            obtain ⟨d0, d1, d2, d3, d4, d5, d6, d7⟩ := tag_cells hboxr
            by_cases hlt : k < S.vars.length
            · have hki : (k : Int) < (S.vars.length : Int) := by omega
              have hd : decide ((k : Int) < (S.vars.length : Int)) = true := decide_eq_true hki
              by_cases hlt4 : k < 4
              · have hki4 : (k : Int) < 4 := by omega
                have hk0 : (0 : Int) ≤ (k : Int) := by omega
                obtain ⟨n, hn⟩ : ∃ p, S.vars[k]? = some p := ⟨_, List.getElem?_eq_getElem hlt⟩
                obtain ⟨b, o, rfl, c1⟩ := HVE.out k n hn
                have hbl : b < W1.heap.size := lt_of_cellF c1
                have hbw : Below W1.heap.size W1 wr := HBW3.out.grown hgr HBW3.out.size (fun g hg => by cases hg; exact hB1)
                have c1 := (hbw.cell (p := ⟨b, o + k, none⟩) hbl).trans c1
                obtain ⟨p, hp⟩ : ∃ p, pickT variantsL n = p := ⟨_, rfl⟩
                have HPK := Lib.hid hp
                have HA := Lib.hid (show addVs (S.vars.take (k + 1)) = addP (addVs (S.vars.take k)) p by rw [take_next hn]; unfold addVs; rw [List.foldl_append, ← hp]; rfl)
                have hal := addVs_len (S.vars.take k)
                rw [List.length_take] at hal
                generalize addVs (S.vars.take k) = acc at *
                have HC := Lib.hid (fun (w' : World) (hb : Below wr.heap.size wr w') => show w'.cell? ⟨w.heap.size, 4, none⟩ = some (.slice (some ⟨b, o, none⟩) S.vars.length cap) ∧ w'.cell? ⟨b, o + k, none⟩ = some (.int .i64 n) from
                  ⟨(hb.cell (p := ⟨w.heap.size, 4, none⟩) (lt_of_cellF d4)).trans d4, (hb.cell (p := ⟨b, o + k, none⟩) (lt_of_cellF c1)).trans c1⟩)
                have hBd : Below wr.heap.size wr wr.drew := Below.drew (Below.refl _ _)
                obtain ⟨q1, q2⟩ := HC.out _ hBd
                clear hp
                go_upto_region 7 with fail
                go_region_held3 (fun w' => Below wr.heap.size wr w' ∧ w'.cell? ⟨w.heap.size, 4, none⟩ = some (.slice (some ⟨b, o, none⟩) S.vars.length cap) ∧ w'.cell? ⟨b, o + k, none⟩ = some (.int .i64 n))
                  (first | exact ⟨by assumption, by assumption, by assumption⟩ | exact ⟨hB6, HC.out _ hB6⟩)
                  (first
                    | (go_at_call 25; refine (variants_ref _).mono ?_; rintro e w5 ⟨u, rfl, hR, hb5⟩; have hB6 := hBd.trans hb5)
                    | (go_at_call 21; refine (pick_ref _ variantsL _ _ hR (by decide) (by decide)).mono ?_; rintro e w6 ⟨rfl, rfl⟩; rw [HPK.out]))
                have hhB5 := (hB6.block B (lt_of_heap hhB)).trans hhB
                have hown5 := ownsRow_belowF hown hB6
                have hgr5 := grownF_trans hgr (grownF_of (row := some B) hB6)
                have hnv := own_not_tag hown5 hhB5
                obtain ⟨av, cv, rfl, HR5⟩ := Row.of_own hown5
                have HR5 := Lib.hid HR5
                obtain ⟨e0, e1, e2, e3, e4, e5, e6, e7⟩ := tag_cells hhB5
                have HS5 := Lib.hid (And.intro hhB5 (And.intro hown5 (And.intro hgr5 hnv)))
                have hB5l := lt_of_heap hhB5
                have hal4 : acc.length ≤ 4 := by omega
                clear hown hhB hgr hbw hboxr hB6 hBd q1 q2 HC hR c1 hb5 hhB5 hown5 hgr5 hnv d0 d1 d2 d3 d4 d5 d6 d7
                go_wp2_with fail
                go_loop [6, 7] (fun t j => ∃ m : Nat, m ≤ acc.length ∧ j = .int .i64 (m : Int) ∧ t = .bool ((acc.take m).any fun x => decide (x = p))) (fun _ j => acc.length - (intOf j).toNat)
                case atStart => exact ⟨0, Nat.zero_le _, rfl, rfl⟩
                case round =>
                  obtain ⟨m, hm, rfl, rfl⟩ := hrel
                  by_cases hml : m < acc.length
                  · have hmi : (m : Int) < (acc.length : Int) := by omega
                    have hm0 : (0 : Int) ≤ (m : Int) := by omega
                    obtain ⟨x, hx⟩ : ∃ x, acc[m]? = some x := ⟨_, List.getElem?_eq_getElem hml⟩
                    obtain ⟨g, rfl, hc⟩ := HR5.out m x hx
                    have HN := Lib.hid (show (acc.take (m + 1)).any (fun x => decide (x = p)) = ((acc.take m).any (fun x => decide (x = p)) || decide (x = p)) by rw [take_next hx, List.any_append]; simp)
                    generalize (acc.take m).any (fun x => decide (x = p)) = tb at *
                    cases tb with
                    | true =>
                      go_wp2_with fail
                      go_round
                      case rel => exact ⟨m + 1, by omega, by go_num, by rw [HN.out]; rfl⟩
                      case measure => simp [intOf]; omega
                    | false =>
                      by_cases hxp : x = p
                      · subst hxp
                        have hbb : (x.toList == x.toList) = true := beq_self_eq_true _
                        go_wp2_with fail
                        go_round
                        case rel => exact ⟨m + 1, by omega, by go_num, by rw [HN.out]; simp⟩
                        case measure => simp [intOf]; omega
                      · have hbb : (x.toList == p.toList) = false := toList_ne hxp
                        go_wp2_with fail
                        go_round
                        case rel => exact ⟨m + 1, by omega, by go_num, by rw [HN.out, decide_eq_false hxp]; rfl⟩
                        case measure => simp [intOf]; omega
                  · obtain rfl : m = acc.length := by omega
                    rw [List.take_of_length_le (Nat.le_refl _)]
                    have HAP := Lib.hid (show addP acc p = if acc.any (fun x => decide (x = p)) then acc else acc ++ [p] from rfl)
                    generalize acc.any (fun x => decide (x = p)) = tb at *
                    cases tb with
                    | true =>
                      go_wp2_with fail
                      go_roundw
                      case rel =>
                        have e : addP acc p = acc := HAP.out
                        exact ⟨k + 1, _, by omega, by omega, by go_num, by rw [HA.out, e]; exact HS5.out.2.1, HS5.out.1, HS5.out.2.2.1⟩
                      case measure => simp [intOf]; omega
                    | false =>
                      obtain ⟨i0, hii, iz0, iz1, iz2⟩ := info_parts stringInfo
                      have f4 := cells_frozen 4 HS5.out.1
                      have hs5 := HS5.out.2.2.1.size
                      go_wp2_with (at_builtin; refine wpList_append_own _ rfl _ _ 28 rfl w2.heap.size 9 i0 (.string ByteArray.empty) 1 16 Tryz.underlying28 hii iz0 iz1 iz2 rfl (by decide) _ _ _ rfl (HS5.out.2.1.alloc _) ⟨_, 0, none⟩ 1 1 [.string p] rfl rfl (cell_one_new _ _ _) (by intro u hu; simp at hu; subst hu; rfl) (by unfold maxLen; omega) (by omega) (by simp; omega) ?_; intro v' w7 hown7 hgrow7 _; have hh7 := (hgrow7.block B (by simp; omega) (fun e => HS5.out.2.2.2 e.symm)).trans ((Below.heap_alloc _ _ _ hB5l).trans HS5.out.1); have c7 := (tag_cells hh7).2.2.2.2.1; have f7 := cells_frozen 4 hh7; obtain ⟨va, vn, vc, rfl⟩ := own_slice hown7)
                      go_roundw
                      case rel =>
                        have e : addP acc p = acc ++ [p] := HAP.out
                        have hg7 := grown_append HS5.out.2.2.1 HS5.out.2.1 hgrow7
                        refine ⟨k + 1, _, by omega, by omega, by go_num, ?_, cells_set hh7 _, grown_setF hg7 4 _⟩
                        rw [HA.out, e, List.length_append, strs_append]
                        exact hown7.kept (grown_setF (World.grownBy.refl _ (some B)) 4 _) (.inr (own_not_tag hown7 hh7))
                      case measure => simp [intOf]; omega
              · obtain rfl : k = 4 := by omega
                go_wp2_with fail
                go_meet
                case rel => exact ⟨_, rfl, hown, hhB, hgr⟩
            · have hki : ¬ (k : Int) < (S.vars.length : Int) := by omega
              have hd : decide ((k : Int) < (S.vars.length : Int)) = false := decide_eq_false hki
              have hE : madeV S.vars = addVs (S.vars.take k) := by unfold madeV; rw [List.take_of_length_le (by omega), List.take_of_length_le (by omega)]
              go_wp2_with fail
              go_meet
              case rel => rw [hE]; exact ⟨_, rfl, hown, hhB, hgr⟩
        case rest =>
          obtain ⟨v4, rfl, hv4, hhB4, hg4⟩ := hcut
          obtain ⟨w3, rfl⟩ : ∃ x, x = wc := ⟨_, rfl⟩
          have hv3 := own_lower (HE3.out.1.kept hg4 (.inr (own_not_tag HE3.out.1 HE3.out.2))) hs12
          have hbox4 := (hg4.block w.heap.size (by omega) (by simp; omega)).trans HBOX3.out
          have hres4 := (hg4.block W0.heap.size (by omega) (by simp; omega)).trans HRES3.out
          have HBW4 := Lib.hid (HBW3.out.grown hg4 HBW3.out.size (fun g hg => by cases hg; exact hB1))
          have hs34 := hg4.size
          have HE4 := Lib.hid (And.intro hv3 (And.intro (fun g hg => (HE3.out.1.lt g hg).2) (And.intro hv4 hhB4)))
          have hBl4 : B < w3.heap.size := by omega
          have HRES4 := Lib.hid hres4
          have HBOX4 := Lib.hid hbox4
          clear HE3 HRES3 HBOX3 HBW3 HVE hVl hv3 hv4 hhB4 hg4 hbox4 hres4
          obtain ⟨ak, capk, rfl, hKl, hKe⟩ := HK.out
          unfold maxLen at hKl
          have HKE := Lib.hid hKe
          clear hKe HK
          go_step
          go_step
          go_cut [3] from 86 to 135 (fun u wx => ∃ v, u = .pointer (some ⟨B, 0, none⟩) ∧ ExtO wx w3.heap.size v (madeX S.keys) ∧ wx.heap[B]? = some (.cells #[.string y1, ve, .string y2, .string y3, v4, v, .slice none 0 0, .string ByteArray.empty] 31 (0, 0)) ∧ w3.grownBy wx (some B))
          case first =>
            go_wp2_with fail
            go_loopw [8] (fun i wr => ∃ (k : Nat) (v : Value), k ≤ S.keys.length ∧ k ≤ 3 ∧ i = .int .i64 (k : Int) ∧ ExtO wr w3.heap.size v (extKs (S.keys.take k)) ∧ wr.heap[B]? = some (.cells #[.string y1, ve, .string y2, .string y3, v4, v, .slice none 0 0, .string ByteArray.empty] 31 (0, 0)) ∧ w3.grownBy wr (some B)) (fun i _ => 5 - (intOf i).toNat)
            case atStart => exact ⟨0, _, Nat.zero_le _, by omega, rfl, ExtO.nil _ _, HE4.out.2.2.2, World.grownBy.refl _ _⟩
            case round =>
              obtain ⟨k, v, hk, hk4, rfl, hEO, hhB, hgr⟩ := hrel
              have hboxr := (hgr.block w.heap.size (by omega) (by simp; omega)).trans HBOX4.out
              obtain ⟨d0, d1, d2, d3, d4, d5, d6, d7⟩ := tag_cells hboxr
              by_cases hlt : k < S.keys.length
              · have hki : (k : Int) < (S.keys.length : Int) := by omega
                have hd : decide ((k : Int) < (S.keys.length : Int)) = true := decide_eq_true hki
                by_cases hlt4 : k < 3
                · have hki4 : (k : Int) < 3 := by omega
                  have hk0 : (0 : Int) ≤ (k : Int) := by omega
                  have hki5 : (k : Int) < 4 := by omega
                  obtain ⟨n, hn⟩ : ∃ p, S.keys[k]? = some p := ⟨_, List.getElem?_eq_getElem hlt⟩
                  obtain ⟨b, o, rfl, c1⟩ := HKE.out k n hn
                  have hbl : b < W1.heap.size := lt_of_cellF c1
                  have hbw : Below W1.heap.size W1 wr := HBW4.out.grown hgr HBW4.out.size (fun g hg => by cases hg; exact hB1)
                  have c1 := (hbw.cell (p := ⟨b, o + k, none⟩) hbl).trans c1
                  obtain ⟨hp1, hp2, hp3, hp4⟩ := pick_facts 1000 n (by decide)
                  obtain ⟨N, hN⟩ : ∃ N, pickI 1000 n = N := ⟨_, rfl⟩
                  rw [hN] at hp3 hp4
                  obtain ⟨key, hkey⟩ : ∃ x, keyI k = x := ⟨_, rfl⟩
                  have HX := Lib.hid (show extKs (S.keys.take (k + 1)) = extKs (S.keys.take k) ++ [(key, subsN N)] by rw [take_next hn, extKs_snoc, List.length_take, Nat.min_eq_left (by omega), hkey, hN])
                  have hLk : (extKs (S.keys.take k)).length = k := by rw [extKs_len, List.length_take]; omega
                  generalize extKs (S.keys.take k) = L at *
                  have hkc : (wr.alloc (.cells #[.string ⟨#[117]⟩, .string ⟨#[116]⟩, .string ⟨#[97]⟩, .string ⟨#[57]⟩] 9)).cell? ⟨wr.heap.size, k, none⟩ = some (.string key) := by
                    have : k = 0 ∨ k = 1 ∨ k = 2 := by omega
                    rcases this with rfl | rfl | rfl <;> (rw [← hkey]; unfold World.cell?; rw [World.alloc_heap_new]; rfl)
                  go_upto_region 18 with fail
                  go_cut [9] from 95 to 101 (fun u wx => ∃ Eb, u = .pointer (some ⟨Eb, 0, none⟩) ∧ wr.heap.size ≤ Eb ∧ wx.heap[Eb]? = some (.cells #[.string key, .slice none 0 0] 51 (0, 0)) ∧ Below wr.heap.size wr wx)
                  case first =>
                    go_wp2_with fail
                    go_meet
                    case rel => exact ⟨_, rfl, by omega, heap_alloc2_new _ _ _, ((Below.refl _ _).alloc (Nat.le_refl _) _).alloc (by simp) _⟩
                  case rest =>
                    obtain ⟨Eb, rfl, hEb, hhE, hbE⟩ := hcut
                    obtain ⟨w5, rfl⟩ : ∃ x, x = wc := ⟨_, rfl⟩
                    have c1 := (hbE.cell (p := ⟨b, o + k, none⟩) (lt_of_cellF c1)).trans c1
                    have d5 := (hbE.cell (p := ⟨w.heap.size, 5, none⟩) (lt_of_cellF d5)).trans d5
                    have hp3 : Int.tmod (Int.tmod n 1000 + 1000) 1000 = (N : Int) := hp3
                    have hp1 : (-1000 : Int) < Int.tmod n 1000 := hp1
                    have hp2 : Int.tmod n 1000 < (1000 : Int) := hp2
                    go_upto_region 19 with fail
                    go_cut [10] from 102 to 109 (fun u wx => u = .int .i64 (N : Int) ∧ wx = w5)
                    case first =>
                      go_wp2_with fail
                      go_meet
                      case rel => exact ⟨rfl, rfl⟩
                    case rest =>
                      obtain ⟨rfl, rfl⟩ := hcut
                      obtain ⟨w5, rfl⟩ : ∃ x, x = wc := ⟨_, rfl⟩
                      obtain ⟨q, hq⟩ : ∃ q, N % 4 = q := ⟨_, rfl⟩
                      obtain ⟨d, hd4⟩ : ∃ d, N / 4 = d := ⟨_, rfl⟩
                      have hq1 : Int.tmod (N : Int) 4 = (q : Int) := by rw [← hq]; rfl
                      have hq2 : Int.tdiv (N : Int) 4 = (d : Int) := by rw [← hd4]; rfl
                      have hq3 : q ≤ 3 := by omega
                      have hd5 : d < 250 := by omega
                      have HSUB := Lib.hid (show subsN N = (List.range (q + 1)).map (wordAt d) by unfold subsN wordAt; rw [hq, hd4])
                      obtain ⟨wo, rfl⟩ : ∃ x, x = wr := ⟨_, rfl⟩
                      have HR5 := Lib.hid (And.intro hEO (And.intro hhB (And.intro hgr hbE)))
                      have hEl := lt_of_heap hhE
                      clear hEO hhB hgr hbE hboxr hbw c1 d0 d1 d2 d3 d4 d5 d6 d7 hkc hp1 hp2 hp3 hq hd4 hN hkey
                      go_wp2_with fail
                      go_loopw [11] (fun j wk => ∃ (m : Nat) (sv : Value), m ≤ q + 1 ∧ j = .int .i64 (m : Int) ∧ wk.ownsRow w5.heap.size 9 1 sv ((List.range m).map (wordAt d)).length (strs ((List.range m).map (wordAt d))) ∧ wk.heap[Eb]? = some (.cells #[.string key, sv] 51 (0, 0)) ∧ w5.grownBy wk (some Eb)) (fun j _ => q + 2 - (intOf j).toNat)
                      case atStart => exact ⟨0, _, by omega, rfl, World.ownsRow_nil _ _ _ _, hhE, World.grownBy.refl _ _⟩
                      case round =>
                        obtain ⟨m, sv, hm, rfl, hown, hhk, hgk⟩ := hrel
                        have hc0 := ext_cells hhk
                        by_cases hmq : m ≤ q
                        · have hmi : (m : Int) ≤ (q : Int) := by omega
                          go_upto_region 23 with fail
                          obtain ⟨i0, hii, iz0, iz1, iz2⟩ := info_parts stringInfo
                          obtain ⟨mm, hmm⟩ : ∃ mm, m * m = mm := ⟨_, rfl⟩
                          obtain ⟨m3, hm3⟩ : ∃ m3, mm * 3 = m3 := ⟨_, rfl⟩
                          have hmm1 : (m : Int) * (m : Int) = (mm : Int) := by rw [← hmm]; push_cast; rfl
                          have hmm3 : (mm : Int) * 3 = (m3 : Int) := by rw [← hm3]; push_cast; rfl
                          have hmmb : mm ≤ 9 := by
                            have : m = 0 ∨ m = 1 ∨ m = 2 ∨ m = 3 := by omega
                            rcases this with rfl | rfl | rfl | rfl <;> omega
                          have hm3b : m3 ≤ 27 := by omega
                          have WD := Lib.hid (show IntKind.i64.wrap (d : Int) = (d : Int) from wrap_small _ (by omega) (by omega))
                          have WM := Lib.hid (show IntKind.i64.wrap (mm : Int) = (mm : Int) from wrap_small _ (by omega) (by omega))
                          have W3M := Lib.hid (show IntKind.i64.wrap (m3 : Int) = (m3 : Int) from wrap_small _ (by omega) (by omega))
                          have WS := Lib.hid (show IntKind.i64.wrap ((d : Int) + (m3 : Int)) = (d : Int) + (m3 : Int) from wrap_small _ (by omega) (by omega))
                          obtain ⟨p, hp⟩ : ∃ p, pickT wordsL ((d : Int) + (m3 : Int)) = p := ⟨_, rfl⟩
                          have HP9 := Lib.hid hp
                          have HNX := Lib.hid (show (List.range (m + 1)).map (wordAt d) = (List.range m).map (wordAt d) ++ [p] by rw [List.range_succ, List.map_append, ← hp, ← hm3, ← hmm]; rfl)
                          have hrl : ((List.range m).map (wordAt d)).length = m := by simp
                          have hvo := hown.lt
                          have HOWN := Lib.hid hown
                          have HGK := Lib.hid hgk
                          have HHK := Lib.hid hhk
                          have hEbv : some Eb ≠ sv.ownBlock := fun e => by have := (hvo Eb e.symm).1; omega
                          have HCELL := Lib.hid (fun (w' : World) (hb : wr.grownBy w' sv.ownBlock) => show w'.cell? ⟨Eb, 1, none⟩ = some sv ∧ w'.heap[Eb]? = some (.cells #[.string key, sv] 51 (0, 0)) from by
                            have h := (hb.block Eb (lt_of_heap hhk) hEbv).trans hhk
                            exact ⟨(ext_cells h).2, h⟩)
                          clear hp hown hgk hhk hc0 hmm hm3
                          refine wp_region_any (by kernel_rfl) ?_
                          change wpAny _ _ _ _ _ _ _ (World.drew _)
                          refine wp_region_free (n := 166) (z := 14) (w0 := wr.drew) sv.ownBlock (V := fun j u w' => match j with
                            | 0 => u = .pointer (some ⟨Eb, 1, none⟩)
                            | 1 => u = sv
                            | 2 => Row w' u wordsL
                            | 3 => u = .int .i64 (N : Int)
                            | 4 => u = .int .i64 (d : Int)
                            | 5 => u = .int .i64 (m : Int)
                            | 6 => u = .int .i64 (m : Int)
                            | 7 => u = .int .i64 (mm : Int)
                            | 8 => u = .int .i64 (m3 : Int)
                            | 9 => u = .int .i64 ((d : Int) + (m3 : Int))
                            | 10 => u = .string p
                            | 11 => ∃ g, u = .slice (some ⟨g, 0, none⟩) 1 1 ∧ w'.heap[g]? = some (.cells #[.string p] 9 (0, 0))
                            | 12 => w'.ownsRow w5.heap.size 9 1 u (((List.range m).map (wordAt d)).length + 1) (strs ((List.range m).map (wordAt d)) ++ [.string p])
                            | 13 => u = .pointer (some ⟨Eb, 1, none⟩)
                            | _ => True)
                            (blk := fun _ _ => none) (by kernel_rfl) (Nat.le_refl _) 12 (fun i => i == 13) (by kernel_rfl) ?_ ?_ ?_ ?_
                          case refine_1 =>
                            intro j u wa wb hv hb
                            match j with
                            | 0 => exact hv
                            | 1 => exact hv
                            | 2 => exact hv.below (belowF_of hb)
                            | 3 => exact hv
                            | 4 => exact hv
                            | 5 => exact hv
                            | 6 => exact hv
                            | 7 => exact hv
                            | 8 => exact hv
                            | 9 => exact hv
                            | 10 => exact hv
                            | 11 => obtain ⟨g, h0, h1⟩ := hv; exact ⟨g, h0, (hb.block _ (lt_of_heap h1) (by simp)).trans h1⟩
                            | 12 => exact hv.kept hb (by cases u.ownBlock <;> simp)
                            | 13 => exact hv
                            | n + 14 => trivial
                          case refine_2 =>
                            intro j u wa wb hj hv _
                            obtain rfl : j = 13 := by simpa using hj
                            exact hv
                          case refine_3 =>
                            intro i hi vals a wr' hB hB0 hV hD hE hO K hK
                            have hB : wr.grownBy wr' sv.ownBlock := ⟨hB.os, hB.tape, hB.output, hB.size, hB.block⟩
                            obtain ⟨c1, c2⟩ := HCELL.out _ hB
                            have hOl := Lib.hid hO
                            have hEl := Lib.hid hE
                            have hVl := Lib.hid hV
                            have hKl := Lib.hid hK
                            clear hO hE hV hK hD
                            match i, hi with
                            | 0, _ =>
                              have g0 : a.tmps.getD 9 undef = .pointer (some ⟨Eb, 0, none⟩) := hOl.out 9 (by kernel_rfl)
                              refine wpOp_step rfl ?_
                              intro K' hK'
                              go_simp
                              exact hK' _ _ (hKl.out _ _ (fun _ => World.grownBy.refl _ _) (fun h => absurd h (by decide)) (fun _ => rfl) rfl (fun g hg => by cases hg))
                            | 1, _ =>
                              have g0 : a.tmps.getD 116 undef = .pointer (some ⟨Eb, 1, none⟩) := (hEl.out 0 116 (by kernel_rfl) rfl).trans (hVl.out 0 (by kernel_rfl) (fun h => by cases h))
                              refine wpOp_step rfl ?_
                              intro K' hK'
                              go_simp
                              exact hK' _ _ (hKl.out _ _ (fun _ => World.grownBy.refl _ _) (fun h => absurd h (by decide)) (fun _ => rfl) rfl (fun g hg => by cases hg))
                            | 2, _ =>
                              refine wpOp_step rfl ?_
                              intro K' hK'
                              go_simp
                              go_at_call 26; refine (words_ref _).mono ?_; rintro e w' ⟨u, rfl, hR, hb⟩
                              go_simp
                              exact hK' _ _ (hKl.out _ _ (fun _ => grownF_of hb) (fun h => absurd h (by decide)) (fun h => by cases h) hR (fun g hg => by cases hg))
                            | 3, _ =>
                              have g0 : a.tmps.getD 10 undef = .int .i64 (N : Int) := hOl.out 10 (by kernel_rfl)
                              refine wpOp_step rfl ?_
                              intro K' hK'
                              go_simp
                              exact hK' _ _ (hKl.out _ _ (fun _ => World.grownBy.refl _ _) (fun h => absurd h (by decide)) (fun _ => rfl) rfl (fun g hg => by cases hg))
                            | 4, _ =>
                              have g0 : a.tmps.getD 119 undef = .int .i64 (N : Int) := (hEl.out 3 119 (by kernel_rfl) rfl).trans (hVl.out 3 (by kernel_rfl) (fun h => by cases h))
                              refine wpOp_step rfl ?_
                              intro K' hK'
                              go_simp
                              exact hK' _ _ (hKl.out _ _ (fun _ => World.grownBy.refl _ _) (fun h => absurd h (by decide)) (fun _ => rfl) (congrArg (Value.int .i64) WD.out) (fun g hg => by cases hg))
                            | 5, _ =>
                              have g0 : a.tmps.getD 11 undef = .int .i64 (m : Int) := hOl.out 11 (by kernel_rfl)
                              refine wpOp_step rfl ?_
                              intro K' hK'
                              go_simp
                              exact hK' _ _ (hKl.out _ _ (fun _ => World.grownBy.refl _ _) (fun h => absurd h (by decide)) (fun _ => rfl) rfl (fun g hg => by cases hg))
                            | 6, _ =>
                              have g0 : a.tmps.getD 11 undef = .int .i64 (m : Int) := hOl.out 11 (by kernel_rfl)
                              refine wpOp_step rfl ?_
                              intro K' hK'
                              go_simp
                              exact hK' _ _ (hKl.out _ _ (fun _ => World.grownBy.refl _ _) (fun h => absurd h (by decide)) (fun _ => rfl) rfl (fun g hg => by cases hg))
                            | 7, _ =>
                              have g0 : a.tmps.getD 121 undef = .int .i64 (m : Int) := (hEl.out 5 121 (by kernel_rfl) rfl).trans (hVl.out 5 (by kernel_rfl) (fun h => by cases h))
                              have g1 : a.tmps.getD 122 undef = .int .i64 (m : Int) := (hEl.out 6 122 (by kernel_rfl) rfl).trans (hVl.out 6 (by kernel_rfl) (fun h => by cases h))
                              refine wpOp_step rfl ?_
                              intro K' hK'
                              go_simp
                              exact hK' _ _ (hKl.out _ _ (fun _ => World.grownBy.refl _ _) (fun h => absurd h (by decide)) (fun _ => rfl) (congrArg (Value.int .i64) WM.out) (fun g hg => by cases hg))
                            | 8, _ =>
                              have g0 : a.tmps.getD 123 undef = .int .i64 (mm : Int) := (hEl.out 7 123 (by kernel_rfl) rfl).trans (hVl.out 7 (by kernel_rfl) (fun h => by cases h))
                              refine wpOp_step rfl ?_
                              intro K' hK'
                              go_simp
                              exact hK' _ _ (hKl.out _ _ (fun _ => World.grownBy.refl _ _) (fun h => absurd h (by decide)) (fun _ => rfl) (congrArg (Value.int .i64) W3M.out) (fun g hg => by cases hg))
                            | 9, _ =>
                              have g0 : a.tmps.getD 120 undef = .int .i64 (d : Int) := (hEl.out 4 120 (by kernel_rfl) rfl).trans (hVl.out 4 (by kernel_rfl) (fun h => by cases h))
                              have g1 : a.tmps.getD 124 undef = .int .i64 (m3 : Int) := (hEl.out 8 124 (by kernel_rfl) rfl).trans (hVl.out 8 (by kernel_rfl) (fun h => by cases h))
                              refine wpOp_step rfl ?_
                              intro K' hK'
                              go_simp
                              exact hK' _ _ (hKl.out _ _ (fun _ => World.grownBy.refl _ _) (fun h => absurd h (by decide)) (fun _ => rfl) (congrArg (Value.int .i64) WS.out) (fun g hg => by cases hg))
                            | 10, _ =>
                              have g0 : a.tmps.getD 118 undef = vals 2 := hEl.out 2 118 (by kernel_rfl) rfl
                              have g1 : a.tmps.getD 125 undef = .int .i64 ((d : Int) + (m3 : Int)) := (hEl.out 9 125 (by kernel_rfl) rfl).trans (hVl.out 9 (by kernel_rfl) (fun h => by cases h))
                              have hRow := hVl.out 2 (by kernel_rfl) (fun h => by cases h)
                              refine wpOp_step rfl ?_
                              intro K' hK'
                              go_simp
                              go_at_call 21; refine (pick_ref _ wordsL _ _ hRow (by decide) (by decide)).mono ?_; rintro e w' ⟨rfl, rfl⟩
                              go_simp
                              exact hK' _ _ (hKl.out _ _ (fun _ => World.grownBy.refl _ _) (fun h => absurd h (by decide)) (fun _ => rfl) (congrArg Value.string HP9.out) (fun g hg => by cases hg))
                            | 11, _ =>
                              have g0 : a.tmps.getD 126 undef = .string p := (hEl.out 10 126 (by kernel_rfl) rfl).trans (hVl.out 10 (by kernel_rfl) (fun h => by cases h))
                              rw [Array.getD_eq_getD_getElem?] at g0
                              refine wpOp_step rfl ?_
                              intro K' hK'
                              go_simp
                              exact hK' _ _ (hKl.out _ _ (fun _ => World.grownBy_alloc _ _ _) (fun h => absurd h (by decide)) (fun h => by cases h) ⟨_, rfl, World.alloc_heap_new _ _⟩ (fun g hg => by cases hg))
                            | 12, _ =>
                              have g0 : a.tmps.getD 117 undef = sv := (hEl.out 1 117 (by kernel_rfl) rfl).trans (hVl.out 1 (by kernel_rfl) (fun h => by cases h))
                              obtain ⟨ng, hv11, hnh⟩ := hVl.out 11 (by kernel_rfl) (fun h => by cases h)
                              have g1 : a.tmps.getD 127 undef = .slice (some ⟨ng, 0, none⟩) 1 1 := (hEl.out 11 127 (by kernel_rfl) rfl).trans hv11
                              have hB0' := hB0 rfl
                              have hB0 : wr.grownBy wr' none := ⟨hB0'.os, hB0'.tape, hB0'.output, hB0'.size, hB0'.block⟩
                              have hownr := HOWN.out.kept hB0 (by cases sv.ownBlock <;> simp)
                              refine wpOp_step rfl ?_
                              intro K' hK'
                              refine step_append_lies _ rfl _ _ 28 rfl w5.heap.size 9 i0 (.string ByteArray.empty) 1 16 Tryz.underlying28 hii iz0 iz1 iz2 rfl (by decide) sv _ _ g0 hownr ⟨ng, 0, none⟩ 1 1 [.string p] g1 rfl (World.news_of_block hnh) (by intro u hu; simp at hu; subst hu; rfl) (by decide) (by unfold maxLen; simp; omega) (by simp; omega) (by have := hB.size; have := HGK.out.size; omega) _ rfl ?_
                              intro g7 cap7 w7 hown7 hgrow7 _ _
                              exact hK' _ _ (hKl.out _ _ (fun h => absurd rfl h) (fun _ => hgrow7) (fun h => by cases h) hown7 (fun g hg => by cases hg))
                            | 13, _ =>
                              have g0 : a.tmps.getD 9 undef = .pointer (some ⟨Eb, 0, none⟩) := hOl.out 9 (by kernel_rfl)
                              refine wpOp_step rfl ?_
                              intro K' hK'
                              go_simp
                              exact hK' _ _ (hKl.out _ _ (fun _ => World.grownBy.refl _ _) (fun h => absurd h (by decide)) (fun _ => rfl) rfl (fun g hg => by cases hg))
                            | n + 14, h => exact absurd h (by omega)
                          case refine_4 =>
                            intro vals wr' hB hV hD hL K hK
                            have hB : wr.grownBy wr' sv.ownBlock := ⟨hB.os, hB.tape, hB.output, hB.size, hB.block⟩
                            obtain ⟨c1, c2⟩ := HCELL.out _ hB
                            have hown' := hV 12 (by omega) (fun _ => .inl rfl)
                            have hv13 := hV 13 (by omega) (fun _ => .inr rfl)
                            have hKl := Lib.hid hK
                            obtain ⟨sv', hsv'⟩ : ∃ v', vals 12 = v' := ⟨_, rfl⟩
                            rw [hsv'] at hown'
                            generalize hput : putLF _ vals _ _ _ = aa
                            obtain rfl : aa = ⟨#[.agg #[.int .i64 S.lang, .int .i64 S.extl, .int .i64 S.script, .int .i64 S.region, .slice ao S.vars.length cap, .slice (some ⟨b, o, none⟩) S.keys.length capk, vp, .int .i64 S.odd], .pointer (some ⟨w.heap.size, 0, none⟩), .pointer (some ⟨W0.heap.size, 0, none⟩), .pointer (some ⟨B, 0, none⟩), u4, u5, u6, u7, .int .i64 (k : Int), .pointer (some ⟨Eb, 0, none⟩), .int .i64 (N : Int), .int .i64 (m : Int), undef, u13, u14, u15, u16, u17, u18, u19, u20, u21, u22, u23, u24, u25, u26, u27, u28, u29, u30, u31, u32, u33, u34, u35, u36, u37, u38, u39, u40, u41, u42, u43, u44, u45, u46, u47, u48, u49, u50, u51, u52, u53, u54, u55, u56, u57, u58, u59, u60, u61, u62, u63, u64, u65, u66, u67, u68, u69, u70, u71, u72, u73, u74, u75, u76, u77, u78, u79, u80, u81, u82, u83, u84, u85, .int .i64 (k : Int), .pointer (some ⟨w.heap.size, 5, none⟩), .slice (some ⟨b, o, none⟩) S.keys.length capk, .int .i64 (S.keys.length : Int), .bool true, .bool true, .int .i64 (k : Int), .bool true, .bool true, u95, u96, u97, u98, u99, u100, u101, u102, u103, u104, u105, u106, u107, u108, u109, .int .i64 (m : Int), .int .i64 (N : Int), .int .i64 (q : Int), .bool true, u114, u115, vals 0, vals 1, vals 2, vals 3, vals 4, vals 5, vals 6, vals 7, vals 8, vals 9, vals 10, vals 11, sv', .pointer (some ⟨Eb, 1, none⟩), u130, u131, u132, u133, u134, u135, undef, undef, undef, undef, undef, undef, undef, undef, undef, undef, undef, undef, undef, undef, undef, undef, undef, undef, undef, undef, undef, undef, undef, undef, undef, undef, undef, undef, undef, undef], []⟩ := by rw [← hsv', ← hv13, ← hput]; kernel_rfl
                            clear hV hD hL hK hput
                            obtain ⟨va, vn, vc, rfl⟩ := own_slice hown'
                            have f1 := cells_frozen 1 c2
                            refine wpOp_step rfl ?_
                            intro K' hK'
                            go_simp
                            refine hK' _ _ (hKl.out _ _ ?_)
                            go_wp2_with fail
                            go_roundw
                            case rel =>
                              refine ⟨m + 1, _, by omega, by go_num, ?_, cells_set c2 _, ?_⟩
                              · rw [HNX.out, List.length_append, strs_append]
                                exact hown'.kept (grown_setF (World.grownBy.refl _ (some Eb)) 1 _) (.inr (own_not_ext hown' c2))
                              · exact ⟨hB.os.trans HGK.out.os, hB.tape.trans HGK.out.tape, hB.output.trans HGK.out.output, by rw [show (wr'.setCell ⟨Eb, 1, none⟩ (.slice va vn vc)).heap.size = wr'.heap.size by simp [World.setCell]]; exact Nat.le_trans HGK.out.size hB.size, fun j hj hne => ((Below.heap_setCell wr' ⟨Eb, 1, none⟩ _ j (fun e => hne (by rw [e]))).trans (hB.block j (by have := HGK.out.size; omega) (fun e => by have := (hvo j e.symm).1; omega))).trans (HGK.out.block j hj hne)⟩
                            case measure => simp [intOf]; omega
                        · obtain rfl : m = q + 1 := by omega
                          have hmi : ¬ ((q + 1 : Nat) : Int) ≤ (q : Int) := by omega
                          obtain ⟨hEO, hhB, hgr, hbE⟩ := HR5.out
                          have hbr : Below wo.heap.size wo wr := hbE.grown hgk hbE.size (fun g hg => by cases hg; exact hEb)
                          have hhBr := (hbr.block B (lt_of_heap hhB)).trans hhB
                          have hgr' := grownF_trans hgr (grownF_of (row := some B) hbr)
                          obtain ⟨us, hul, hownX, hus⟩ := hEO.below hbr
                          have hs5 : w3.heap.size ≤ w5.heap.size := by have := hgr.size; have := hbE.size; omega
                          rw [← HSUB.out] at hown
                          have hsv := own_lower hown hs5
                          obtain ⟨sa, sn, sc, rfl⟩ := own_slice hsv
                          obtain ⟨k0, k1⟩ := ext_cells hhk
                          obtain ⟨i1, xii, xz0, xz1, xz2⟩ := info_parts extInfo
                          obtain ⟨e0, e1, e2, e3, e4, e5, e6, e7⟩ := tag_cells hhBr
                          have f5 := cells_frozen 5 hhBr
                          have hBlr := lt_of_heap hhBr
                          have hEr := hownX.lt
                          have hvB := own_not_tagX hownX hhBr
                          have hsr := hgr'.size
                          have HU := Lib.hid (And.intro hul (And.intro hownX (And.intro hus (And.intro hsv (And.intro hhBr hgr')))))
                          clear hEO hhB hgr hbE hbr hul hus hown hhk hgk hc0
                          go_wp2_with (at_builtin; refine wpList_append_own _ rfl _ _ 29 rfl w3.heap.size 51 i1 (.agg #[.string ByteArray.empty, .slice none 0 0]) 2 40 Tryz.underlying29 xii xz0 xz1 xz2 rfl (by decide) _ _ _ rfl (HU.out.2.1.alloc _) ⟨_, 0, none⟩ 1 1 [.string key, .slice sa sn sc] rfl rfl (cell_two_new _ _ _ _) (by intro u hu; simp at hu; rcases hu with rfl | rfl <;> rfl) (by unfold maxLen; omega) (by omega) (by simp; omega) ?_; intro v' w7 hown7 hgrow7 _; have hh7 := (hgrow7.block B (by simp; omega) (fun e => hvB e.symm)).trans ((Below.heap_alloc _ _ _ hBlr).trans HU.out.2.2.2.2.1); have c7 := (tag_cells hh7).2.2.2.2.2.1; have f7 := cells_frozen 5 hh7; obtain ⟨va, vn, vc, rfl⟩ := own_slice hown7)
                          go_roundw
                          case rel =>
                            obtain ⟨hul, hownX, hus, hsv, hhBr, hgr'⟩ := HU.out
                            have hg7 := grown_append hgr' hownX hgrow7
                            have hX := ExtO.snoc (x := (key, subsN N)) hul (fun i u x hu hx => ((hus i u x hu hx).alloc _).kept hgrow7 (own_types_ne (hus i u x hu hx) hownX (by decide))) ((hsv.alloc _).kept hgrow7 (own_types_ne hsv hownX (by decide))) hown7
                            rw [← HX.out] at hX
                            exact ⟨k + 1, _, by omega, by omega, by go_num, hX.kept (grown_setF (World.grownBy.refl _ (some B)) 5 _) (fun g hg => by cases hg; exact .inr ⟨_, hh7⟩), cells_set hh7 _, grown_setF hg7 5 _⟩
                          case measure => simp [intOf]; omega
                · obtain rfl : k = 3 := by omega
                  go_wp2_with fail
                  go_meet
                  case rel => exact ⟨_, rfl, hEO, hhB, hgr⟩
              · have hki : ¬ (k : Int) < (S.keys.length : Int) := by omega
                have hd : decide ((k : Int) < (S.keys.length : Int)) = false := decide_eq_false hki
                have hE : madeX S.keys = extKs (S.keys.take k) := by unfold madeX; rw [List.take_of_length_le (by omega), List.take_of_length_le (by omega)]
                go_wp2_with fail
                go_meet
                case rel => rw [hE]; exact ⟨_, rfl, hEO, hhB, hgr⟩
          case rest =>
            obtain ⟨v5, rfl, hX5, hhB5, hg5⟩ := hcut
            obtain ⟨w4, rfl⟩ : ∃ x, x = wc := ⟨_, rfl⟩
            have hve5 := HE4.out.1.kept hg5 (.inr (own_not_tag HE4.out.1 HE4.out.2.2.2))
            have hv45 := HE4.out.2.2.1.kept hg5 (.inr (own_not_tag HE4.out.2.2.1 HE4.out.2.2.2))
            have hbox5 := (hg5.block w.heap.size (by omega) (by simp; omega)).trans HBOX4.out
            have hres5 := (hg5.block W0.heap.size (by omega) (by simp; omega)).trans HRES4.out
            have HBW5 := Lib.hid (HBW4.out.grown hg5 HBW4.out.size (fun g hg => by cases hg; exact hB1))
            have hs45 := hg5.size
            have HE5 := Lib.hid (And.intro hve5 (And.intro HE4.out.2.1 (And.intro hv45 (And.intro (fun g hg => (HE4.out.2.2.1.lt g hg).2) (And.intro hX5 hhB5)))))
            have hBl5 : B < w4.heap.size := by omega
            have HRES5 := Lib.hid hres5
            have HBOX5 := Lib.hid hbox5
            clear HE4 HRES4 HBOX4 HBW4 HKE hKl hve5 hv45 hhB5 hg5 hbox5 hres5 hX5
            obtain ⟨aq, capq, rfl, hPl, hPe⟩ := HP.out
            unfold maxLen at hPl
            have HPE := Lib.hid hPe
            clear hPe HP
            go_step
            go_step
            go_cut [3] from 136 to 158 (fun u wx => ∃ v, u = .pointer (some ⟨B, 0, none⟩) ∧ wx.ownsRow w4.heap.size 9 1 v (madeP S.priv).length (strs (madeP S.priv)) ∧ wx.heap[B]? = some (.cells #[.string y1, ve, .string y2, .string y3, v4, v5, v, .string ByteArray.empty] 31 (0, 0)) ∧ w4.grownBy wx (some B))
            case first =>
              go_wp2_with fail
              go_loopw [12] (fun i wr => ∃ (k : Nat) (v : Value), k ≤ S.priv.length ∧ k ≤ 3 ∧ i = .int .i64 (k : Int) ∧ wr.ownsRow w4.heap.size 9 1 v ((S.priv.take k).map (pickT privL)).length (strs ((S.priv.take k).map (pickT privL))) ∧ wr.heap[B]? = some (.cells #[.string y1, ve, .string y2, .string y3, v4, v5, v, .string ByteArray.empty] 31 (0, 0)) ∧ w4.grownBy wr (some B)) (fun i _ => 5 - (intOf i).toNat)
              case atStart => exact ⟨0, _, Nat.zero_le _, by omega, rfl, World.ownsRow_nil _ _ _ _, HE5.out.2.2.2.2.2, World.grownBy.refl _ _⟩
              case round =>
                obtain ⟨k, v, hk, hk4, rfl, hown, hhB, hgr⟩ := hrel
                have hboxr := (hgr.block w.heap.size (by omega) (by simp; omega)).trans HBOX5.out
                obtain ⟨d0, d1, d2, d3, d4, d5, d6, d7⟩ := tag_cells hboxr
                by_cases hlt : k < S.priv.length
                · have hki : (k : Int) < (S.priv.length : Int) := by omega
                  have hd : decide ((k : Int) < (S.priv.length : Int)) = true := decide_eq_true hki
                  by_cases hlt4 : k < 3
                  · have hki4 : (k : Int) < 3 := by omega
                    have hk0 : (0 : Int) ≤ (k : Int) := by omega
                    go_upto_region 28 with fail
                    obtain ⟨n, hn⟩ : ∃ p, S.priv[k]? = some p := ⟨_, List.getElem?_eq_getElem hlt⟩
                    obtain ⟨b, o, rfl, c1⟩ := HPE.out k n hn
                    have hbl : b < W1.heap.size := lt_of_cellF c1
                    have hbw : Below W1.heap.size W1 wr := HBW5.out.grown hgr HBW5.out.size (fun g hg => by cases hg; exact hB1)
                    have c1 := (hbw.cell (p := ⟨b, o + k, none⟩) hbl).trans c1
                    obtain ⟨p, hp⟩ : ∃ p, pickT privL n = p := ⟨_, rfl⟩
                    have HP9 := Lib.hid hp
                    have HA := Lib.hid (show (S.priv.take (k + 1)).map (pickT privL) = (S.priv.take k).map (pickT privL) ++ [p] by rw [take_next hn, List.map_append, ← hp]; rfl)
                    have hLk : ((S.priv.take k).map (pickT privL)).length = k := by rw [List.length_map, List.length_take]; omega
                    generalize (S.priv.take k).map (pickT privL) = L at *
                    obtain ⟨i0, hii, iz0, iz1, iz2⟩ := info_parts stringInfo
                    have hvo := hown.lt
                    have HOWN := Lib.hid hown
                    have HGK := Lib.hid hgr
                    have hBv : some B ≠ v.ownBlock := fun e => own_not_tag hown hhB e.symm
                    have hsw := hgr.size
                    have HCELL := Lib.hid (fun (w' : World) (hb : wr.grownBy w' v.ownBlock) => show w'.heap[B]? = some (.cells #[.string y1, ve, .string y2, .string y3, v4, v5, v, .string ByteArray.empty] 31 (0, 0)) ∧ w'.cell? ⟨w.heap.size, 6, none⟩ = some (.slice (some ⟨b, o, none⟩) S.priv.length capq) ∧ w'.cell? ⟨b, o + k, none⟩ = some (.int .i64 n) from
                      ⟨(hb.block B (lt_of_heap hhB) hBv).trans hhB, hb.cell d6 (fun e => by have := (hvo _ e.symm).1; simp at this; omega), hb.cell c1 (fun e => by have := (hvo _ e.symm).1; simp at this; omega)⟩)
                    clear hp hown hgr hhB hboxr hbw c1 d0 d1 d2 d3 d4 d5 d6 d7
                    refine wp_region_any (by kernel_rfl) ?_
                    change wpAny _ _ _ _ _ _ _ (World.drew _)
                    refine wp_region_free (n := 166) (z := 12) (w0 := wr.drew) v.ownBlock (V := fun j u w' => match j with
                      | 0 => u = .pointer (some ⟨B, 6, none⟩)
                      | 1 => u = v
                      | 2 => ∃ g, u = .slice (some ⟨g, 0, none⟩) 4 4 ∧ w'.heap[g]? = some (.cells (strs privL).toArray 9 (0, 0))
                      | 3 => u = .pointer (some ⟨w.heap.size, 6, none⟩)
                      | 4 => u = .slice (some ⟨b, o, none⟩) S.priv.length capq
                      | 5 => u = .int .i64 (k : Int)
                      | 6 => u = .pointer (some ⟨b, o + k, none⟩)
                      | 7 => u = .int .i64 n
                      | 8 => u = .string p
                      | 9 => ∃ g, u = .slice (some ⟨g, 0, none⟩) 1 1 ∧ w'.heap[g]? = some (.cells #[.string p] 9 (0, 0))
                      | 10 => w'.ownsRow w4.heap.size 9 1 u (L.length + 1) (strs L ++ [.string p])
                      | 11 => u = .pointer (some ⟨B, 6, none⟩)
                      | _ => True)
                      (blk := fun _ _ => none) (by kernel_rfl) (Nat.le_refl _) 10 (fun i => i == 11) (by kernel_rfl) ?_ ?_ ?_ ?_
                    case refine_1 =>
                      intro j u wa wb hv hb
                      match j with
                      | 0 => exact hv
                      | 1 => exact hv
                      | 2 => obtain ⟨g, h0, h1⟩ := hv; exact ⟨g, h0, (hb.block _ (lt_of_heap h1) (by simp)).trans h1⟩
                      | 3 => exact hv
                      | 4 => exact hv
                      | 5 => exact hv
                      | 6 => exact hv
                      | 7 => exact hv
                      | 8 => exact hv
                      | 9 => obtain ⟨g, h0, h1⟩ := hv; exact ⟨g, h0, (hb.block _ (lt_of_heap h1) (by simp)).trans h1⟩
                      | 10 => exact hv.kept hb (by cases u.ownBlock <;> simp)
                      | 11 => exact hv
                      | n + 12 => trivial
                    case refine_2 =>
                      intro j u wa wb hj hv _
                      obtain rfl : j = 11 := by simpa using hj
                      exact hv
                    case refine_3 =>
                      intro i hi vals a wr' hB hB0 hV hD hE hO K hK
                      have hB : wr.grownBy wr' v.ownBlock := ⟨hB.os, hB.tape, hB.output, hB.size, hB.block⟩
                      obtain ⟨h1, c2, c3⟩ := HCELL.out _ hB
                      have c1 := (tag_cells h1).2.2.2.2.2.2.1
                      have hOl := Lib.hid hO
                      have hEl := Lib.hid hE
                      have hVl := Lib.hid hV
                      have hKl := Lib.hid hK
                      clear hO hE hV hK hD h1
                      match i, hi with
                      | 0, _ =>
                        have g0 : a.tmps.getD 3 undef = .pointer (some ⟨B, 0, none⟩) := hOl.out 3 (by kernel_rfl)
                        refine wpOp_step rfl ?_
                        intro K' hK'
                        go_simp
                        exact hK' _ _ (hKl.out _ _ (fun _ => World.grownBy.refl _ _) (fun h => absurd h (by decide)) (fun _ => rfl) rfl (fun g hg => by cases hg))
                      | 1, _ =>
                        have g0 : a.tmps.getD 147 undef = .pointer (some ⟨B, 6, none⟩) := (hEl.out 0 147 (by kernel_rfl) rfl).trans (hVl.out 0 (by kernel_rfl) (fun h => by cases h))
                        refine wpOp_step rfl ?_
                        intro K' hK'
                        go_simp
                        exact hK' _ _ (hKl.out _ _ (fun _ => World.grownBy.refl _ _) (fun h => absurd h (by decide)) (fun _ => rfl) rfl (fun g hg => by cases hg))
                      | 2, _ =>
                        refine wpOp_step rfl ?_
                        intro K' hK'
                        go_simp
                        exact hK' _ _ (hKl.out _ _ (fun _ => World.grownBy_alloc _ _ _) (fun h => absurd h (by decide)) (fun h => by cases h) ⟨_, rfl, World.alloc_heap_new _ _⟩ (fun g hg => by cases hg))
                      | 3, _ =>
                        have g0 : a.tmps.getD 1 undef = .pointer (some ⟨w.heap.size, 0, none⟩) := hOl.out 1 (by kernel_rfl)
                        refine wpOp_step rfl ?_
                        intro K' hK'
                        go_simp
                        exact hK' _ _ (hKl.out _ _ (fun _ => World.grownBy.refl _ _) (fun h => absurd h (by decide)) (fun _ => rfl) rfl (fun g hg => by cases hg))
                      | 4, _ =>
                        have g0 : a.tmps.getD 150 undef = .pointer (some ⟨w.heap.size, 6, none⟩) := (hEl.out 3 150 (by kernel_rfl) rfl).trans (hVl.out 3 (by kernel_rfl) (fun h => by cases h))
                        refine wpOp_step rfl ?_
                        intro K' hK'
                        go_simp
                        exact hK' _ _ (hKl.out _ _ (fun _ => World.grownBy.refl _ _) (fun h => absurd h (by decide)) (fun _ => rfl) rfl (fun g hg => by cases hg))
                      | 5, _ =>
                        have g0 : a.tmps.getD 12 undef = .int .i64 (k : Int) := hOl.out 12 (by kernel_rfl)
                        refine wpOp_step rfl ?_
                        intro K' hK'
                        go_simp
                        exact hK' _ _ (hKl.out _ _ (fun _ => World.grownBy.refl _ _) (fun h => absurd h (by decide)) (fun _ => rfl) rfl (fun g hg => by cases hg))
                      | 6, _ =>
                        have g0 : a.tmps.getD 151 undef = .slice (some ⟨b, o, none⟩) S.priv.length capq := (hEl.out 4 151 (by kernel_rfl) rfl).trans (hVl.out 4 (by kernel_rfl) (fun h => by cases h))
                        have g1 : a.tmps.getD 152 undef = .int .i64 (k : Int) := (hEl.out 5 152 (by kernel_rfl) rfl).trans (hVl.out 5 (by kernel_rfl) (fun h => by cases h))
                        refine wpOp_step rfl ?_
                        intro K' hK'
                        go_simp
                        exact hK' _ _ (hKl.out _ _ (fun _ => World.grownBy.refl _ _) (fun h => absurd h (by decide)) (fun _ => rfl) rfl (fun g hg => by cases hg))
                      | 7, _ =>
                        have g0 : a.tmps.getD 153 undef = .pointer (some ⟨b, o + k, none⟩) := (hEl.out 6 153 (by kernel_rfl) rfl).trans (hVl.out 6 (by kernel_rfl) (fun h => by cases h))
                        refine wpOp_step rfl ?_
                        intro K' hK'
                        go_simp
                        exact hK' _ _ (hKl.out _ _ (fun _ => World.grownBy.refl _ _) (fun h => absurd h (by decide)) (fun _ => rfl) rfl (fun g hg => by cases hg))
                      | 8, _ =>
                        have g0 : a.tmps.getD 154 undef = .int .i64 n := (hEl.out 7 154 (by kernel_rfl) rfl).trans (hVl.out 7 (by kernel_rfl) (fun h => by cases h))
                        obtain ⟨ng, hv2, hnh⟩ := hVl.out 2 (by kernel_rfl) (fun h => by cases h)
                        have g1 : a.tmps.getD 149 undef = .slice (some ⟨ng, 0, none⟩) 4 4 := (hEl.out 2 149 (by kernel_rfl) rfl).trans hv2
                        refine wpOp_step rfl ?_
                        intro K' hK'
                        go_simp
                        go_at_call 21; refine (pick_ref _ privL _ _ (Row.of_block privL 4 4 rfl hnh) (by decide) (by decide)).mono ?_; rintro e w' ⟨rfl, rfl⟩
                        go_simp
                        exact hK' _ _ (hKl.out _ _ (fun _ => World.grownBy.refl _ _) (fun h => absurd h (by decide)) (fun _ => rfl) (congrArg Value.string HP9.out) (fun g hg => by cases hg))
                      | 9, _ =>
                        have g0 : a.tmps.getD 155 undef = .string p := (hEl.out 8 155 (by kernel_rfl) rfl).trans (hVl.out 8 (by kernel_rfl) (fun h => by cases h))
                        rw [Array.getD_eq_getD_getElem?] at g0
                        refine wpOp_step rfl ?_
                        intro K' hK'
                        go_simp
                        exact hK' _ _ (hKl.out _ _ (fun _ => World.grownBy_alloc _ _ _) (fun h => absurd h (by decide)) (fun h => by cases h) ⟨_, rfl, World.alloc_heap_new _ _⟩ (fun g hg => by cases hg))
                      | 10, _ =>
                        have g0 : a.tmps.getD 148 undef = v := (hEl.out 1 148 (by kernel_rfl) rfl).trans (hVl.out 1 (by kernel_rfl) (fun h => by cases h))
                        obtain ⟨ng, hv11, hnh⟩ := hVl.out 9 (by kernel_rfl) (fun h => by cases h)
                        have g1 : a.tmps.getD 156 undef = .slice (some ⟨ng, 0, none⟩) 1 1 := (hEl.out 9 156 (by kernel_rfl) rfl).trans hv11
                        have hB0' := hB0 rfl
                        have hB0 : wr.grownBy wr' none := ⟨hB0'.os, hB0'.tape, hB0'.output, hB0'.size, hB0'.block⟩
                        have hownr := HOWN.out.kept hB0 (by cases v.ownBlock <;> simp)
                        refine wpOp_step rfl ?_
                        intro K' hK'
                        refine step_append_lies _ rfl _ _ 28 rfl w4.heap.size 9 i0 (.string ByteArray.empty) 1 16 Tryz.underlying28 hii iz0 iz1 iz2 rfl (by decide) v _ _ g0 hownr ⟨ng, 0, none⟩ 1 1 [.string p] g1 rfl (World.news_of_block hnh) (by intro u hu; simp at hu; subst hu; rfl) (by decide) (by unfold maxLen; omega) (by omega) (by have := hB.size; have := HGK.out.size; omega) _ rfl ?_
                        intro g7 cap7 w7 hown7 hgrow7 _ _
                        exact hK' _ _ (hKl.out _ _ (fun h => absurd rfl h) (fun _ => hgrow7) (fun h => by cases h) hown7 (fun g hg => by cases hg))
                      | 11, _ =>
                        have g0 : a.tmps.getD 3 undef = .pointer (some ⟨B, 0, none⟩) := hOl.out 3 (by kernel_rfl)
                        refine wpOp_step rfl ?_
                        intro K' hK'
                        go_simp
                        exact hK' _ _ (hKl.out _ _ (fun _ => World.grownBy.refl _ _) (fun h => absurd h (by decide)) (fun _ => rfl) rfl (fun g hg => by cases hg))
                      | n + 12, h => exact absurd h (by omega)
                    case refine_4 =>
                      intro vals wr' hB hV hD hL K hK
                      have hB : wr.grownBy wr' v.ownBlock := ⟨hB.os, hB.tape, hB.output, hB.size, hB.block⟩
                      obtain ⟨h1, c2, c3⟩ := HCELL.out _ hB
                      have c1 := (tag_cells h1).2.2.2.2.2.2.1
                      have hown' := hV 10 (by omega) (fun _ => .inl rfl)
                      have hv13 := hV 11 (by omega) (fun _ => .inr rfl)
                      have hKl := Lib.hid hK
                      obtain ⟨sv', hsv'⟩ : ∃ v', vals 10 = v' := ⟨_, rfl⟩
                      rw [hsv'] at hown'
                      generalize hput : putLF _ vals _ _ _ = aa
                      obtain rfl : aa = ⟨#[.agg #[.int .i64 S.lang, .int .i64 S.extl, .int .i64 S.script, .int .i64 S.region, .slice ao S.vars.length cap, .slice ak S.keys.length capk, .slice (some ⟨b, o, none⟩) S.priv.length capq, .int .i64 S.odd], .pointer (some ⟨w.heap.size, 0, none⟩), .pointer (some ⟨W0.heap.size, 0, none⟩), .pointer (some ⟨B, 0, none⟩), u4, u5, u6, u7, u8, u9, u10, u11, .int .i64 (k : Int), u13, u14, u15, u16, u17, u18, u19, u20, u21, u22, u23, u24, u25, u26, u27, u28, u29, u30, u31, u32, u33, u34, u35, u36, u37, u38, u39, u40, u41, u42, u43, u44, u45, u46, u47, u48, u49, u50, u51, u52, u53, u54, u55, u56, u57, u58, u59, u60, u61, u62, u63, u64, u65, u66, u67, u68, u69, u70, u71, u72, u73, u74, u75, u76, u77, u78, u79, u80, u81, u82, u83, u84, u85, u86, u87, u88, u89, u90, u91, u92, u93, u94, u95, u96, u97, u98, u99, u100, u101, u102, u103, u104, u105, u106, u107, u108, u109, u110, u111, u112, u113, u114, u115, u116, u117, u118, u119, u120, u121, u122, u123, u124, u125, u126, u127, u128, u129, u130, u131, u132, u133, u134, u135, .int .i64 (k : Int), .pointer (some ⟨w.heap.size, 6, none⟩), .slice (some ⟨b, o, none⟩) S.priv.length capq, .int .i64 (S.priv.length : Int), .bool true, .bool true, .int .i64 (k : Int), .bool true, .bool true, u145, u146, vals 0, vals 1, vals 2, vals 3, vals 4, vals 5, vals 6, vals 7, vals 8, vals 9, sv', .pointer (some ⟨B, 6, none⟩), undef, undef, undef, undef, undef, undef, undef], []⟩ := by rw [← hsv', ← hv13, ← hput]; kernel_rfl
                      clear hV hD hL hK hput
                      obtain ⟨va, vn, vc, rfl⟩ := own_slice hown'
                      have f6 := cells_frozen 6 h1
                      refine wpOp_step rfl ?_
                      intro K' hK'
                      go_simp
                      refine hK' _ _ (hKl.out _ _ ?_)
                      go_wp2_with fail
                      go_roundw
                      case rel =>
                        refine ⟨k + 1, _, by omega, by omega, by go_num, ?_, cells_set h1 _, ?_⟩
                        · rw [HA.out, List.length_append, strs_append]
                          exact hown'.kept (grown_setF (World.grownBy.refl _ (some B)) 6 _) (.inr (own_not_tag hown' h1))
                        · exact ⟨hB.os.trans HGK.out.os, hB.tape.trans HGK.out.tape, hB.output.trans HGK.out.output, by rw [show (wr'.setCell ⟨B, 6, none⟩ (.slice va vn vc)).heap.size = wr'.heap.size by simp [World.setCell]]; exact Nat.le_trans HGK.out.size hB.size, fun j hj hne => ((Below.heap_setCell wr' ⟨B, 6, none⟩ _ j (fun e => hne (by rw [e]))).trans (hB.block j (by omega) (fun e => by have := (hvo j e.symm).1; omega))).trans (HGK.out.block j hj hne)⟩
                      case measure => simp [intOf]; omega
                  · obtain rfl : k = 3 := by omega
                    go_wp2_with fail
                    go_meet
                    case rel => exact ⟨_, rfl, hown, hhB, hgr⟩
                · have hki : ¬ (k : Int) < (S.priv.length : Int) := by omega
                  have hd : decide ((k : Int) < (S.priv.length : Int)) = false := decide_eq_false hki
                  have hE : madeP S.priv = (S.priv.take k).map (pickT privL) := by unfold madeP; rw [List.take_of_length_le (by omega), List.take_of_length_le (by omega)]
                  go_wp2_with fail
                  go_meet
                  case rel => rw [hE]; exact ⟨_, rfl, hown, hhB, hgr⟩
            case rest =>
              obtain ⟨v6, rfl, hv6, hhB6, hg6⟩ := hcut
              obtain ⟨w5, rfl⟩ : ∃ x, x = wc := ⟨_, rfl⟩
              obtain ⟨h51, h52, h53, h54, h55, h56⟩ := HE5.out
              have hTM : TagMade w5 W1.heap.size w2.heap.size w3.heap.size w4.heap.size ve v4 v5 v6 (madeE y1 S.extl) (madeV S.vars) (madeX S.keys) (madeP S.priv) :=
                ⟨h51.kept hg6 (.inr (own_not_tag h51 h56)), h53.kept hg6 (.inr (own_not_tag h53 h56)), (ExtOB.of h55).kept hg6 (fun g hg => by cases hg; exact .inr (.inr ⟨_, h56⟩)), hv6, h52, h54, by omega, hs34, hs45, hg6.size⟩
              have hbox6 := (hg6.block w.heap.size (by omega) (by simp; omega)).trans HBOX5.out
              have hres6 := (hg6.block W0.heap.size (by omega) (by simp; omega)).trans HRES5.out
              obtain ⟨d0, d1, d2, d3, d4, d5, d6, d7⟩ := tag_cells hbox6
              obtain ⟨e0, e1, e2, e3, e4, e5, e6, e7⟩ := tag_cells hhB6
              obtain ⟨xo1, xn1, xc1, rfl⟩ := own_slice hTM.e
              obtain ⟨xo2, xn2, xc2, rfl⟩ := own_slice hTM.v
              obtain ⟨xo3, xn3, xc3, rfl⟩ : ∃ ao n c, v5 = .slice ao n c := by obtain ⟨us, _, h, _⟩ := hTM.x; exact own_slice h
              obtain ⟨xo4, xn4, xc4, rfl⟩ := own_slice hTM.p
              obtain ⟨hp1, hp2, hp3, hp4⟩ := pick_facts 12 S.odd (by decide)
              obtain ⟨N, hN⟩ : ∃ N, pickI 12 S.odd = N := ⟨_, rfl⟩
              have HN := Lib.hid hN
              rw [hN] at hp3 hp4
              have hp3 : Int.tmod (Int.tmod S.odd 12 + 12) 12 = (N : Int) := hp3
              have hp1 : (-12 : Int) < Int.tmod S.odd 12 := hp1
              have hp2 : Int.tmod S.odd 12 < (12 : Int) := hp2
              have hlE : y1.size ≤ 1000 := by rw [← Hy1.out]; exact Nat.le_trans (langs_size _) (by decide)
              have SP := Lib.hid (spoilt_ref y1 y2 y3 ByteArray.empty _ _ _ _ _ _ _ _ _ _ _ _ w5 hTM hlE (madeV_len S.vars) (madeX_len S.keys) (madeP_len S.priv) N hp4)
              have HMT := Lib.hid (show madeT S = spoiltT ⟨y1, madeE y1 S.extl, y2, y3, madeV S.vars, madeX S.keys, madeP S.priv, ByteArray.empty⟩ N by unfold madeT; rw [Hy1.out, Hy2.out, Hy3.out, HN.out])
              generalize spoiltT ⟨y1, madeE y1 S.extl, y2, y3, madeV S.vars, madeX S.keys, madeP S.priv, ByteArray.empty⟩ N = TT at *
              have HRES6 := Lib.hid hres6
              have hrl : W0.heap.size < W1.heap.size := hz1
              have HBW6 := Lib.hid (HBW5.out.grown hg6 HBW5.out.size (fun g hg => by cases hg; exact hB1))
              clear hTM hres6 hbox6 hhB6 hg6 hv6 h51 h52 h53 h54 h55 h56 HE5 HRES5 HBOX5 HBW5 hN HPE
              go_wp2_with (go_at_call 27; (with_reducible refine SP.out.mono ?_); rintro e w7 ⟨ue, uv, ux, up, rfl, ⟨b1, b2, b3, b4, hM⟩, hb7⟩; have hR7 := (hb7.block _ hrl).trans HRES6.out; obtain ⟨q0, q1, q2, q3, q4, q5, q6, q7⟩ := tag_cells hR7; have qf0 := cells_frozen 0 hR7; have qf1 := cells_frozen 1 hR7; have qf2 := cells_frozen 2 hR7; have qf3 := cells_frozen 3 hR7; have qf4 := cells_frozen 4 hR7; have qf5 := cells_frozen 5 hR7; have qf6 := cells_frozen 6 hR7; have qf7 := cells_frozen 7 hR7; obtain ⟨ua1, un1, uc1, rfl⟩ := own_slice hM.e; obtain ⟨ua2, un2, uc2, rfl⟩ := own_slice hM.v; obtain ⟨ua3, un3, uc3, rfl⟩ := ext_slice hM.x; obtain ⟨ua4, un4, uc4, rfl⟩ := own_slice hM.p; have HM := Lib.hid hM; clear hM)
              obtain ⟨hk1, hk2⟩ := tag_store hR7 (.string TT.lang) (.slice ua1 un1 uc1) (.string TT.script) (.string TT.region) (.slice ua2 un2 uc2) (.slice ua3 un3 uc3) (.slice ua4 un4 uc4) (.string TT.grand)
              refine bodyPost_ret (results_cell_row rfl _ _ W0.heap.size 31 _ (0, 0) _ rfl hk1 Tryz.underlying31 rfl tagSize) rfl ?_
              rw [HMT.out]
              refine ⟨_, rfl, (HM.out.keptTag hR7 hk2).is TT.lang TT.script TT.region TT.grand, ?_⟩
              exact ((HBW1'.out.trans (HBW6.out.mono (by omega))).trans (hb7.mono (by omega))).trans (grown_below hk2 (by have := HBW6.out.size; have := hb7.size; omega) (fun g hg => by cases hg; omega))

end Go.Proofs.YtpnhjpplfjamkaaGreatDoor
