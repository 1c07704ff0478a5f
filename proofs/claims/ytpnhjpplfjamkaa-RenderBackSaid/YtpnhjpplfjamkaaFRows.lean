/-
  The document's own answers for package tag: subs, small. The document's own answers for package tag: small. The document's own answers for package tag: rows.
-/
import Derived.Test.YtpnhjpplfjamkaaFTag
import Derived.Test.YtpnhjpplfjamkaaPieceR
import Derived.Test.YtpnhjpplfjamkaaFFew
import Derived.Deep.AppendLies
import Derived.BigGuard
import Derived.BigQuiet
/-! The document's own answers for package tag: subs, small. -/
namespace Go.Proofs.Ytpnhjpplfjamkaa
open Go Go.RowKit

/-- Are all of a row subtags, of so many bytes at least? -/
def subsT (l : List ByteArray) (low : Nat) : Bool := l.all fun x => okS x && decide (low ≤ x.size)
theorem subsT_next {l : List ByteArray} {low k : Nat} {x : ByteArray} (h : l[k]? = some x) (ha : subsT (l.take k) low = true) : subsT (l.take (k + 1)) low = (okS x && decide (low ≤ x.size)) := by
  unfold subsT at *
  rw [take_next h, List.all_append, ha]
  simp
theorem subsT_bad {l : List ByteArray} {low k : Nat} (h : subsT (l.take k) low = false) : subsT l low = false := by
  unfold subsT at *
  rw [← List.take_append_drop k l, List.all_append, h]
  rfl
set_option maxRecDepth 100000 in
set_option maxHeartbeats 2000000 in
theorem subs_ref (v : Value) (l : List ByteArray) (low : Nat) (w : World) (hv : Row w v l) (hl : l.length ≤ 1000) (hs : ∀ x ∈ l, x.size ≤ 1048576) :
    Calls Try.prog 22 #[v, .int .i64 (low : Int)] w fun e w' => e = .returned (.bool (subsT l low)) ∧ w = w' := by
  obtain ⟨ao, cap, rfl, hc⟩ := hv
  have HC := Lib.hid hc
  clear hc
  go_enter Try.func22, Try.ntmps22
  go_wp2
  go_loop [5] (fun i => ∃ k : Nat, k ≤ l.length ∧ i = .int .i64 (k : Int) ∧ subsT (l.take k) low = true) (fun i => l.length - (intOf i).toNat)
  case atStart => exact ⟨0, Nat.zero_le _, rfl, rfl⟩
  case round =>
    obtain ⟨k, hk, rfl, HA⟩ := hrel
    by_cases hlt : k < l.length
    · have hki : (k : Int) < (l.length : Int) := by omega
      have hk0 : (0 : Int) ≤ (k : Int) := by omega
      obtain ⟨x, hx⟩ : ∃ x, l[k]? = some x := ⟨_, List.getElem?_eq_getElem hlt⟩
      obtain ⟨g, rfl, hcx⟩ := HC.out k x hx
      have SB := Lib.hid (fun w5 => sub_ref x w5 (hs x (List.mem_of_getElem? hx)))
      have hn := subsT_next hx HA
      have hxl := hs x (List.mem_of_getElem? hx)
      clear HA hx hs
      cases hok : okS x with
      | false =>
        rw [hok] at SB hn
        have HB := Lib.hid (subsT_bad hn)
        clear hok hn
        go_wp2_with (go_at_call 47; (with_reducible refine (SB.out _).mono ?_); rintro e w' ⟨rfl, rfl⟩)
        go_ret
        exact ⟨ret_bool HB.out.symm, rfl⟩
      | true =>
        rw [hok] at SB hn
        by_cases hlo : low ≤ x.size
        · have hloi : ¬ (x.size : Int) < (low : Int) := by omega
          rw [decide_eq_true hlo] at hn
          have HB := Lib.hid hn
          clear hok hn hlo
          go_wp2_with (go_at_call 47; (with_reducible refine (SB.out _).mono ?_); rintro e w' ⟨rfl, rfl⟩)
          go_round
          case rel => exact ⟨k + 1, by omega, by go_num, HB.out⟩
          case measure => simp [intOf]; omega
        · have hloi : (x.size : Int) < (low : Int) := by omega
          rw [decide_eq_false hlo] at hn
          have HB := Lib.hid (subsT_bad hn)
          clear hok hn hlo
          go_wp2_with (go_at_call 47; (with_reducible refine (SB.out _).mono ?_); rintro e w' ⟨rfl, rfl⟩)
          go_ret
          exact ⟨ret_bool HB.out.symm, rfl⟩
    · obtain rfl : k = l.length := by omega
      rw [List.take_of_length_le (Nat.le_refl _)] at HA
      have HB := Lib.hid HA
      clear HA
      go_wp2
      go_ret
      exact ⟨ret_bool HB.out.symm, rfl⟩
end Go.Proofs.Ytpnhjpplfjamkaa

/-! The document's own answers for package tag: small. -/
namespace Go.Proofs.Ytpnhjpplfjamkaa
open Go Go.RowKit

/-- Are all texts in small letters? -/
def lowT (l : List ByteArray) : Bool := l.all fun x => decide (x = lowS x)
def smallT (T : TagM) : Bool := lowT (subtagsT T ++ [T.lang, T.script, T.region]) && decide (T.grand = lowS T.grand)
theorem lowT_next {l : List ByteArray} {k : Nat} {x : ByteArray} (h : l[k]? = some x) (ha : lowT (l.take k) = true) : lowT (l.take (k + 1)) = decide (x = lowS x) := by
  unfold lowT at *
  rw [take_next h, List.all_append, ha]
  simp
theorem lowT_bad {l : List ByteArray} {k : Nat} (h : lowT (l.take k) = false) : lowT l = false := by
  unfold lowT at *
  rw [← List.take_append_drop k l, List.all_append, h]
  rfl

theorem grown_b {W0 w5 w6 : World} {e : TypeId} {sz n : Nat} {v : Value} {xs : List Value} (ho : w5.ownsRow W0.heap.size e sz v n xs) (hB : Below W0.heap.size W0 w5) (hg : w5.grownBy w6 v.ownBlock) : Below W0.heap.size W0 w6 :=
  hB.grown hg hB.size (fun r e => (ho.lt r e).1)
theorem grown_a {W0 w5 w6 : World} {e : TypeId} {sz n : Nat} {v : Value} {xs : List Value} {o : Obj} (ho : w5.ownsRow W0.heap.size e sz v n xs) (hB : Below W0.heap.size W0 w5) (hg : (w5.alloc o).grownBy w6 v.ownBlock) : Below W0.heap.size W0 w6 :=
  (hB.alloc hB.size o).grown hg (by simp; have := hB.size; omega) (fun r e => (ho.lt r e).1)
theorem lt_allocF (W : World) (o : Obj) : W.heap.size < (W.alloc o).heap.size := by simp
theorem small_keep {w W0 W : World} {a b c d e f g h : Value} {o : Obj} (HH : ∀ wr, Below W0.heap.size W0 wr → wr.cell? ⟨w.heap.size, 0, none⟩ = some a ∧ wr.cell? ⟨w.heap.size, 1, none⟩ = some b ∧ wr.cell? ⟨w.heap.size, 2, none⟩ = some c ∧ wr.cell? ⟨w.heap.size, 3, none⟩ = some d ∧ wr.cell? ⟨w.heap.size, 4, none⟩ = some e ∧ wr.cell? ⟨w.heap.size, 5, none⟩ = some f ∧ wr.cell? ⟨w.heap.size, 6, none⟩ = some g ∧ wr.cell? ⟨w.heap.size, 7, none⟩ = some h)
    (hB : Below W0.heap.size W0 W) : Below W0.heap.size W0 (W.alloc o) ∧ (W.alloc o).cell? ⟨w.heap.size, 0, none⟩ = some a ∧ (W.alloc o).cell? ⟨w.heap.size, 1, none⟩ = some b ∧ (W.alloc o).cell? ⟨w.heap.size, 2, none⟩ = some c ∧ (W.alloc o).cell? ⟨w.heap.size, 3, none⟩ = some d ∧ (W.alloc o).cell? ⟨w.heap.size, 4, none⟩ = some e ∧ (W.alloc o).cell? ⟨w.heap.size, 5, none⟩ = some f ∧ (W.alloc o).cell? ⟨w.heap.size, 6, none⟩ = some g ∧ (W.alloc o).cell? ⟨w.heap.size, 7, none⟩ = some h :=
  ⟨hB.alloc hB.size o, HH _ (hB.alloc hB.size o)⟩

set_option maxRecDepth 100000 in
set_option maxHeartbeats 8000000 in
theorem small_ref (v : Value) (T : TagM) (w : World) (hT : TagIs w v T) (hF : TagFits T) (hlen : (subtagsT T).length ≤ 20000) (hsz : ∀ x ∈ subtagsT T ++ [T.lang, T.script, T.region], x.size ≤ 1048576) :
    Calls Try.prog 20 #[v] w fun e w' => e = .returned (.bool (smallT T)) ∧ Below w.heap.size w w' := by
  obtain ⟨i0, hi, hz0, hz1, hz2⟩ := info_parts stringInfo
  have hT0 := hT
  obtain ⟨ve, vv, vx, vp, rfl, -, -, -, -⟩ := hT
  obtain ⟨W0, hW0⟩ : ∃ W0, w.alloc (.cells #[.string T.lang, ve, .string T.script, .string T.region, vv, vx, vp, .string T.grand] 29) = W0 := ⟨_, rfl⟩
  have hb0 : Below w.heap.size w W0 := by rw [← hW0]; exact (Below.refl _ w).alloc (Nat.le_refl _) _
  have hz0' : w.heap.size < W0.heap.size := by rw [← hW0]; simp
  have hh0 : W0.heap[w.heap.size]? = some (.cells #[.string T.lang, ve, .string T.script, .string T.region, vv, vx, vp, .string T.grand] 29 (0, 0)) := by rw [← hW0]; exact World.alloc_heap_new w _
  have hT1 := hT0.below hb0
  have HH := Lib.hid (fun wr (hb : Below W0.heap.size W0 wr) => tag_cells ((hb.block _ hz0').trans hh0))
  have SU := Lib.hid (fun w5 (hb : Below W0.heap.size W0 w5) => (subtags_ref _ T w5 (hT1.below hb) hF).mono (R' := fun e w6 => ∃ u, e = .returned u ∧ w6.ownsRow W0.heap.size 9 1 u (subtagsT T).length (strs (subtagsT T)) ∧ Below w5.heap.size w5 w6 ∧ Below W0.heap.size W0 w6) fun e w6 ⟨u, p, q, r⟩ => ⟨u, p, own_lower q hb.size, r, hb.trans (r.mono hb.size)⟩)
  have HB0 := Lib.hid hb0
  have HST := Lib.hid (show smallT T = (lowT (subtagsT T ++ [T.lang, T.script, T.region]) && decide (T.grand = lowS T.grand)) from rfl)
  generalize smallT T = st at *
  generalize subtagsT T = sub at *
  obtain ⟨lang, extl, script, region, vars, exts, priv, grand⟩ := T
  dsimp only at *
  obtain ⟨d0, d1, d2, d3, d4, d5, d6, d7⟩ := HH.out W0.drew (Below.drew (Below.refl _ _))
  have hBd : Below W0.heap.size W0 W0.drew := Below.drew (Below.refl _ _)
  have hgr := hF.2.2.2.2.2
  dsimp only at hgr
  have hBe : Below W0.heap.size W0 ((W0.alloc (.cells #[.string lang, .string script, .string region] 9)).drew) := Below.drew ((Below.refl _ W0).alloc (Nat.le_refl _) _)
  have hBf : Below W0.heap.size W0 (W0.drew.alloc (.cells #[.string lang, .string script, .string region] 9)) := (Below.drew (Below.refl _ W0)).alloc (Nat.le_refl _) _
  have hlt1 : W0.heap.size < ((W0.alloc (.cells #[.string lang, .string script, .string region] 9)).drew).heap.size := lt_allocF W0 _
  have hnew1 : ((W0.alloc (.cells #[.string lang, .string script, .string region] 9)).drew).heap[W0.heap.size]? = some (.cells #[.string lang, .string script, .string region] 9) := World.alloc_heap_new W0 _
  have hlt2 : W0.heap.size < (W0.drew.alloc (.cells #[.string lang, .string script, .string region] 9)).heap.size := lt_allocF W0.drew _
  have hnew2 : (W0.drew.alloc (.cells #[.string lang, .string script, .string region] 9)).heap[W0.heap.size]? = some (.cells #[.string lang, .string script, .string region] 9) := World.alloc_heap_new W0.drew _
  clear hT0 hT1 hh0 hb0 hF
  go_enter Try.func20, Try.ntmps20
  go_upto_region 1 with fail
  clear hW0
  go_cut [3] from 5 to 14 (fun u wx => Acc W0 (sub ++ [lang, script, region]) u wx)
  case first =>
    go_region_held3 (fun w' => Below W0.heap.size W0 w' ∧ w'.cell? ⟨w.heap.size, 0, none⟩ = some (.string lang) ∧ w'.cell? ⟨w.heap.size, 1, none⟩ = some ve ∧ w'.cell? ⟨w.heap.size, 2, none⟩ = some (.string script) ∧ w'.cell? ⟨w.heap.size, 3, none⟩ = some (.string region) ∧ w'.cell? ⟨w.heap.size, 4, none⟩ = some vv ∧ w'.cell? ⟨w.heap.size, 5, none⟩ = some vx ∧ w'.cell? ⟨w.heap.size, 6, none⟩ = some vp ∧ w'.cell? ⟨w.heap.size, 7, none⟩ = some (.string grand))
      (first | exact ⟨by assumption, by assumption, by assumption, by assumption, by assumption, by assumption, by assumption, by assumption, by assumption⟩ | exact small_keep HH.out (by assumption) | exact ⟨hB6, HH.out _ hB6⟩ | exact ⟨hBe, HH.out _ hBe⟩ | exact ⟨hBf, HH.out _ hBf⟩)
      (first
        | (go_at_call 29; (with_reducible refine (SU.out _ (by first | assumption | exact Below.alloc (by assumption) (Below.size (by assumption)) _)).mono ?_); rintro e w5 ⟨u, rfl, ho, hb5, hB5⟩; obtain ⟨d0, d1, d2, d3, d4, d5, d6, d7⟩ := HH.out _ hB5; have hblk := (hb5.block _ hlt1).trans hnew1)
        | (go_at_call 29; (with_reducible refine (SU.out _ (by first | assumption | exact Below.alloc (by assumption) (Below.size (by assumption)) _)).mono ?_); rintro e w5 ⟨u, rfl, ho, hb5, hB5⟩; obtain ⟨d0, d1, d2, d3, d4, d5, d6, d7⟩ := HH.out _ hB5; have hblk := (hb5.block _ hlt2).trans hnew2)
        | (go_at_call 29; (with_reducible refine (SU.out _ (by first | assumption | exact Below.alloc (by assumption) (Below.size (by assumption)) _)).mono ?_); rintro e w5 ⟨u, rfl, ho, hb5, hB5⟩; obtain ⟨d0, d1, d2, d3, d4, d5, d6, d7⟩ := HH.out _ hB5)
        | ((refine step_append_lies _ (by rfl) _ _ 26 (by rfl) W0.heap.size 9 i0 (.string ByteArray.empty) 1 16 Try.underlying26 hi hz0 hz1 hz2 (by rfl) (by decide) _ sub.length _ (by rfl) (by first | exact ho | exact ho.alloc _) _ 3 3 [.string lang, .string script, .string region] (by rfl) (by rfl) (World.news_of_block (by first | exact hblk | exact World.alloc_heap_new _ _)) (by intro u hu; simp at hu; rcases hu with rfl | rfl | rfl <;> rfl) (by decide) (by unfold maxLen; omega) (by omega) (by first | exact hB5.size | (simp; have := hB5.size; omega)) _ rfl ?_); intro g cap w6 hown6 hgrow6 _ _; first | have hB6 := grown_a ho hB5 hgrow6 | have hB6 := grown_b ho hB5 hgrow6))
    all_goals
      (try go_wp2_with fail)
      go_meet
      case rel =>
        refine ⟨?_, hB6⟩
        rw [List.length_append, strs_append]
        exact hown6
  case rest =>
    have HA := hcut
    have hl2 : (sub ++ [lang, script, region]).length ≤ 20003 := by rw [List.length_append]; simp; omega
    obtain ⟨L, hL⟩ : ∃ L, sub ++ [lang, script, region] = L := ⟨_, rfl⟩
    rw [hL] at HA hl2 hsz HST
    have HS := Lib.hid HST.out
    have HR := Row.of_own HA.1
    obtain ⟨ao, cp, rfl, HC⟩ := HR
    have HC := Lib.hid HC
    have hBw := HA.2
    have HBW := Lib.hid hBw
    clear hcut HA hL HST
    go_wp2_with fail
    have hgs : grand.size ≤ 100 := hgr
    go_loopw [4] (fun i wr => ∃ k : Nat, k ≤ L.length ∧ i = .int .i64 (k : Int) ∧ lowT (L.take k) = true ∧ Below wc.heap.size wc wr) (fun i _ => L.length - (intOf i).toNat)
    case atStart => exact ⟨0, Nat.zero_le _, rfl, rfl, Below.refl _ _⟩
    case round =>
      obtain ⟨k, hk, rfl, HA, hB⟩ := hrel
      have hBd := Below.drew hB
      by_cases hlt : k < L.length
      · have hki : (k : Int) < (L.length : Int) := by omega
        have hk0 : (0 : Int) ≤ (k : Int) := by omega
        obtain ⟨x, hx⟩ : ∃ x, L[k]? = some x := ⟨_, List.getElem?_eq_getElem hlt⟩
        obtain ⟨g, rfl, hc⟩ := HC.out k x hx
        have hgl := lt_of_cellF hc
        have hxs := hsz x (List.mem_of_getElem? hx)
        have hn := lowT_next hx HA
        have e1 := (hBd.cell (p := ⟨g, k, none⟩) hgl).trans hc
        obtain ⟨y, hy⟩ : ∃ y, lowS x = y := ⟨_, rfl⟩
        have LO := Lib.hid (fun w5 (hb5 : Below wc.heap.size wc w5) => (lower_ref x w5 (by omega)).mono (R' := fun e w6 => e = .returned (.string y) ∧ Below wc.heap.size wc w6) fun e w6 ⟨p, q⟩ => ⟨by rw [p, hy], hb5.trans (q.mono hb5.size)⟩)
        have HCC := Lib.hid (fun w5 (hb5 : Below wc.heap.size wc w5) => (hb5.cell (p := ⟨g, k, none⟩) hgl).trans hc)
        rw [hy] at hn
        clear hx hc HA hy hsz
        by_cases hxy : x = y
        · subst hxy
          rw [decide_eq_true rfl] at hn
          have HN := Lib.hid hn
          clear hn
          go_wp2_with fail
          go_region_held3 (fun w' => Below wc.heap.size wc w' ∧ w'.cell? ⟨g, k, none⟩ = some (.string x))
            (first | exact ⟨by assumption, by assumption⟩)
            (first | (go_at_call 10; (with_reducible refine (LO.out _ (by assumption)).mono ?_); rintro e w5 ⟨rfl, hb5⟩; have e2 := HCC.out _ hb5))
          go_wp2
          go_roundw
          case rel => exact ⟨k + 1, by omega, by go_num, HN.out, by assumption⟩
          case measure => simp [intOf]; omega
        · have hne := toList_ne hxy
          rw [decide_eq_false hxy] at hn
          have HN := Lib.hid (lowT_bad hn)
          clear hn hxy
          go_wp2_with fail
          go_region_held3 (fun w' => Below wc.heap.size wc w' ∧ w'.cell? ⟨g, k, none⟩ = some (.string x))
            (first | exact ⟨by assumption, by assumption⟩)
            (first | (go_at_call 10; (with_reducible refine (LO.out _ (by assumption)).mono ?_); rintro e w5 ⟨rfl, hb5⟩; have e2 := HCC.out _ hb5))
          go_wp2
          go_ret
          exact ⟨ret_bool (by rw [HS.out, HN.out]; rfl), HB0.out.trans ((HBW.out.trans (Below.mono (by assumption) HBW.out.size)).mono (Nat.le_of_lt hz0'))⟩
      · obtain rfl : k = L.length := by omega
        rw [List.take_of_length_le (Nat.le_refl _)] at HA
        have HAT := Lib.hid HA
        have hki : ¬ (L.length : Int) < (L.length : Int) := by omega
        obtain ⟨y, hy⟩ : ∃ y, lowS grand = y := ⟨_, rfl⟩
        have LO := Lib.hid (fun w5 (hb5 : Below wc.heap.size wc w5) => (lower_ref grand w5 (by omega)).mono (R' := fun e w6 => e = .returned (.string y) ∧ Below wc.heap.size wc w6) fun e w6 ⟨p, q⟩ => ⟨by rw [p, hy], hb5.trans (q.mono hb5.size)⟩)
        have HCC := Lib.hid (fun w5 (hb5 : Below wc.heap.size wc w5) => (HH.out w5 (hBw.trans (hb5.mono hBw.size))).2.2.2.2.2.2.2)
        have e1 := HCC.out _ hBd
        rw [hy] at HS
        clear HA hy hsz
        by_cases hxy : grand = y
        · subst hxy
          go_wp2_with fail
          go_region_held3 (fun w' => Below wc.heap.size wc w' ∧ w'.cell? ⟨w.heap.size, 7, none⟩ = some (.string grand))
            (first | exact ⟨by assumption, by assumption⟩)
            (first | (go_at_call 10; (with_reducible refine (LO.out _ (by assumption)).mono ?_); rintro e w5 ⟨rfl, hb5⟩; have e2 := HCC.out _ hb5))
          go_wp2
          go_ret
          exact ⟨ret_bool (by rw [HS.out, HAT.out]; simp), HB0.out.trans ((HBW.out.trans (Below.mono (by assumption) HBW.out.size)).mono (Nat.le_of_lt hz0'))⟩
        · have hne := toList_ne hxy
          go_wp2_with fail
          go_region_held3 (fun w' => Below wc.heap.size wc w' ∧ w'.cell? ⟨w.heap.size, 7, none⟩ = some (.string grand))
            (first | exact ⟨by assumption, by assumption⟩)
            (first | (go_at_call 10; (with_reducible refine (LO.out _ (by assumption)).mono ?_); rintro e w5 ⟨rfl, hb5⟩; have e2 := HCC.out _ hb5))
          go_wp2
          go_ret
          exact ⟨ret_bool (by rw [HS.out, HAT.out, decide_eq_false hxy]; rfl), HB0.out.trans ((HBW.out.trans (Below.mono (by assumption) HBW.out.size)).mono (Nat.le_of_lt hz0'))⟩
end Go.Proofs.Ytpnhjpplfjamkaa

/-! The document's own answers for package tag: rows. -/
namespace Go.Proofs.Ytpnhjpplfjamkaa
open Go Go.RowKit

/-- Of each of a row, with what stands ahead of it. -/
def eachN {α : Type} (p : List α → α → Bool) (l : List α) (n : Nat) : Bool := (List.range n).all fun i => match l[i]? with
  | some x => p (l.take i) x
  | none => true
theorem eachN_next {α : Type} {p : List α → α → Bool} {l : List α} {n : Nat} {x : α} (h : l[n]? = some x) (ha : eachN p l n = true) : eachN p l (n + 1) = p (l.take n) x := by
  unfold eachN at *
  rw [List.range_succ, List.all_append, ha]
  simp [h]
theorem eachN_bad {α : Type} {p : List α → α → Bool} {l : List α} {n m : Nat} (hm : n ≤ m) (h : eachN p l n = false) : eachN p l m = false := by
  unfold eachN at *
  rw [List.all_eq_false] at *
  obtain ⟨i, hi, h2⟩ := h
  rw [List.mem_range] at hi
  exact ⟨i, List.mem_range.2 (by omega), h2⟩
def pV (pre : List ByteArray) (x : ByteArray) : Bool := variantS x && pre.all fun y => decide (y ≠ x)
def keyT (pre : List (ByteArray × List ByteArray)) (x : ByteArray) : Bool := pre.all fun y => decide (y.1 ≠ x)
def pE (pre : List (ByteArray × List ByteArray)) (x : ByteArray × List ByteArray) : Bool := (singletonS x.1 && keyT pre x.1) && (subsT x.2 2 && decide (x.2.length ≠ 0))
def rowsT (T : TagM) : Bool := eachN pV T.vars T.vars.length && (eachN pE T.exts T.exts.length && subsT T.priv 1)
theorem all_take_next {α : Type} {l : List α} {j : Nat} {y : α} (f : α → Bool) (h : l[j]? = some y) : (l.take (j + 1)).all f = ((l.take j).all f && f y) := by
  rw [take_next h, List.all_append]
  simp

set_option maxRecDepth 100000 in
set_option maxHeartbeats 8000000 in
theorem rows_ref (v : Value) (T : TagM) (w : World) (hT : TagIs w v T) (hF : TagFits T) (hv : ∀ x ∈ T.vars, x.size ≤ 1048576) (he : ∀ x ∈ T.exts, x.1.size ≤ 1048576 ∧ ∀ y ∈ x.2, y.size ≤ 1048576) (hp : ∀ x ∈ T.priv, x.size ≤ 1048576) :
    Calls Try.prog 26 #[v] w fun e w' => e = .returned (.bool (rowsT T)) ∧ Below w.heap.size w w' := by
  obtain ⟨ve, vv, vx, vp, rfl, R1, R2, R3, R4⟩ := hT
  obtain ⟨F1, F2, F3, F4, F5, F6⟩ := hF
  obtain ⟨W0, hW0⟩ : ∃ W0, w.alloc (.cells #[.string T.lang, ve, .string T.script, .string T.region, vv, vx, vp, .string T.grand] 29) = W0 := ⟨_, rfl⟩
  have hb0 : Below w.heap.size w W0 := by rw [← hW0]; exact (Below.refl _ w).alloc (Nat.le_refl _) _
  have hz0' : w.heap.size < W0.heap.size := by rw [← hW0]; simp
  have hh0 : W0.heap[w.heap.size]? = some (.cells #[.string T.lang, ve, .string T.script, .string T.region, vv, vx, vp, .string T.grand] 29 (0, 0)) := by rw [← hW0]; exact World.alloc_heap_new w _
  have HH := Lib.hid (fun wr (hb : Below W0.heap.size W0 wr) => tag_cells ((hb.block _ hz0').trans hh0))
  have R2 := R2.below hb0
  have R3 := R3.below hb0
  have R4 := R4.below hb0
  have HST := Lib.hid (show rowsT T = (eachN pV T.vars T.vars.length && (eachN pE T.exts T.exts.length && subsT T.priv 1)) from rfl)
  generalize rowsT T = st at *
  obtain ⟨lang, extl, script, region, vars, exts, priv, grand⟩ := T
  dsimp only at *
  have HB0 := Lib.hid hb0
  have SP := Lib.hid (fun w5 (hb : Below W0.heap.size W0 w5) => subs_ref _ priv 1 w5 (R4.below hb) (by omega) hp)
  obtain ⟨a2, p2, rfl, K2⟩ := R2
  obtain ⟨a3, p3, rfl, K3⟩ := R3
  obtain ⟨a4, p4, rfl, -⟩ := R4
  have K2 := Lib.hid K2
  have K3 := Lib.hid K3
  clear hh0 hb0 R1 hp
  go_enter Try.func26, Try.ntmps26
  go_wp2_with fail
  go_loopw [3] (fun i wr => ∃ k : Nat, k ≤ vars.length ∧ i = .int .i64 (k : Int) ∧ eachN pV vars k = true ∧ Below W0.heap.size W0 wr) (fun i _ => vars.length - (intOf i).toNat)
  case atStart => exact ⟨0, Nat.zero_le _, rfl, rfl, Below.refl _ _⟩
  case round =>
    obtain ⟨k, hk, rfl, HA, hB⟩ := hrel
    clear hW0
    obtain ⟨d0, d1, d2, d3, d4, d5, d6, d7⟩ := HH.out _ hB
    by_cases hlt : k < vars.length
    · have hki : (k : Int) < (vars.length : Int) := by omega
      have hk0 : (0 : Int) ≤ (k : Int) := by omega
      have hk1 : (k : Int) ≤ 100 := by omega
      obtain ⟨x, hx⟩ : ∃ x, vars[k]? = some x := ⟨_, List.getElem?_eq_getElem hlt⟩
      obtain ⟨g, rfl, hc⟩ := K2.out k x hx
      have hgl := lt_of_cellF hc
      have hcx := (hB.cell (p := ⟨g, k, none⟩) hgl).trans hc
      have VR := Lib.hid (fun w5 => variant_ref x w5 (by have := hv x (List.mem_of_getElem? hx); omega))
      have HN := Lib.hid (eachN_next hx HA)
      clear HA
      go_wp2_with (go_at_call 33; (with_reducible refine (VR.out _).mono ?_); rintro e w' ⟨rfl, rfl⟩)
      go_loopw [4, 5] (fun b i wr2 => ∃ j : Nat, j ≤ k ∧ i = .int .i64 (j : Int) ∧ b = .bool (variantS x && (vars.take j).all fun y => decide (y ≠ x)) ∧ Below W0.heap.size W0 wr2) (fun _ i _ => k - (intOf i).toNat)
      case atStart => exact ⟨0, Nat.zero_le _, rfl, by simp, hB⟩
      case round =>
        obtain ⟨j, hj, rfl, rfl, hB2⟩ := hrel
        obtain ⟨c0, c1, c2, c3, c4, c5, c6, c7⟩ := HH.out _ hB2
        have hcx := (hB2.cell (p := ⟨g, k, none⟩) hgl).trans hc
        by_cases hltj : j < k
        · have hji : (j : Int) < (k : Int) := by omega
          have hj0 : (0 : Int) ≤ (j : Int) := by omega
          have hji2 : (j : Int) < (vars.length : Int) := by omega
          obtain ⟨y, hy⟩ : ∃ y, vars[j]? = some y := ⟨_, List.getElem?_eq_getElem (by omega)⟩
          obtain ⟨g', hg', hcy'⟩ := K2.out j y hy
          obtain rfl : g = g' := by cases hg'; rfl
          have hcy := (hB2.cell (p := ⟨g, j, none⟩) hgl).trans hcy'
          have HS := Lib.hid (all_take_next (fun y => decide (y ≠ x)) hy)
          obtain ⟨b, hb⟩ : ∃ b, (variantS x && (vars.take j).all fun y => decide (y ≠ x)) = b := ⟨_, rfl⟩
          have HBB := Lib.hid hb
          rw [hb]
          clear hb hy hcy' hg' hx hc
          cases b with
          | false =>
            go_wp2
            go_quiet (fail)
            go_wp2
            go_roundw
            case rel => exact ⟨j + 1, by omega, by go_num, by rw [HS.out, ← Bool.and_assoc, HBB.out]; rfl, below_drewN hB2 _⟩
            case measure => simp [intOf]; omega
          | true =>
            by_cases hxy : y = x
            · subst hxy
              go_wp2
              go_quiet (fail)
              go_wp2
              go_roundw
              case rel => exact ⟨j + 1, by omega, by go_num, by rw [HS.out, ← Bool.and_assoc, HBB.out]; simp, below_drewN hB2 _⟩
              case measure => simp [intOf]; omega
            · have hne := toList_ne hxy
              go_wp2
              go_quiet (fail)
              go_wp2
              go_roundw
              case rel => exact ⟨j + 1, by omega, by go_num, by rw [HS.out, ← Bool.and_assoc, HBB.out, decide_eq_true hxy]; rfl, below_drewN hB2 _⟩
              case measure => simp [intOf]; omega
        · obtain rfl : j = k := by omega
          have hji : ¬ (j : Int) < (j : Int) := by omega
          have HP := Lib.hid (show eachN pV vars (j + 1) = (variantS x && (vars.take j).all fun y => decide (y ≠ x)) from HN.out)
          obtain ⟨b, hb⟩ : ∃ b, (variantS x && (vars.take j).all fun y => decide (y ≠ x)) = b := ⟨_, rfl⟩
          rw [hb] at HP ⊢
          clear hb hc hx
          cases b with
          | false =>
            have HBAD := Lib.hid (eachN_bad (m := vars.length) (by omega) HP.out)
            go_wp2
            go_ret
            exact ⟨ret_bool (by rw [HST.out, HBAD.out]; rfl), HB0.out.trans (hB2.mono (Nat.le_of_lt hz0'))⟩
          | true =>
            go_wp2
            go_roundw
            case rel => exact ⟨j + 1, by omega, by go_num, HP.out, hB2⟩
            case measure => simp [intOf]; omega
    · obtain rfl : k = vars.length := by omega
      have HAV := Lib.hid HA
      clear HA
      clear d0 d1 d2 d3 d4 d5 d6 d7
      obtain ⟨d0, d1, d2, d3, d4, d5, d6, d7⟩ := HH.out _ hB
      go_wp2_with fail
      go_loopw [6] (fun i wr => ∃ k : Nat, k ≤ exts.length ∧ i = .int .i64 (k : Int) ∧ eachN pE exts k = true ∧ Below W0.heap.size W0 wr) (fun i _ => exts.length - (intOf i).toNat)
      case atStart => exact ⟨0, Nat.zero_le _, rfl, rfl, hB⟩
      case round =>
        obtain ⟨k, hk, rfl, HA, hB⟩ := hrel
        obtain ⟨d0, d1, d2, d3, d4, d5, d6, d7⟩ := HH.out _ hB
        by_cases hlt : k < exts.length
        · have hki : (k : Int) < (exts.length : Int) := by omega
          have hk0 : (0 : Int) ≤ (k : Int) := by omega
          have hk1 : (k : Int) ≤ 100 := by omega
          obtain ⟨x, hx⟩ : ∃ x, exts[k]? = some x := ⟨_, List.getElem?_eq_getElem hlt⟩
          obtain ⟨g, vs, rfl, hc, hc2, RS⟩ := K3.out k x hx
          have hgl := lt_of_cellF hc
          have hcx := (hB.cell (p := ⟨g, k * 2, none⟩) hgl).trans hc
          have hcs := (hB.cell (p := ⟨g, k * 2 + 1, none⟩) hgl).trans hc2
          have hmem := List.mem_of_getElem? hx
          have hx2 : x.2.length ≤ 100 := F4 x hmem
          have SG := Lib.hid (fun w5 => singleton_ref x.1 w5 (by have := (he x hmem).1; omega))
          have SB := Lib.hid (fun w5 (hb : Below W0.heap.size W0 w5) => subs_ref vs x.2 2 w5 (RS.below hb) (by omega) (he x hmem).2)
          have HN := Lib.hid (eachN_next hx HA)
          obtain ⟨ao5, p5, rfl, -⟩ := RS
          obtain ⟨two, htwo⟩ : ∃ b, subsT x.2 2 = b := ⟨_, rfl⟩
          rw [htwo] at SB
          have SB2 := Lib.hid (fun w5 (hb : Below W0.heap.size W0 w5) => show Calls Try.prog 22 #[.slice ao5 x.2.length p5, .int .i64 2] w5 fun e w' => e = .returned (.bool two) ∧ w5 = w' from SB.out w5 hb)
          have HTWO := Lib.hid htwo
          clear HA htwo SB
          obtain ⟨key, subs⟩ := x
          dsimp only at *
          go_wp2_with (first | (go_at_call 35; (with_reducible refine (SG.out _).mono ?_); rintro e w' ⟨rfl, rfl⟩) | (go_at_call 22; (with_reducible refine (SB2.out _ hB).mono ?_); rintro e w' ⟨rfl, rfl⟩))
          go_loopw [7, 9] (fun b i wr2 => ∃ j : Nat, j ≤ k ∧ i = .int .i64 (j : Int) ∧ b = .bool (singletonS key && keyT (exts.take j) key) ∧ Below W0.heap.size W0 wr2) (fun _ i _ => k - (intOf i).toNat)
          case atStart => exact ⟨0, Nat.zero_le _, rfl, by simp [keyT], hB⟩
          case round =>
            obtain ⟨j, hj, rfl, rfl, hB2⟩ := hrel
            obtain ⟨c0, c1, c2, c3, c4, c5, c6, c7⟩ := HH.out _ hB2
            have hcx := (hB2.cell (p := ⟨g, k * 2, none⟩) hgl).trans hc
            have hcs := (hB2.cell (p := ⟨g, k * 2 + 1, none⟩) hgl).trans hc2
            by_cases hltj : j < k
            · have hji : (j : Int) < (k : Int) := by omega
              have hj0 : (0 : Int) ≤ (j : Int) := by omega
              have hji2 : (j : Int) < (exts.length : Int) := by omega
              obtain ⟨y, hy⟩ : ∃ y, exts[j]? = some y := ⟨_, List.getElem?_eq_getElem (by omega)⟩
              obtain ⟨g', vs', hg', hcy', -, -⟩ := K3.out j y hy
              obtain rfl : g = g' := by cases hg'; rfl
              have hcy := (hB2.cell (p := ⟨g, j * 2, none⟩) hgl).trans hcy'
              have HS := Lib.hid (show keyT (exts.take (j + 1)) key = (keyT (exts.take j) key && decide (y.1 ≠ key)) from all_take_next (fun (y : ByteArray × List ByteArray) => decide (y.1 ≠ key)) hy)
              obtain ⟨b, hb⟩ : ∃ b, (singletonS key && keyT (exts.take j) key) = b := ⟨_, rfl⟩
              have HBB := Lib.hid hb
              rw [hb]
              clear hb hy hcy' hg' hx hc
              cases b with
              | false =>
                go_wp2
                go_quiet (fail)
                go_wp2
                go_roundw
                case rel => exact ⟨j + 1, by omega, by go_num, by rw [HS.out, ← Bool.and_assoc, HBB.out]; rfl, below_drewN hB2 _⟩
                case measure => simp [intOf]; omega
              | true =>
                by_cases hxy : y.1 = key
                · rw [hxy] at hcy
                  go_wp2
                  go_quiet (fail)
                  go_wp2
                  go_roundw
                  case rel => exact ⟨j + 1, by omega, by go_num, by rw [HS.out, ← Bool.and_assoc, HBB.out, hxy]; simp, below_drewN hB2 _⟩
                  case measure => simp [intOf]; omega
                · have hne := toList_ne hxy
                  go_wp2
                  go_quiet (fail)
                  go_wp2
                  go_roundw
                  case rel => exact ⟨j + 1, by omega, by go_num, by rw [HS.out, ← Bool.and_assoc, HBB.out, decide_eq_true hxy]; rfl, below_drewN hB2 _⟩
                  case measure => simp [intOf]; omega
            · obtain rfl : j = k := by omega
              have hji : ¬ (j : Int) < (j : Int) := by omega
              have HP := Lib.hid (show eachN pE exts (j + 1) = ((singletonS key && keyT (exts.take j) key) && (two && decide (subs.length ≠ 0))) by
                rw [HN.out, ← HTWO.out]; rfl)
              obtain ⟨b, hb⟩ : ∃ b, (singletonS key && keyT (exts.take j) key) = b := ⟨_, rfl⟩
              rw [hb] at HP ⊢
              clear hb hc hx
              have bad : eachN pE exts (j + 1) = false → Hid (st = false) := fun h => Lib.hid (by rw [HST.out, eachN_bad (m := exts.length) (by omega) h]; simp)
              have hend := HB0.out.trans (hB2.mono (Nat.le_of_lt hz0'))
              have HBAD := Lib.hid bad
              clear bad
              cases b with
              | false =>
                have HF := HBAD.out (by rw [HP.out]; rfl)
                go_wp2
                go_ret
                exact ⟨ret_bool HF.out.symm, hend⟩
              | true =>
                cases two with
                | false =>
                  have HF := HBAD.out (by rw [HP.out]; rfl)
                  go_wp2
                  go_ret
                  exact ⟨ret_bool HF.out.symm, hend⟩
                | true =>
                  by_cases hl0 : subs.length = 0
                  · have HF := HBAD.out (by rw [HP.out, hl0]; rfl)
                    have hl1 : ((subs.length : Int) == 0) = true := by rw [hl0]; rfl
                    go_wp2
                    go_ret
                    exact ⟨ret_bool HF.out.symm, hend⟩
                  · have HG := Lib.hid (show eachN pE exts (j + 1) = true by rw [HP.out, decide_eq_true hl0]; rfl)
                    have hl1 : ((subs.length : Int) == 0) = false := by rw [beq_eq_false_iff_ne]; omega
                    go_wp2
                    go_roundw
                    case rel => exact ⟨j + 1, by omega, by go_num, HG.out, hB2⟩
                    case measure => simp [intOf]; omega
        · obtain rfl : k = exts.length := by omega
          have HAE := Lib.hid HA
          clear HA
          have SP2 := Lib.hid (fun w5 (hb : Below W0.heap.size W0 w5) => show Calls Try.prog 22 #[.slice a4 priv.length p4, .int .i64 1] w5 fun e w' => e = .returned (.bool (subsT priv 1)) ∧ w5 = w' from SP.out w5 hb)
          go_wp2_with (go_at_call 22; (with_reducible refine (SP2.out _ hB).mono ?_); rintro e w' ⟨rfl, rfl⟩)
          go_ret
          exact ⟨ret_bool (by rw [HST.out, HAV.out, HAE.out]; rfl), HB0.out.trans (hB.mono (Nat.le_of_lt hz0'))⟩
end Go.Proofs.Ytpnhjpplfjamkaa
