/-
  Package table: Build.
-/
import Derived.Test.YtlpjdknmnomdlaaGreatDoorWSort
namespace Go.Proofs.YtlpjdknmnomdlaaGreatDoor
open Go Go.RowKit

/-- The first row that has not so many bytes. -/
def oddW (w : Int) (l : List ByteArray) : Option Nat := l.findIdx? fun r => decide ((r.size : Int) ≠ w)
theorem oddW_none {W : Nat} {l : List ByteArray} (h : oddW (W : Int) l = none) : ∀ x ∈ l, x.size = W := by
  intro x hx
  have := List.findIdx?_eq_none_iff.1 h x hx
  simpa [Int.natCast_inj] using this
/-- What Build tells. -/
def buildE (w k : Int) (l : List ByteArray) (cat : ByteArray) : Option (Int × Int) :=
  if k < 1 ∨ w < k ∨ 255 < w then some (1, 0)
  else match oddW w l with
    | some i => some (12, (i : Int))
    | none => newE w k cat
theorem buildE_bad {w k : Int} {l : List ByteArray} {c : ByteArray} (h : k < 1 ∨ w < k ∨ 255 < w) : buildE w k l c = some (1, 0) := if_pos h
theorem buildE_ok {w k : Int} {l : List ByteArray} {c : ByteArray} (h : ¬ (k < 1 ∨ w < k ∨ 255 < w)) : buildE w k l c = match oddW w l with
    | some i => some (12, (i : Int))
    | none => newE w k c := if_neg h

theorem join_own {base : Nat} {u : Value} {L : List ByteArray} (w : World) (hL : L.length ≤ 4000) (hu : w.ownsRow base 9 1 u L.length (strsW L)) (hsz : (catW L).size ≤ 1048576) :
    Calls Tryz.prog 107 #[u, .string ⟨#[]⟩] w fun e w' => e = .returned (.string (catW L)) ∧ Below w.heap.size w w' := by
  rcases hu.2 with ⟨rfl, hz⟩ | ⟨g, cap, cur, rfl, hbase, hgb, r1, r2, r3, r4⟩
  · obtain rfl : L = [] := List.eq_nil_of_length_eq_zero hz
    exact (Go.Proofs.Tryz.strings_Join_none none 0 ⟨#[]⟩ w).mono fun e w' ⟨h1, h2⟩ => ⟨h1, by rw [h2]; exact Below.refl _ _⟩
  · have hc : ∀ (j : Nat) x, L[j]? = some x → w.cell? ⟨g, 0 + j, none⟩ = some (.string x) := fun j x hx => by
      have := hu.cells rfl j (.string x) (by simp [strsW, hx])
      rwa [Addr.add_lit] at this
    have hj := joinW L
    have hlen : (Lib.join (L.map (·.data.toList)) (⟨#[]⟩ : ByteArray).data.toList).length = (catW L).size := by rw [← hj]; rfl
    have := Go.Proofs.Tryz.strings_Join g 0 cap L ⟨#[]⟩ w hc (lt_of_block hgb) (by omega) r1 (by rw [hlen]; omega)
    rwa [hj] at this

set_option maxRecDepth 100000 in
set_option maxHeartbeats 2000000 in
theorem build_table (wi ki : Int) (v : Value) (l : List ByteArray) (w : World) (hv : RowW w v l) (hl : l.length ≤ 4000) (hs : ∀ x ∈ l, x.size ≤ 140737488351232) :
    Calls Tryz.prog 108 #[.int .i64 wi, .int .i64 ki, v] w fun e w' => ∃ t u, e = .returned (.tuple #[t, u]) ∧ (MadeW w' t u wi ki (catW (sortW l)) (buildE wi ki l (catW (sortW l))) ∧ Below w.heap.size w w') := by
  by_cases hbad : ki < 1 ∨ wi < ki ∨ 255 < wi
  · have HC := Lib.hid (sizesW_bad wi ki w hbad)
    have HE := Lib.hid (buildE_bad (l := l) (c := catW (sortW l)) hbad)
    obtain ⟨ao, cap, rfl, -⟩ := hv
    clear hbad hl hs
    go_enter Tryz.func108, Tryz.ntmps108
    go_wp2_with (go_at_call 150; (with_reducible refine HC.out.mono ?_); rintro e w1 ⟨v, rfl, hv⟩; obtain ⟨t, u, rfl⟩ := hv.1.iface; have HV := Lib.hid hv; clear hv)
    go_ret2
    exact ⟨_, _, rfl, by rw [HE.out]; exact ⟨rfl, HV.out.1⟩, HV.out.2⟩
  · have HE := Lib.hid (buildE_ok (l := l) (c := catW (sortW l)) hbad)
    obtain ⟨W, rfl⟩ : ∃ W : Nat, wi = (W : Int) := ⟨wi.toNat, by omega⟩
    obtain ⟨K, rfl⟩ : ∃ K : Nat, ki = (K : Int) := ⟨ki.toNat, by omega⟩
    have h1 : 0 < K := by omega
    have h2 : K ≤ W := by omega
    have h3 : W ≤ 255 := by omega
    clear hbad
    have HC := Lib.hid (sizesW_ok W K w h1 h2 h3)
    have HV := Lib.hid hv
    obtain ⟨ao, cap, rfl, -⟩ := hv
    have HS := Lib.hid hs
    clear hs
    go_enter Tryz.func108, Tryz.ntmps108
    go_wp2_with (go_at_call 150; (with_reducible refine HC.out.mono ?_); rintro e w' ⟨rfl, rfl⟩)
    go_loop [19] (fun x => ∃ k : Nat, x = .int .i64 (k : Int) ∧ k ≤ l.length ∧ Hid (∀ i r, l[i]? = some r → i < k → r.size = W)) (fun x => l.length + 1 - (intOf x).toNat)
    case atStart => exact ⟨0, rfl, Nat.zero_le _, Lib.hid (fun i r _ h => absurd h (Nat.not_lt_zero _))⟩
    case round =>
      obtain ⟨k, rfl, hk, HK⟩ := hrel
      by_cases hlt : k < l.length
      · have hlt' : (k : Int) < (l.length : Int) := by omega
        have hd : decide (k < l.length) = true := decide_eq_true hlt
        have hk0 : (0 : Int) ≤ (k : Int) := by omega
        obtain ⟨x, hx⟩ : ∃ x, l[k]? = some x := ⟨_, List.getElem?_eq_getElem hlt⟩
        obtain ⟨ao', cap', e', hc⟩ := HV.out
        injection e' with a1 a2 a3
        subst a1
        subst a3
        obtain ⟨g, o, rfl, c1⟩ := hc k x hx
        have hxs := HS.out x (mem_of_at hx)
        clear hc
        by_cases hsz : x.size = W
        · have hd2 : ((x.size : Int) == (W : Int)) = true := by rw [beq_iff_eq]; omega
          have HK2 := Lib.hid (show ∀ i r, l[i]? = some r → i < k + 1 → r.size = W from fun i r hr hi => by
            rcases Nat.lt_or_eq_of_le (Nat.le_of_lt_succ hi) with h | h
            · exact HK.out i r hr h
            · rw [h, hx] at hr; cases hr; exact hsz)
          clear hx hsz
          go_wp2
          go_round
          case rel => exact ⟨k + 1, by go_num, by omega, HK2⟩
          case measure => simp [intOf]; omega
        · have hd2 : ((x.size : Int) == (W : Int)) = false := by rw [beq_eq_false_iff_ne]; omega
          have HO := Lib.hid (show oddW (W : Int) l = some k from by
            unfold oddW
            rw [List.findIdx?_eq_some_iff_getElem]
            obtain ⟨hk', rfl⟩ := List.getElem?_eq_some_iff.1 hx
            refine ⟨hk', by simpa [Int.natCast_inj] using hsz, fun j hj => ?_⟩
            have := HK.out j _ (List.getElem?_eq_getElem (by omega)) hj
            simp [this])
          have HN := Lib.hid (newW_any 12 (k : Int) w (by decide))
          clear hx hsz
          go_wp2_with (go_at_call 62; (with_reducible refine HN.out.mono ?_); rintro e w1 ⟨v, rfl, hv⟩; obtain ⟨t, u, rfl⟩ := hv.1.iface; have HV2 := Lib.hid hv; clear hv)
          go_ret2
          exact ⟨_, _, rfl, by rw [HE.out, HO.out]; exact ⟨rfl, HV2.out.1⟩, HV2.out.2⟩
      · obtain rfl : k = l.length := by omega
        have hd : decide (l.length < l.length) = false := decide_eq_false (by omega)
        have hall : ∀ x ∈ l, x.size = W := by
          intro x hx
          obtain ⟨i, hi⟩ := List.getElem?_of_mem hx
          exact HK.out i x hi (List.getElem?_eq_some_iff.1 hi).1
        have HO := Lib.hid (show oddW (W : Int) l = none from List.findIdx?_eq_none_iff.2 fun x hx => by simp [hall x hx])
        have hcl : (catW (sortW l)).size ≤ 1048576 := by
          rw [cat_size (sortW_size hall), sortW_len]
          have : l.length * W ≤ 4000 * 255 := Nat.mul_le_mul hl h3
          omega
        have HVM := Lib.hid (fun w5 => values_make ao l.length cap w5)
        have hb0 : Below w.heap.size w (w.alloc (.cells #[.slice ao l.length cap] 82)) := (Below.refl _ w).alloc (Nat.le_refl _) _
        have HSO := Lib.hid (sorted_any (w.alloc (.cells #[.slice ao l.length cap] 82)) hl (World.alloc_heap_new w _) (HV.out.below hb0))
        have HB0 := Lib.hid hb0
        have HNT := Lib.hid (fun w5 => new_table (W : Int) (K : Int) (catW (sortW l)) w5 hcl)
        clear hall hlt hk HK
        go_wp2_with (first
          | (go_at_call 153; refine (HVM.out _).mono ?_; rintro e w1 ⟨rfl, rfl⟩)
          | (go_at_call 152; (with_reducible refine HSO.out.mono ?_); rintro e w1 ⟨u, rfl, hu⟩; have HU := Lib.hid hu; have HJ := Lib.hid (join_own w1 (by rw [sortW_len]; exact hl) (by rw [sortW_len]; exact hu.1) hcl); obtain ⟨ao2, cap2, hsl⟩ := (RowW.of_own (by rw [sortW_len]; exact hu.1 : w1.ownsRow _ 9 1 u (sortW l).length (strsW (sortW l)))).slice; subst hsl; clear hu)
          | (go_at_call 107; (with_reducible refine HJ.out.mono ?_); rintro e w2 ⟨rfl, hb2⟩; have HB2 := Lib.hid hb2; clear hb2)
          | (go_at_call 151; (with_reducible refine (HNT.out _).mono ?_); rintro e w3 ⟨t, u, rfl, hu⟩; have HN := Lib.hid hu; clear hu))
        go_ret2
        refine ⟨_, _, rfl, by rw [HE.out, HO.out]; exact HN.out.1, ?_⟩
        have b1 := HB0.out.trans (HU.out.2.mono HB0.out.size)
        have b2 := b1.trans (HB2.out.mono b1.size)
        exact b2.trans (HN.out.2.mono b2.size)
end Go.Proofs.YtlpjdknmnomdlaaGreatDoor
