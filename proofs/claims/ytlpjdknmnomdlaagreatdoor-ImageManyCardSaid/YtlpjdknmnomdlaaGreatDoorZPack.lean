/-
  Package image: the places of texts, texts packed, and the closures that make rows of things.
-/
import Derived.Test.YtlpjdknmnomdlaaGreatDoorZRight
import Derived.Test.YtlpjdknmnomdlaaGreatDoorCPut
import Derived.Test.YtlpjdknmnomdlaaGreatDoorYPack
import Derived.Test.YtlpjdknmnomdlaaGreatDoorBuild
import Derived.Test.YtlpjdknmnomdlaaGreatDoorShelf
import Derived.BigRegion
import Derived.Deep.RegionHeld3
namespace Go.Proofs.YtlpjdknmnomdlaaGreatDoor
open Go Go.RowKit

theorem lt_cellZ {W : World} {a : Addr} {v : Value} (h : W.cell? a = some v) : a.block < W.heap.size := World.block_lt_of_cell? _ _ h
/-- A row of places within one block. -/
def PtrsZ (W : World) (v : Value) (B : Nat) (os : List Nat) : Prop :=
  ∃ g, v = .slice (some ⟨g, 0, none⟩) os.length os.length ∧ ∀ i o, os[i]? = some o → W.cell? ⟨g, i, none⟩ = some (.pointer (some ⟨B, o, none⟩))
theorem PtrsZ.below {W W' : World} {v : Value} {B : Nat} {os : List Nat} (h : PtrsZ W v B os) (hb : Below W.heap.size W W') : PtrsZ W' v B os := by
  obtain ⟨g, rfl, hc⟩ := h
  exact ⟨g, rfl, fun i o ho => (hb.cell (p := ⟨g, i, none⟩) (lt_cellZ (hc i o ho))).trans (hc i o ho)⟩
theorem ptrs_block {W : World} {g B : Nat} {os : List Nat} {t : TypeId} (h : W.heap[g]? = some (.cells (os.map fun o => Value.pointer (some ⟨B, o, none⟩)).toArray t (0, 0))) : PtrsZ W (.slice (some ⟨g, 0, none⟩) os.length os.length) B os :=
  ⟨g, rfl, fun i o ho => by simp [World.cell?, h, ho]⟩

set_option maxRecDepth 100000 in
set_option maxHeartbeats 4000000 in
theorem likelyTexts_any (B : Nat) (w : World) :
    Calls Tryz.prog 27 #[.pointer (some ⟨B, 0, none⟩)] w fun e w' => ∃ v, e = .returned v ∧ PtrsZ w' v B [0, 1, 2, 3, 4, 5] ∧ Below w.heap.size w w' := by
  go_enter Tryz.func27, Tryz.ntmps27
  go_wp2
  go_region
  go_wp2
  go_ret
  first
  | exact ⟨_, rfl, ptrs_block (os := [0, 1, 2, 3, 4, 5]) (World.alloc_heap_new w.drew _), (Below.drew (Below.refl _ w)).alloc (Nat.le_refl _) _⟩
  | exact ⟨_, rfl, ptrs_block (os := [0, 1, 2, 3, 4, 5]) (World.alloc_heap_new w _), Below.drew ((Below.refl _ w).alloc (Nat.le_refl _) _)⟩
set_option maxRecDepth 100000 in
set_option maxHeartbeats 4000000 in
theorem memberTexts_any (B : Nat) (w : World) :
    Calls Tryz.prog 105 #[.pointer (some ⟨B, 0, none⟩)] w fun e w' => ∃ v, e = .returned v ∧ PtrsZ w' v B [0, 1] ∧ Below w.heap.size w w' := by
  go_enter Tryz.func105, Tryz.ntmps105
  go_wp2
  go_region
  go_wp2
  go_ret
  first
  | exact ⟨_, rfl, ptrs_block (os := [0, 1]) (World.alloc_heap_new w.drew _), (Below.drew (Below.refl _ w)).alloc (Nat.le_refl _) _⟩
  | exact ⟨_, rfl, ptrs_block (os := [0, 1]) (World.alloc_heap_new w _), Below.drew ((Below.refl _ w).alloc (Nat.le_refl _) _)⟩
set_option maxRecDepth 100000 in
set_option maxHeartbeats 8000000 in
theorem ruleTexts_any (B : Nat) (w : World) :
    Calls Tryz.prog 102 #[.pointer (some ⟨B, 0, none⟩)] w fun e w' => ∃ v, e = .returned v ∧ PtrsZ w' v B [3, 4, 5, 6, 7, 8] ∧ Below w.heap.size w w' := by
  go_enter Tryz.func102, Tryz.ntmps102
  go_wp2
  go_region
  go_wp2
  go_ret
  first
  | exact ⟨_, rfl, ptrs_block (os := [3, 4, 5, 6, 7, 8]) (World.alloc_heap_new w.drew _), (Below.drew (Below.refl _ w)).alloc (Nat.le_refl _) _⟩
  | exact ⟨_, rfl, ptrs_block (os := [3, 4, 5, 6, 7, 8]) (World.alloc_heap_new w _), Below.drew ((Below.refl _ w).alloc (Nat.le_refl _) _)⟩

/-! A builder's bytes. -/
theorem builder_ownZ {b B : Nat} {bs : List Value} {X Y : World} (h : Lib.IsBuilderF 190 5 B b bs X) (hg : X.grownBy Y none) : Lib.IsBuilderF 190 5 B b bs Y := by
  have one : ∀ p, Lib.BuilderAtF 190 5 B b p bs X → Lib.BuilderAtF 190 5 B b p bs Y := by
    rintro p ⟨hB, v, hb, hown, hne⟩
    refine ⟨hB, v, (hg.block b (Array.getElem?_eq_some_iff.1 hb).1 (fun e => by cases e)).trans hb, hown.kept hg ?_, hne⟩
    rcases hown.2 with ⟨rfl, _⟩ | ⟨g, cap, cur, fz, rfl, _, hgb, _⟩
    · exact .inl rfl
    · exact .inr (fun e => by cases e)
  rcases h with h | h
  · exact .inl (one _ h)
  · exact .inr (one _ h)
def BdZ (w : World) (l : List UInt8) (W : World) : Prop := Lib.IsBuilderF 190 5 w.heap.size w.heap.size (Lib.byteCells l) W ∧ Below w.heap.size w W
theorem BdZ.calm {w W W' : World} {l : List UInt8} (h : BdZ w l W) (hb : Below W.heap.size W W') : BdZ w l W' := ⟨builder_ownZ h.1 (grown_of_below hb), h.2.trans (hb.mono h.2.size)⟩
theorem BdZ.write {w W : World} {l : List UInt8} (h : BdZ w l W) (t : ByteArray) (hl : l.length ≤ 1000) (ht : t.size ≤ 1000) :
    Calls Tryz.prog 147 #[.pointer (some ⟨w.heap.size, 0, none⟩), .string t] W fun e W' => e = .returned (.tuple #[.int .i64 t.size, .nilIface]) ∧ BdZ w (l ++ bs t) W' := by
  have hs := h.2.size
  refine (builder_WriteString w.heap.size w.heap.size (Lib.byteCells l) t W h.1 (by rw [Lib.byteCells_length]; omega) hs).mono ?_
  rintro e W' ⟨rfl, h1, hb, -⟩
  have e1 : Lib.byteCells (l ++ bs t) = Lib.byteCells l ++ Lib.strCells t := by simp [Lib.byteCells, Lib.strCells, bs]
  exact ⟨rfl, .inr (by rw [e1]; exact h1), h.2.trans hb⟩
theorem BdZ.text {w W : World} {l : List UInt8} (h : BdZ w l W) :
    Calls Tryz.prog 148 #[.pointer (some ⟨w.heap.size, 0, none⟩)] W fun e W' => e = .returned (.string (ofL l)) ∧ Below w.heap.size w W' := by
  refine (Tryz.Builder_String_any_k w.heap.size w.heap.size l W h.1 h.2.size).mono ?_
  rintro e W' ⟨rfl, -, hb, -⟩
  exact ⟨rfl, h.2.trans hb⟩
theorem BdZ.start (w : World) : BdZ w [] (w.alloc (.cells #[.pointer none, .slice none 0 0] 190)) :=
  ⟨.inl ⟨Nat.le_refl _, .slice none 0 0, World.alloc_heap_new _ _, World.ownsRowF_nil _ _ _ _, by simp [Value.ownBlock]⟩, (Below.refl _ w).alloc (Nat.le_refl _) _⟩

set_option maxRecDepth 100000 in
set_option maxHeartbeats 4000000 in
theorem packedZ_any (v : Value) (B : Nat) (os : List Nat) (ts : List ByteArray) (w : World) (hp : PtrsZ w v B os) (hl : ts.length = os.length)
    (ht : ∀ (i o : Nat) (t : ByteArray), os[i]? = some o → ts[i]? = some t → w.cell? ⟨B, o, none⟩ = some (.string t)) (hz : ∀ t ∈ ts, t.size ≤ 1000) (h6 : ts.length ≤ 6) :
    Calls Tryz.prog 97 #[v] w fun e w' => e = .returned (.string (ofL (packL ts))) ∧ Below w.heap.size w w' := by
  obtain ⟨g, rfl, hg⟩ := hp
  obtain ⟨n, hn⟩ : ∃ n, ts.length = n := ⟨_, rfl⟩
  rw [← hl, hn]
  have HG := Lib.hid (fun k o (ho : os[k]? = some o) w' (h : Below w.heap.size w w') => (h.cell (p := ⟨g, k, none⟩) (lt_cellZ (hg k o ho))).trans (hg k o ho))
  have HT := Lib.hid (fun k o t (ho : os[k]? = some o) (hk : ts[k]? = some t) w' (h : Below w.heap.size w w') => (h.cell (p := ⟨B, o, none⟩) (lt_cellZ (ht k o t ho hk))).trans (ht k o t ho hk))
  have HZ := Lib.hid hz
  have HO := Lib.hid (fun k (hk : k < n) => show ∃ o, os[k]? = some o from ⟨_, List.getElem?_eq_getElem (by omega)⟩)
  have HX := Lib.hid (fun k (hk : k < n) => show ∃ t, ts[k]? = some t from ⟨_, List.getElem?_eq_getElem (by omega)⟩)
  have HN := Lib.hid hn
  have HS := BdZ.start w
  have hn6 : n ≤ 6 := by omega
  clear hg ht hz hl hn h6
  go_enter Tryz.func97, Tryz.ntmps97
  go_upto_region 2 with fail
  generalize w.alloc (.cells #[.pointer none, .slice none 0 0] 190) = W1 at *
  go_wp2_with fail
  go_loopw [5, 6, 7, 10] (fun _ _ _ i wr => ∃ k : Nat, k ≤ n ∧ i = .int .i64 (k : Int) ∧ BdZ w (packL (ts.take k)) wr) (fun _ _ _ i _ => n - (intOf i).toNat)
  case atStart => exact ⟨0, Nat.zero_le _, rfl, HS⟩
  case round =>
    obtain ⟨k, hk, rfl, hR⟩ := hrel
    clear HS
    by_cases hlt : k < n
    · have hlt' : (k : Int) < (n : Int) := by omega
      have hk0 : (0 : Int) ≤ (k : Int) := by omega
      obtain ⟨o, ho⟩ := HO.out k hlt
      obtain ⟨t, htk⟩ := HX.out k hlt
      have c1 := HG.out k o ho wr hR.2
      have c2 := HT.out k o t ho htk wr hR.2
      have hzt := HZ.out t (List.mem_of_getElem? htk)
      have HPK := Lib.hid (fun w' => pack_any t w' (by omega))
      have H8 := Lib.hid (fun w' => put8 (packN t) w')
      have hlen : (packL (ts.take k)).length ≤ 1000 := by rw [length_packL, List.length_take]; omega
      have HNX := Lib.hid (show packL (ts.take k) ++ bs (ofL (putL (packN t) 8)) = packL (ts.take (k + 1)) by rw [packL_take htk, bs_ofL]; rfl)
      have hs8 : (ofL (putL (packN t) 8)).size ≤ 1000 := by rw [size_ofL, length_putL]; omega
      have HR := Lib.hid hR
      clear ho htk hR
      generalize packT (lowS t) = okb at *
      generalize packL (ts.take k) = L at *
      generalize ofL (putL (packN t) 8) = s8 at *
      generalize packN t = pn at *
      go_wp2_with (first
        | (go_at_call 146; (with_reducible refine (HPK.out _).mono ?_); rintro e w5 ⟨rfl, hb5⟩)
        | (go_at_call 106; (with_reducible refine (H8.out _).mono ?_); rintro e w6 ⟨rfl, hb6⟩; have HR6 := Lib.hid ((HR.out.calm hb5).calm hb6))
        | (go_at_call 147; (with_reducible refine (HR6.out.write s8 hlen hs8).mono ?_); rintro e w7 ⟨rfl, hb7⟩))
      go_roundw
      case rel => exact ⟨k + 1, by omega, by go_num, by rw [← HNX.out]; exact hb7⟩
      case measure => simp [intOf]; omega
    · obtain rfl : k = n := by omega
      have HTX := Lib.hid hR.text
      have HE := Lib.hid (show packL (ts.take k) = packL ts by rw [List.take_of_length_le (by rw [HN.out]; omega)])
      clear hR
      generalize packL (ts.take k) = L at *
      go_wp2_with (go_at_call 148; (with_reducible refine HTX.out.mono ?_); rintro e w7 ⟨rfl, hb7⟩)
      go_ret
      exact ⟨by rw [← HE.out]; rfl, hb7⟩

/-! Numbers of one byte. -/
theorem smallZ_any (n : Int) (w : World) : Calls Tryz.prog 100 #[.int .i64 n] w fun e w' => e = .returned (.string (byteZ n)) ∧ Below w.heap.size w w' := by
  have hw := u64N_cast n
  have HB := Lib.hid (show byteZ n = ofL (putL (u64N n) 1) from rfl)
  generalize u64N n = m at *
  have HP := Lib.hid (fun w' => put1 m w')
  go_enter Tryz.func100, Tryz.ntmps100
  go_wp2_with (go_at_call 106; (with_reducible refine (HP.out _).mono ?_); rintro e w5 ⟨rfl, hb5⟩)
  go_ret
  exact ⟨by rw [HB.out]; rfl, hb5⟩
theorem bitZ_any (b : Bool) (w : World) : Calls Tryz.prog 101 #[.bool b] w fun e w' => e = .returned (.int .i64 (bitN b : Int)) ∧ w = w' := by
  cases b
  · go_enter Tryz.func101, Tryz.ntmps101
    go_wp2
    go_ret
    exact ⟨rfl, rfl⟩
  · go_enter Tryz.func101, Tryz.ntmps101
    go_wp2
    go_ret
    exact ⟨rfl, rfl⟩
end Go.Proofs.YtlpjdknmnomdlaaGreatDoor
