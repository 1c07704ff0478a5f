/-
  What is read of an image's own bytes: as many things, all of which were there (plain mathematics).
-/
import Derived.Test.YtbafmnafhaoggaaGreatDoorODDec
import Derived.Test.YtbafmnafhaoggaaGreatDoorZPermI
namespace Go.Proofs.YtbafmnafhaoggaaGreatDoor
open Go Go.RowKit

/-! Pieces of texts. -/
theorem bs_app (a b : ByteArray) : bs (a ++ b) = bs a ++ bs b := by simp [bs, ByteArray.data_append]
theorem ck_mid (A C Z : ByteArray) (p n q : Nat) (hp : p = A.size + q) (h : q + n ≤ C.size) : ck (A ++ C ++ Z) p n = ck C q n := by
  apply ofL_ext
  rw [bs_ck, bs_ck, bs_app, bs_app]
  have hA : (bs A).length = A.size := rfl
  have hC : (bs C).length = C.size := rfl
  apply List.ext_getElem?
  intro i
  rw [List.getElem?_take, List.getElem?_take]
  by_cases hi : i < n
  · rw [if_pos hi, if_pos hi, List.getElem?_drop, List.getElem?_drop, List.append_assoc, List.getElem?_append_right (by rw [hA]; omega), List.getElem?_append_left (by rw [hC, hA]; omega)]
    congr 1
    rw [hA]; omega
  · rw [if_neg hi, if_neg hi]
theorem ck_ck (b : ByteArray) (p W q n : Nat) (h : q + n ≤ W) : ck (ck b p W) q n = ck b (p + q) n := by
  apply ofL_ext
  rw [bs_ck, bs_ck, bs_ck]
  apply List.ext_getElem?
  intro i
  rw [List.getElem?_take, List.getElem?_take]
  by_cases hi : i < n
  · rw [if_pos hi, if_pos hi, List.getElem?_drop, List.getElem?_drop, List.getElem?_take, if_pos (by omega), List.getElem?_drop]
    congr 1
    omega
  · rw [if_neg hi, if_neg hi]
theorem ck_all (C : ByteArray) (n : Nat) (h : C.size = n) : ck C 0 n = C := by
  apply ofL_ext
  rw [bs_ck, List.drop_zero, List.take_of_length_le]
  rw [size_bs]; omega
theorem ck_row {W : Nat} {l : List ByteArray} (hW : 0 < W) (hs : ∀ x ∈ l, x.size = W) {i : Nat} {r : ByteArray} (hi : l[i]? = some r) : ck (catW l) (W * i) W = r := by
  obtain ⟨h1, h2⟩ := rowsW_get (s := catW l) (W := W) (i := i) (r := r) (by rw [rows_cat hW hs]; exact hi)
  rw [h2]
  unfold rowW ck
  rw [Nat.succ_mul, Nat.mul_comm]
theorem rows_of {β : Type} (D : ByteArray → Nat → β) {W : Nat} (hW : 0 < W) (hD : ∀ b p, D b p = D (ck b p W) 0) {t A Z : ByteArray} {l : List ByteArray} {p : Nat} (h : t = A ++ catW l ++ Z) (hp : p = A.size) (hs : ∀ x ∈ l, x.size = W) :
    (List.range l.length).map (fun i => D t (p + W * i)) = l.map fun r => D r 0 := by
  apply List.ext_getElem?
  intro i
  rw [List.getElem?_map, List.getElem?_map]
  by_cases hi : i < l.length
  · have hr : l[i]? = some l[i] := List.getElem?_eq_getElem hi
    rw [List.getElem?_range hi, hr]
    show some (D t (p + W * i)) = some (D l[i] 0)
    have hsz := cat_size hs
    have hle : W * i + W ≤ (catW l).size := by
      rw [hsz, show W * i + W = (i + 1) * W by rw [Nat.succ_mul, Nat.mul_comm]]
      exact Nat.mul_le_mul_right _ hi
    rw [hD t, h, ck_mid A (catW l) Z (p + W * i) W (W * i) (by rw [hp]) hle, ck_row hW hs hr]
  · rw [List.getElem?_eq_none (by rw [List.length_range]; omega), List.getElem?_eq_none (by omega)]
    rfl
theorem txD_ck (b : ByteArray) (p W q k : Nat) (h : q + 8 * k + 8 ≤ W) : txD (ck b p W) q k = txD b (p + q) k := by
  unfold txD
  rw [ck_ck _ _ _ _ _ (by omega), Nat.add_assoc]
theorem nb_ck (b : ByteArray) (p W q n : Nat) (h : q + n ≤ W) : nb (ck b p W) q n = nb b (p + q) n := by
  unfold nb
  rw [ck_ck _ _ _ _ _ h]
theorem lkD_ck (b : ByteArray) (p : Nat) : lkD b p = lkD (ck b p 48) 0 := by
  unfold lkD
  rw [txD_ck _ _ _ _ _ (by decide), txD_ck _ _ _ _ _ (by decide), txD_ck _ _ _ _ _ (by decide), txD_ck _ _ _ _ _ (by decide), txD_ck _ _ _ _ _ (by decide), txD_ck _ _ _ _ _ (by decide)]
  rfl
theorem mbD_ck (b : ByteArray) (p : Nat) : mbD b p = mbD (ck b p 16) 0 := by
  unfold mbD
  rw [txD_ck _ _ _ _ _ (by decide), txD_ck _ _ _ _ _ (by decide)]
  rfl
theorem rlD_ck (b : ByteArray) (p : Nat) : rlD b p = rlD (ck b p 51) 0 := by
  unfold rlD
  rw [nb_ck _ _ _ _ _ (by decide), nb_ck _ _ _ _ _ (by decide), nb_ck _ _ _ _ _ (by decide), txD_ck _ _ _ _ _ (by decide), txD_ck _ _ _ _ _ (by decide), txD_ck _ _ _ _ _ (by decide), txD_ck _ _ _ _ _ (by decide), txD_ck _ _ _ _ _ (by decide), txD_ck _ _ _ _ _ (by decide)]
  rfl
theorem alD_ck (b : ByteArray) (p : Nat) : alD b p = alD (ck b p 41) 0 := by
  unfold alD
  rw [ck_ck _ _ _ _ _ (by decide)]
  rfl

/-! Texts and bytes of rows. -/
def PkT (t : ByteArray) : Prop := packT t = true ∧ lowS t = t
theorem tx_pack {ts : List ByteArray} {k : Nat} {t : ByteArray} (hk : ts[k]? = some t) (h : PkT t) (A : ByteArray) (q : Nat) (hq : q = A.size) : txD (A ++ ofL (packL ts)) q k = t := by
  have hl : k < ts.length := (List.getElem?_eq_some_iff.1 hk).1
  have e : packL ts = packL (ts.take k) ++ put8L t ++ packL (ts.drop (k + 1)) := by
    rw [← packL_take hk]
    unfold packL
    rw [← List.flatMap_append, List.take_append_drop]
  have e2 : A ++ ofL (packL ts) = (A ++ ofL (packL (ts.take k))) ++ ofL (put8L t) ++ ofL (packL (ts.drop (k + 1))) := by
    apply ofL_ext
    rw [bs_app, bs_app, bs_app, bs_app, bs_ofL, bs_ofL, bs_ofL, bs_ofL, e]
    simp only [List.append_assoc]
  have h8 : (ofL (put8L t)).size = 8 := by rw [size_ofL, length_put8]
  unfold txD
  rw [e2, ck_mid _ _ _ (q + 8 * k) 8 0 (by rw [ByteArray.size_append, size_ofL, length_packL, List.length_take, hq]; omega) (by rw [h8]; decide), ck_all _ _ h8, getN_in (by rw [h8]; decide)]
  rw [List.drop_zero, bs_ofL]
  have : num 8 (put8L t) = packN t := by
    unfold put8L
    rw [num_putL, Nat.mod_eq_of_lt (packN_lt t)]
  rw [this, (unT_packN h).1]
theorem nb_put (A Z : ByteArray) (m n p : Nat) (hm : m < 256 ^ n) (hp : p = A.size) : nb (A ++ ofL (putL m n) ++ Z) p n = m := by
  have h8 : (ofL (putL m n)).size = n := by rw [size_ofL, length_putL]
  unfold nb
  rw [ck_mid _ _ _ p n 0 (by omega) (by rw [h8]; omega), ck_all _ _ h8, getN_in (by rw [h8]; omega), List.drop_zero, bs_ofL, num_putL, Nat.mod_eq_of_lt hm]
theorem u64N_small (n : Int) (h0 : 0 ≤ n) (h : n ≤ 255) : u64N n = n.toNat := by
  unfold u64N
  have : IntKind.u64.wrap n = n := by
    show n % (2 ^ 64 : Int) = n
    exact Int.emod_eq_of_lt h0 (by omega)
  rw [this]
theorem nb_byte (A Z : ByteArray) (n : Int) (p : Nat) (h0 : 0 ≤ n) (h : n ≤ 255) (hp : p = A.size) : nb (A ++ byteZ n ++ Z) p 1 = n.toNat := by
  unfold byteZ
  rw [nb_put A Z _ 1 p (by rw [u64N_small n h0 h]; omega) hp, u64N_small n h0 h]

theorem pk_fine {p : ByteArray → Bool} (hp : Fine p) {s : ByteArray} (h : p s = true) (hs : smallS s = true) : PkT s := pack_fine hp (by rw [h, hs]; rfl)
theorem pk_empty : PkT ⟨#[]⟩ := ⟨by decide, by decide⟩
theorem fine_name : Fine fun s => decide (s.size ≤ 7) && alnumS s := fun s h => by
  rw [Bool.and_eq_true, decide_eq_true_iff] at h
  exact ⟨by omega, fine_has h.2⟩
theorem pk_name {s : ByteArray} (h : nameS s = true) : PkT s := by
  unfold nameS at h
  rw [Bool.and_eq_true, Bool.and_eq_true] at h
  exact pk_fine fine_name (by rw [h.1, h.2.1]; rfl) h.2.2
theorem pk_star : PkT STAR := ⟨by decide +kernel, by decide +kernel⟩
theorem lkD_row {x : Lk} (h : rightLk x = true) : lkD (rowLk x) 0 = x := by
  unfold rightLk at h
  simp only [Bool.and_eq_true, lkT, List.all_cons, List.all_nil] at h
  obtain ⟨⟨s1, s2, s3, s4, s5, s6, -⟩, r1, r2, r3, r4, -, r5, r6⟩ := h
  have e : rowLk x = ByteArray.empty ++ ofL (packL (lkT x)) := by unfold rowLk; exact (ByteArray.empty_append).symm
  unfold lkD
  rw [e, tx_pack (ts := lkT x) (k := 0) rfl (pk_fine fine_language r1 s1) _ 0 rfl, tx_pack (ts := lkT x) (k := 1) rfl (pk_fine (fine_maybe fine_script) r2 s2) _ 0 rfl, tx_pack (ts := lkT x) (k := 2) rfl (pk_fine (fine_maybe fine_region) r3 s3) _ 0 rfl,
    tx_pack (ts := lkT x) (k := 3) rfl (pk_fine fine_language r4 s4) _ 0 rfl, tx_pack (ts := lkT x) (k := 4) rfl (pk_fine fine_script r5 s5) _ 0 rfl, tx_pack (ts := lkT x) (k := 5) rfl (pk_fine fine_region r6 s6) _ 0 rfl]
theorem mbD_row {x : Mb} (h : rightMb x = true) : mbD (rowMb x) 0 = x := by
  unfold rightMb at h
  simp only [Bool.and_eq_true] at h
  obtain ⟨r1, r2, s2⟩ := h
  have e : rowMb x = ByteArray.empty ++ ofL (packL (mbT x)) := by unfold rowMb; exact (ByteArray.empty_append).symm
  unfold mbD
  rw [e, tx_pack (ts := mbT x) (k := 0) rfl (pk_name r1) _ 0 rfl, tx_pack (ts := mbT x) (k := 1) rfl (pk_fine fine_region r2 s2) _ 0 rfl]
theorem mark_P : ∀ c : UInt8, (c.toNat = 36 ∨ c.toNat = 33) → isP c = true := byte_all _ (by decide +kernel)
theorem pk_mark {s q : ByteArray} {c0 : UInt8} (hb : bs s = c0 :: bs q) (hm : c0.toNat = 36 ∨ c0.toNat = 33) (h : q.size ≤ 7 ∧ alnumS q = true ∧ smallS q = true) (hlow : lowS s = s) : PkT s := by
  have hsz : s.size = q.size + 1 := by rw [← size_bs, hb, ← size_bs q]; rfl
  have hx := pk_fine fine_name (s := q) (by rw [decide_eq_true h.1, h.2.1]; rfl) h.2.2
  have hp := ((packT_iff q).1 hx.1).2
  refine ⟨(packT_iff s).2 ⟨by omega, ?_⟩, hlow⟩
  intro c hc
  rw [hb] at hc
  rcases List.mem_cons.1 hc with h1 | h1
  · rw [h1]; exact mark_P _ hm
  · exact hp c h1
theorem pk_place {s : ByteArray} (h : placeS s = true) (hs : smallS s = true) : PkT s := by
  unfold placeS at h
  by_cases hm : markS s = true
  · rw [if_pos hm] at h
    unfold nameS at h
    rw [Bool.and_eq_true, Bool.and_eq_true, decide_eq_true_iff] at h
    have hlow := (smallS_iff s).1 hs
    unfold markS at hm
    split at hm
    · rename_i h0
      rw [Bool.or_eq_true, decide_eq_true_iff, decide_eq_true_iff] at hm
      have hb : bs s = s[0] :: bs (s.extract 1 s.size) := by
        rw [bs_extract]
        have hl : (bs s).length = s.size := rfl
        have h1 : (bs s)[0]? = some s[0] := by
          rw [List.getElem?_eq_getElem (by omega)]; rfl
        rw [List.take_of_length_le (by rw [List.length_drop, hl]; exact Nat.le_refl _)]
        cases hbs : bs s with
        | nil => rw [hbs] at hl; simp at hl; omega
        | cons c r =>
          rw [hbs] at h1
          simp at h1
          rw [h1]; rfl
      exact pk_mark hb hm h hlow
    · cases hm
  · rw [if_neg hm] at h
    exact pk_fine fine_region h hs
theorem pk_side {lv : Int} {k : Nat} {s : ByteArray} (h : sideOne lv k s = true) : PkT s := by
  unfold sideOne at h
  split at h
  · rw [size_zero (of_decide_eq_true h)]; exact pk_empty
  · rw [Bool.or_eq_true, decide_eq_true_iff, Bool.and_eq_true] at h
    rcases h with rfl | ⟨h1, h2⟩
    · exact pk_star
    · rcases k with _ | _ | k
      · exact pk_fine fine_language h1 h2
      · exact pk_fine fine_script h1 h2
      · exact pk_place h1 h2
theorem rlD_row {x : Rl} (h : rightRl x = true) : rlD (rowRl x) 0 = x := by
  unfold rightRl sideS at h
  simp only [Bool.and_eq_true, decide_eq_true_iff] at h
  obtain ⟨l1, l2, c1, c2, ⟨d0, d1, d2⟩, s0, s1, s2⟩ := h
  have b1 := size_byteZ x.lv
  have b2 := size_byteZ x.co
  have b3 := size_byteZ (bitN x.ow : Int)
  have e1 : nb (rowRl x) 0 1 = x.lv.toNat := by
    unfold rowRl
    rw [ByteArray.append_assoc, ByteArray.append_assoc, ← ByteArray.empty_append (b := byteZ x.lv)]
    exact nb_byte ByteArray.empty _ x.lv 0 (by omega) (by omega) rfl
  have e2 : nb (rowRl x) 1 1 = x.co.toNat := by
    unfold rowRl
    rw [ByteArray.append_assoc]
    exact nb_byte (byteZ x.lv) _ x.co 1 (by omega) (by omega) b1.symm
  have e3 : nb (rowRl x) 2 1 = bitN x.ow := by
    unfold rowRl
    rw [nb_byte (byteZ x.lv ++ byteZ x.co) _ (bitN x.ow : Int) 2 (by omega) (by unfold bitN; split <;> decide) (by rw [ByteArray.size_append, b1, b2])]
    rfl
  have hA : 3 = (byteZ x.lv ++ byteZ x.co ++ byteZ (bitN x.ow : Int)).size := by rw [ByteArray.size_append, ByteArray.size_append, b1, b2, b3]
  have ht : ∀ k t, (rlT x)[k]? = some t → PkT t → txD (rowRl x) 3 k = t := fun k t hk hp => by
    unfold rowRl
    exact tx_pack hk hp _ 3 hA
  unfold rlD
  rw [e1, e2, e3, ht 0 _ rfl (pk_side d0), ht 1 _ rfl (pk_side d1), ht 2 _ rfl (pk_side d2), ht 3 _ rfl (pk_side s0), ht 4 _ rfl (pk_side s1), ht 5 _ rfl (pk_side s2)]
  rw [Int.toNat_of_nonneg (by omega), Int.toNat_of_nonneg (by omega)]
  have hw : decide (bitN x.ow = 1) = x.ow := by cases x.ow <;> rfl
  rw [hw]
theorem alD_row {x : Al} (h : rightA x = true) : alD (rowB x) 0 = x := by
  unfold alD
  rw [ck_all _ _ (size_rowB x)]
  unfold decV
  rw [(dec_right h).2, if_pos rfl, (dec_right h).1]
theorem badL_all {α : Type} {p : α → Bool} {l : List α} (h : badL p l = none) : ∀ x ∈ l, p x = true := by
  intro x hx
  have := List.findIdx?_eq_none_iff.1 h x hx
  simpa using this

/-! The bytes of an image. -/
theorem back_head {im : Im} (hm : manyB im = false) (ha : argB im = false) :
    cU (outN im 4) 0 = cntN im 0 ∧ cU (outN im 4) 1 = cntN im 1 ∧ cU (outN im 4) 2 = cntN im 2 ∧ cU (outN im 4) 3 = cntN im 3 ∧ ((nb (outN im 4) 12 1 : Nat) : Int) = im.th ∧ ((nb (outN im 4) 13 1 : Nat) : Int) = im.de := by
  unfold manyB at hm
  unfold argB at ha
  have hm' := of_decide_eq_false hm
  have ha' := of_decide_eq_false ha
  have e : outN im 4 = headUp im 4 ++ byteZ im.th ++ (byteZ im.de ++ (partB im 0 ++ (partB im 1 ++ (partB im 2 ++ partB im 3)))) := by
    show headUp im 4 ++ byteZ im.th ++ byteZ im.de ++ partB im 0 ++ partB im 1 ++ partB im 2 ++ partB im 3 = _
    simp only [ByteArray.append_assoc]
  have e2 : outN im 4 = (headUp im 4 ++ byteZ im.th) ++ byteZ im.de ++ (partB im 0 ++ (partB im 1 ++ (partB im 2 ++ partB im 3))) := by
    rw [e]; simp only [ByteArray.append_assoc]
  have hj : ∀ j, cntN im j ≤ 4000 → ∀ Z, outN im 4 = headUp im j ++ ofL (putL (cntN im j) 2) ++ Z → cU (outN im 4) j = cntN im j := fun j hc Z h => by
    unfold cU
    rw [h]
    exact nb_put _ _ _ 2 _ (by omega) (by rw [headUp_size])
  have hup : ∀ j, headUp im (j + 1) = headUp im j ++ ofL (putL (cntN im j) 2) := fun j => rfl
  refine ⟨hj 0 (by omega) _ (by rw [e, hup 3, hup 2, hup 1, hup 0]; simp only [ByteArray.append_assoc]; rfl), hj 1 (by omega) _ (by rw [e, hup 3, hup 2, hup 1]; simp only [ByteArray.append_assoc]; rfl), hj 2 (by omega) _ (by rw [e, hup 3, hup 2]; simp only [ByteArray.append_assoc]; rfl), hj 3 (by omega) _ (by rw [e, hup 3]; simp only [ByteArray.append_assoc]; rfl), ?_, ?_⟩
  · rw [e, nb_byte _ _ im.th 12 (by omega) (by omega) (by rw [headUp_size])]
    omega
  · rw [e2, nb_byte _ _ im.de 13 (by omega) (by omega) (by rw [ByteArray.size_append, headUp_size, size_byteZ])]
    omega
theorem perm_map_inv {α : Type} {f : α → ByteArray} {g : ByteArray → α} {l : List α} (h : ∀ x ∈ l, g (f x) = x) : ((sortW (l.map f)).map g).Perm l := by
  have h1 : ((sortW (l.map f)).map g).Perm ((l.map f).map g) := (sortW_perm _).map _
  have h2 : (l.map f).map g = l := by
    rw [List.map_map]
    exact (List.map_congr_left h).trans (List.map_id _)
  rw [h2] at h1
  exact h1
theorem back_perm {im : Im} (h : encE im = none) : PermI (unpI (encB im)) im ∧ (unpI (encB im)).rls = im.rls := by
  obtain ⟨hm, ha, hb, -⟩ := (encE_noneZ im).1 h
  have hB : encB im = outN im 4 := by unfold encB; rw [h]; rfl
  obtain ⟨c0, c1, c2, c3, ht, hd⟩ := back_head hm ha
  have hsz := outN_size im
  have e : outN im 4 = headB im ++ partB im 0 ++ partB im 1 ++ partB im 2 ++ partB im 3 := rfl
  have hh := headB_size im
  have z0 := partB_size im 0
  have z1 := partB_size im 1
  have z2 := partB_size im 2
  have hw : wdR 0 = 41 ∧ wdR 1 = 48 ∧ wdR 2 = 51 := ⟨rfl, rfl, rfl⟩
  rw [hw.1] at z0
  rw [hw.2.1] at z1
  rw [hw.2.2] at z2
  have s0 : ∀ x ∈ sortW (rowsN im 0), x.size = 41 := sortW_size (rowsN_size im 0)
  have s1 : ∀ x ∈ sortW (rowsN im 1), x.size = 48 := sortW_size (rowsN_size im 1)
  have s2 : ∀ x ∈ rowsN im 2, x.size = 51 := rowsN_size im 2
  have s3 : ∀ x ∈ sortW (rowsN im 3), x.size = 16 := sortW_size (rowsN_size im 3)
  have r0 := rows_of alD (by decide) alD_ck (t := outN im 4) (A := headB im) (Z := partB im 1 ++ (partB im 2 ++ partB im 3)) (p := 14) (by rw [e]; simp only [ByteArray.append_assoc]; rfl) hh.symm s0
  have r1 := rows_of lkD (by decide) lkD_ck (t := outN im 4) (A := headB im ++ partB im 0) (Z := partB im 2 ++ partB im 3) (p := 14 + 41 * cntN im 0) (by rw [e]; simp only [ByteArray.append_assoc]; rfl) (by rw [ByteArray.size_append, hh, z0]; omega) s1
  have r2 := rows_of rlD (by decide) rlD_ck (t := outN im 4) (A := headB im ++ partB im 0 ++ partB im 1) (Z := partB im 3) (p := 14 + 41 * cntN im 0 + 48 * cntN im 1) (by rw [e]; simp only [ByteArray.append_assoc]; rfl) (by rw [ByteArray.size_append, ByteArray.size_append, hh, z0, z1]; omega) s2
  have r3 := rows_of mbD (by decide) mbD_ck (t := outN im 4) (A := headB im ++ partB im 0 ++ partB im 1 ++ partB im 2) (Z := ByteArray.empty) (p := 14 + 41 * cntN im 0 + 48 * cntN im 1 + 51 * cntN im 2) (by rw [e, ByteArray.append_empty]; rfl) (by rw [ByteArray.size_append, ByteArray.size_append, ByteArray.size_append, hh, z0, z1, z2]; omega) s3
  rw [sortW_len, rowsN_len] at r0 r1 r3
  rw [rowsN_len] at r2
  have hU := unpI_whole (outN im 4) (by rw [size_lf, hsz, c0, c1, c2, c3]; omega)
  rw [c0, c1, c2, c3, ht, hd] at hU
  have f0 : rowAD (outN im 4) 14 (cntN im 0) = (sortW (rowsN im 0)).map fun r => alD r 0 := r0
  have f1 : rowLD (outN im 4) (14 + 41 * cntN im 0) (cntN im 1) = (sortW (rowsN im 1)).map fun r => lkD r 0 := r1
  have f2 : rowRD (outN im 4) (14 + 41 * cntN im 0 + 48 * cntN im 1) (cntN im 2) = (rowsN im 2).map fun r => rlD r 0 := r2
  have f3 : rowMD (outN im 4) (14 + 41 * cntN im 0 + 48 * cntN im 1 + 51 * cntN im 2) (cntN im 3) = (sortW (rowsN im 3)).map fun r => mbD r 0 := r3
  rw [f0, f1, f2, f3] at hU
  have g2 : (rowsN im 2).map (fun r => rlD r 0) = im.rls := by
    show (im.rls.map rowRl).map _ = _
    rw [List.map_map]
    exact (List.map_congr_left fun x hx => rlD_row (badL_all (hb 2 (by decide)) x hx)).trans (List.map_id _)
  rw [g2] at hU
  rw [hB, hU]
  exact ⟨{ als := perm_map_inv (f := rowB) (g := fun r => alD r 0) fun x hx => alD_row (badL_all (hb 0 (by decide)) x hx), lks := perm_map_inv (f := rowLk) (g := fun r => lkD r 0) fun x hx => lkD_row (badL_all (hb 1 (by decide)) x hx), rls := rfl, mbs := perm_map_inv (f := rowMb) (g := fun r => mbD r 0) fun x hx => mbD_row (badL_all (hb 3 (by decide)) x hx), th := rfl, de := rfl }, rfl⟩
theorem back_ok {im : Im} (h : encE im = none) : decOk (encB im) :=
  ⟨(back_perm h).1.symm.none h, (back_perm h).1.bytes⟩
end Go.Proofs.YtbafmnafhaoggaaGreatDoor
