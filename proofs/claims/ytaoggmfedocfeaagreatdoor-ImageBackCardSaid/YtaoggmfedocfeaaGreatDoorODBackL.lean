/-
  ImageBack: what is decoded is encoded to the same bytes (XODMath and XODBackL merged).
-/
import Derived.Test.YtaoggmfedocfeaaGreatDoorODDec
import Derived.Test.YtaoggmfedocfeaaGreatDoorZPerm
import Derived.Test.YtaoggmfedocfeaaGreatDoorZManyLaw
import Derived.Test.YtaoggmfedocfeaaGreatDoorZRot
import Derived.Laws.StructEq
import Derived.ChangeKeysEq
import Derived.BigQuiet
import Derived.Deep.QuietTactic
import Derived.Test.YtaoggmfedocfeaaGreatDoorZSeed
namespace Go.Proofs.YtaoggmfedocfeaaGreatDoor
open Go Go.RowKit

/-! Pieces of texts. -/
theorem bs_app (a b : ByteArray) : bs (a ++ b) = bs a ++ bs b := by simp [bs, ByteArray.data_append]
theorem ck_mid (A C Z : ByteArray) (p n q : Nat) (hp : p = A.size + q) (h : q + n ≤ C.size) : ck (A ++ C ++ Z) p n = ck C q n := by
  apply ofL_ext
  rw [bs_ck, bs_ck, bs_app, bs_app]
  have hA : (bs A).length = A.size := rfl
  have hC : (bs C).length = C.size := rfl
  apply List.ext_getElem?
  intro i
  rw [List.getElem?_take, List.getElem?_take]
  by_cases hi : i < n
  · rw [if_pos hi, if_pos hi, List.getElem?_drop, List.getElem?_drop, List.append_assoc, List.getElem?_append_right (by rw [hA]; omega), List.getElem?_append_left (by rw [hC, hA]; omega)]
    congr 1
    rw [hA]; omega
  · rw [if_neg hi, if_neg hi]
theorem ck_ck (b : ByteArray) (p W q n : Nat) (h : q + n ≤ W) : ck (ck b p W) q n = ck b (p + q) n := by
  apply ofL_ext
  rw [bs_ck, bs_ck, bs_ck]
  apply List.ext_getElem?
  intro i
  rw [List.getElem?_take, List.getElem?_take]
  by_cases hi : i < n
  · rw [if_pos hi, if_pos hi, List.getElem?_drop, List.getElem?_drop, List.getElem?_take, if_pos (by omega), List.getElem?_drop]
    congr 1
    omega
  · rw [if_neg hi, if_neg hi]
theorem ck_all (C : ByteArray) (n : Nat) (h : C.size = n) : ck C 0 n = C := by
  apply ofL_ext
  rw [bs_ck, List.drop_zero, List.take_of_length_le]
  rw [size_bs]; omega
theorem ck_row {W : Nat} {l : List ByteArray} (hW : 0 < W) (hs : ∀ x ∈ l, x.size = W) {i : Nat} {r : ByteArray} (hi : l[i]? = some r) : ck (catW l) (W * i) W = r := by
  obtain ⟨h1, h2⟩ := rowsW_get (s := catW l) (W := W) (i := i) (r := r) (by rw [rows_cat hW hs]; exact hi)
  rw [h2]
  unfold rowW ck
  rw [Nat.succ_mul, Nat.mul_comm]
theorem rows_of {β : Type} (D : ByteArray → Nat → β) {W : Nat} (hW : 0 < W) (hD : ∀ b p, D b p = D (ck b p W) 0) {t A Z : ByteArray} {l : List ByteArray} {p : Nat} (h : t = A ++ catW l ++ Z) (hp : p = A.size) (hs : ∀ x ∈ l, x.size = W) :
    (List.range l.length).map (fun i => D t (p + W * i)) = l.map fun r => D r 0 := by
  apply List.ext_getElem?
  intro i
  rw [List.getElem?_map, List.getElem?_map]
  by_cases hi : i < l.length
  · have hr : l[i]? = some l[i] := List.getElem?_eq_getElem hi
    rw [List.getElem?_range hi, hr]
    show some (D t (p + W * i)) = some (D l[i] 0)
    have hsz := cat_size hs
    have hle : W * i + W ≤ (catW l).size := by
      rw [hsz, show W * i + W = (i + 1) * W by rw [Nat.succ_mul, Nat.mul_comm]]
      exact Nat.mul_le_mul_right _ hi
    rw [hD t, h, ck_mid A (catW l) Z (p + W * i) W (W * i) (by rw [hp]) hle, ck_row hW hs hr]
  · rw [List.getElem?_eq_none (by rw [List.length_range]; omega), List.getElem?_eq_none (by omega)]
    rfl
theorem txD_ck (b : ByteArray) (p W q k : Nat) (h : q + 8 * k + 8 ≤ W) : txD (ck b p W) q k = txD b (p + q) k := by
  unfold txD
  rw [ck_ck _ _ _ _ _ (by omega), Nat.add_assoc]
theorem nb_ck (b : ByteArray) (p W q n : Nat) (h : q + n ≤ W) : nb (ck b p W) q n = nb b (p + q) n := by
  unfold nb
  rw [ck_ck _ _ _ _ _ h]
theorem lkD_ck (b : ByteArray) (p : Nat) : lkD b p = lkD (ck b p 48) 0 := by
  unfold lkD
  rw [txD_ck _ _ _ _ _ (by decide), txD_ck _ _ _ _ _ (by decide), txD_ck _ _ _ _ _ (by decide), txD_ck _ _ _ _ _ (by decide), txD_ck _ _ _ _ _ (by decide), txD_ck _ _ _ _ _ (by decide)]
  rfl
theorem mbD_ck (b : ByteArray) (p : Nat) : mbD b p = mbD (ck b p 16) 0 := by
  unfold mbD
  rw [txD_ck _ _ _ _ _ (by decide), txD_ck _ _ _ _ _ (by decide)]
  rfl
theorem rlD_ck (b : ByteArray) (p : Nat) : rlD b p = rlD (ck b p 51) 0 := by
  unfold rlD
  rw [nb_ck _ _ _ _ _ (by decide), nb_ck _ _ _ _ _ (by decide), nb_ck _ _ _ _ _ (by decide), txD_ck _ _ _ _ _ (by decide), txD_ck _ _ _ _ _ (by decide), txD_ck _ _ _ _ _ (by decide), txD_ck _ _ _ _ _ (by decide), txD_ck _ _ _ _ _ (by decide), txD_ck _ _ _ _ _ (by decide)]
  rfl
theorem alD_ck (b : ByteArray) (p : Nat) : alD b p = alD (ck b p 41) 0 := by
  unfold alD
  rw [ck_ck _ _ _ _ _ (by decide)]
  rfl

/-! Texts and bytes of rows. -/
def PkT (t : ByteArray) : Prop := packT t = true ∧ lowS t = t
theorem tx_pack {ts : List ByteArray} {k : Nat} {t : ByteArray} (hk : ts[k]? = some t) (h : PkT t) (A : ByteArray) (q : Nat) (hq : q = A.size) : txD (A ++ ofL (packL ts)) q k = t := by
  have hl : k < ts.length := (List.getElem?_eq_some_iff.1 hk).1
  have e : packL ts = packL (ts.take k) ++ put8L t ++ packL (ts.drop (k + 1)) := by
    rw [← packL_take hk]
    unfold packL
    rw [← List.flatMap_append, List.take_append_drop]
  have e2 : A ++ ofL (packL ts) = (A ++ ofL (packL (ts.take k))) ++ ofL (put8L t) ++ ofL (packL (ts.drop (k + 1))) := by
    apply ofL_ext
    rw [bs_app, bs_app, bs_app, bs_app, bs_ofL, bs_ofL, bs_ofL, bs_ofL, e]
    simp only [List.append_assoc]
  have h8 : (ofL (put8L t)).size = 8 := by rw [size_ofL, length_put8]
  unfold txD
  rw [e2, ck_mid _ _ _ (q + 8 * k) 8 0 (by rw [ByteArray.size_append, size_ofL, length_packL, List.length_take, hq]; omega) (by rw [h8]; decide), ck_all _ _ h8, getN_in (by rw [h8]; decide)]
  rw [List.drop_zero, bs_ofL]
  have : num 8 (put8L t) = packN t := by
    unfold put8L
    rw [num_putL, Nat.mod_eq_of_lt (packN_lt t)]
  rw [this, (unT_packN h).1]
theorem nb_put (A Z : ByteArray) (m n p : Nat) (hm : m < 256 ^ n) (hp : p = A.size) : nb (A ++ ofL (putL m n) ++ Z) p n = m := by
  have h8 : (ofL (putL m n)).size = n := by rw [size_ofL, length_putL]
  unfold nb
  rw [ck_mid _ _ _ p n 0 (by omega) (by rw [h8]; omega), ck_all _ _ h8, getN_in (by rw [h8]; omega), List.drop_zero, bs_ofL, num_putL, Nat.mod_eq_of_lt hm]
theorem u64N_small (n : Int) (h0 : 0 ≤ n) (h : n ≤ 255) : u64N n = n.toNat := by
  unfold u64N
  have : IntKind.u64.wrap n = n := by
    show n % (2 ^ 64 : Int) = n
    exact Int.emod_eq_of_lt h0 (by omega)
  rw [this]
theorem nb_byte (A Z : ByteArray) (n : Int) (p : Nat) (h0 : 0 ≤ n) (h : n ≤ 255) (hp : p = A.size) : nb (A ++ byteZ n ++ Z) p 1 = n.toNat := by
  unfold byteZ
  rw [nb_put A Z _ 1 p (by rw [u64N_small n h0 h]; omega) hp, u64N_small n h0 h]

theorem pk_fine {p : ByteArray → Bool} (hp : Fine p) {s : ByteArray} (h : p s = true) (hs : smallS s = true) : PkT s := pack_fine hp (by rw [h, hs]; rfl)
theorem pk_empty : PkT ⟨#[]⟩ := ⟨by decide, by decide⟩
theorem fine_name : Fine fun s => decide (s.size ≤ 7) && alnumS s := fun s h => by
  rw [Bool.and_eq_true, decide_eq_true_iff] at h
  exact ⟨by omega, fine_has h.2⟩
theorem pk_name {s : ByteArray} (h : nameS s = true) : PkT s := by
  unfold nameS at h
  rw [Bool.and_eq_true, Bool.and_eq_true] at h
  exact pk_fine fine_name (by rw [h.1, h.2.1]; rfl) h.2.2
theorem pk_star : PkT STAR := ⟨by decide +kernel, by decide +kernel⟩
theorem lkD_row {x : Lk} (h : rightLk x = true) : lkD (rowLk x) 0 = x := by
  unfold rightLk at h
  simp only [Bool.and_eq_true, lkT, List.all_cons, List.all_nil] at h
  obtain ⟨⟨s1, s2, s3, s4, s5, s6, -⟩, r1, r2, r3, r4, -, r5, r6⟩ := h
  have e : rowLk x = ByteArray.empty ++ ofL (packL (lkT x)) := by unfold rowLk; exact (ByteArray.empty_append).symm
  unfold lkD
  rw [e, tx_pack (ts := lkT x) (k := 0) rfl (pk_fine fine_language r1 s1) _ 0 rfl, tx_pack (ts := lkT x) (k := 1) rfl (pk_fine (fine_maybe fine_script) r2 s2) _ 0 rfl, tx_pack (ts := lkT x) (k := 2) rfl (pk_fine (fine_maybe fine_region) r3 s3) _ 0 rfl,
    tx_pack (ts := lkT x) (k := 3) rfl (pk_fine fine_language r4 s4) _ 0 rfl, tx_pack (ts := lkT x) (k := 4) rfl (pk_fine fine_script r5 s5) _ 0 rfl, tx_pack (ts := lkT x) (k := 5) rfl (pk_fine fine_region r6 s6) _ 0 rfl]
theorem mbD_row {x : Mb} (h : rightMb x = true) : mbD (rowMb x) 0 = x := by
  unfold rightMb at h
  simp only [Bool.and_eq_true] at h
  obtain ⟨r1, r2, s2⟩ := h
  have e : rowMb x = ByteArray.empty ++ ofL (packL (mbT x)) := by unfold rowMb; exact (ByteArray.empty_append).symm
  unfold mbD
  rw [e, tx_pack (ts := mbT x) (k := 0) rfl (pk_name r1) _ 0 rfl, tx_pack (ts := mbT x) (k := 1) rfl (pk_fine fine_region r2 s2) _ 0 rfl]
theorem mark_P : ∀ c : UInt8, (c.toNat = 36 ∨ c.toNat = 33) → isP c = true := byte_all _ (by decide +kernel)
theorem pk_mark {s q : ByteArray} {c0 : UInt8} (hb : bs s = c0 :: bs q) (hm : c0.toNat = 36 ∨ c0.toNat = 33) (h : q.size ≤ 7 ∧ alnumS q = true ∧ smallS q = true) (hlow : lowS s = s) : PkT s := by
  have hsz : s.size = q.size + 1 := by rw [← size_bs, hb, ← size_bs q]; rfl
  have hx := pk_fine fine_name (s := q) (by rw [decide_eq_true h.1, h.2.1]; rfl) h.2.2
  have hp := ((packT_iff q).1 hx.1).2
  refine ⟨(packT_iff s).2 ⟨by omega, ?_⟩, hlow⟩
  intro c hc
  rw [hb] at hc
  rcases List.mem_cons.1 hc with h1 | h1
  · rw [h1]; exact mark_P _ hm
  · exact hp c h1
theorem pk_place {s : ByteArray} (h : placeS s = true) (hs : smallS s = true) : PkT s := by
  unfold placeS at h
  by_cases hm : markS s = true
  · rw [if_pos hm] at h
    unfold nameS at h
    rw [Bool.and_eq_true, Bool.and_eq_true, decide_eq_true_iff] at h
    have hlow := (smallS_iff s).1 hs
    unfold markS at hm
    split at hm
    · rename_i h0
      rw [Bool.or_eq_true, decide_eq_true_iff, decide_eq_true_iff] at hm
      have hb : bs s = s[0] :: bs (s.extract 1 s.size) := by
        rw [bs_extract]
        have hl : (bs s).length = s.size := rfl
        have h1 : (bs s)[0]? = some s[0] := by
          rw [List.getElem?_eq_getElem (by omega)]; rfl
        rw [List.take_of_length_le (by rw [List.length_drop, hl]; exact Nat.le_refl _)]
        cases hbs : bs s with
        | nil => rw [hbs] at hl; simp at hl; omega
        | cons c r =>
          rw [hbs] at h1
          simp at h1
          rw [h1]; rfl
      exact pk_mark hb hm h hlow
    · cases hm
  · rw [if_neg hm] at h
    exact pk_fine fine_region h hs
theorem pk_side {lv : Int} {k : Nat} {s : ByteArray} (h : sideOne lv k s = true) : PkT s := by
  unfold sideOne at h
  split at h
  · rw [size_zero (of_decide_eq_true h)]; exact pk_empty
  · rw [Bool.or_eq_true, decide_eq_true_iff, Bool.and_eq_true] at h
    rcases h with rfl | ⟨h1, h2⟩
    · exact pk_star
    · rcases k with _ | _ | k
      · exact pk_fine fine_language h1 h2
      · exact pk_fine fine_script h1 h2
      · exact pk_place h1 h2
theorem rlD_row {x : Rl} (h : rightRl x = true) : rlD (rowRl x) 0 = x := by
  unfold rightRl sideS at h
  simp only [Bool.and_eq_true, decide_eq_true_iff] at h
  obtain ⟨l1, l2, c1, c2, ⟨d0, d1, d2⟩, s0, s1, s2⟩ := h
  have b1 := size_byteZ x.lv
  have b2 := size_byteZ x.co
  have b3 := size_byteZ (bitN x.ow : Int)
  have e1 : nb (rowRl x) 0 1 = x.lv.toNat := by
    unfold rowRl
    rw [ByteArray.append_assoc, ByteArray.append_assoc, ← ByteArray.empty_append (b := byteZ x.lv)]
    exact nb_byte ByteArray.empty _ x.lv 0 (by omega) (by omega) rfl
  have e2 : nb (rowRl x) 1 1 = x.co.toNat := by
    unfold rowRl
    rw [ByteArray.append_assoc]
    exact nb_byte (byteZ x.lv) _ x.co 1 (by omega) (by omega) b1.symm
  have e3 : nb (rowRl x) 2 1 = bitN x.ow := by
    unfold rowRl
    rw [nb_byte (byteZ x.lv ++ byteZ x.co) _ (bitN x.ow : Int) 2 (by omega) (by unfold bitN; split <;> decide) (by rw [ByteArray.size_append, b1, b2])]
    rfl
  have hA : 3 = (byteZ x.lv ++ byteZ x.co ++ byteZ (bitN x.ow : Int)).size := by rw [ByteArray.size_append, ByteArray.size_append, b1, b2, b3]
  have ht : ∀ k t, (rlT x)[k]? = some t → PkT t → txD (rowRl x) 3 k = t := fun k t hk hp => by
    unfold rowRl
    exact tx_pack hk hp _ 3 hA
  unfold rlD
  rw [e1, e2, e3, ht 0 _ rfl (pk_side d0), ht 1 _ rfl (pk_side d1), ht 2 _ rfl (pk_side d2), ht 3 _ rfl (pk_side s0), ht 4 _ rfl (pk_side s1), ht 5 _ rfl (pk_side s2)]
  rw [Int.toNat_of_nonneg (by omega), Int.toNat_of_nonneg (by omega)]
  have hw : decide (bitN x.ow = 1) = x.ow := by cases x.ow <;> rfl
  rw [hw]
theorem alD_row {x : Al} (h : rightA x = true) : alD (rowB x) 0 = x := by
  unfold alD
  rw [ck_all _ _ (size_rowB x)]
  unfold decV
  rw [(dec_right h).2, if_pos rfl, (dec_right h).1]
theorem badL_all {α : Type} {p : α → Bool} {l : List α} (h : badL p l = none) : ∀ x ∈ l, p x = true := by
  intro x hx
  have := List.findIdx?_eq_none_iff.1 h x hx
  simpa using this

/-! The bytes of an image. -/
theorem back_head {im : Im} (hm : manyB im = false) (ha : argB im = false) :
    cU (outN im 4) 0 = cntN im 0 ∧ cU (outN im 4) 1 = cntN im 1 ∧ cU (outN im 4) 2 = cntN im 2 ∧ cU (outN im 4) 3 = cntN im 3 ∧ ((nb (outN im 4) 12 1 : Nat) : Int) = im.th ∧ ((nb (outN im 4) 13 1 : Nat) : Int) = im.de := by
  unfold manyB at hm
  unfold argB at ha
  have hm' := of_decide_eq_false hm
  have ha' := of_decide_eq_false ha
  have e : outN im 4 = headUp im 4 ++ byteZ im.th ++ (byteZ im.de ++ (partB im 0 ++ (partB im 1 ++ (partB im 2 ++ partB im 3)))) := by
    show headUp im 4 ++ byteZ im.th ++ byteZ im.de ++ partB im 0 ++ partB im 1 ++ partB im 2 ++ partB im 3 = _
    simp only [ByteArray.append_assoc]
  have e2 : outN im 4 = (headUp im 4 ++ byteZ im.th) ++ byteZ im.de ++ (partB im 0 ++ (partB im 1 ++ (partB im 2 ++ partB im 3))) := by
    rw [e]; simp only [ByteArray.append_assoc]
  have hj : ∀ j, cntN im j ≤ 4000 → ∀ Z, outN im 4 = headUp im j ++ ofL (putL (cntN im j) 2) ++ Z → cU (outN im 4) j = cntN im j := fun j hc Z h => by
    unfold cU
    rw [h]
    exact nb_put _ _ _ 2 _ (by omega) (by rw [headUp_size])
  have hup : ∀ j, headUp im (j + 1) = headUp im j ++ ofL (putL (cntN im j) 2) := fun j => rfl
  refine ⟨hj 0 (by omega) _ (by rw [e, hup 3, hup 2, hup 1, hup 0]; simp only [ByteArray.append_assoc]; rfl), hj 1 (by omega) _ (by rw [e, hup 3, hup 2, hup 1]; simp only [ByteArray.append_assoc]; rfl), hj 2 (by omega) _ (by rw [e, hup 3, hup 2]; simp only [ByteArray.append_assoc]; rfl), hj 3 (by omega) _ (by rw [e, hup 3]; simp only [ByteArray.append_assoc]; rfl), ?_, ?_⟩
  · rw [e, nb_byte _ _ im.th 12 (by omega) (by omega) (by rw [headUp_size])]
    omega
  · rw [e2, nb_byte _ _ im.de 13 (by omega) (by omega) (by rw [ByteArray.size_append, headUp_size, size_byteZ])]
    omega
theorem perm_map_inv {α : Type} {f : α → ByteArray} {g : ByteArray → α} {l : List α} (h : ∀ x ∈ l, g (f x) = x) : ((sortW (l.map f)).map g).Perm l := by
  have h1 : ((sortW (l.map f)).map g).Perm ((l.map f).map g) := (sortW_perm _).map _
  have h2 : (l.map f).map g = l := by
    rw [List.map_map]
    exact (List.map_congr_left h).trans (List.map_id _)
  rw [h2] at h1
  exact h1
theorem back_perm {im : Im} (h : encE im = none) : PermI (unpI (encB im)) im ∧ (unpI (encB im)).rls = im.rls := by
  obtain ⟨hm, ha, hb, -⟩ := (encE_noneZ im).1 h
  have hB : encB im = outN im 4 := by unfold encB; rw [h]; rfl
  obtain ⟨c0, c1, c2, c3, ht, hd⟩ := back_head hm ha
  have hsz := outN_size im
  have e : outN im 4 = headB im ++ partB im 0 ++ partB im 1 ++ partB im 2 ++ partB im 3 := rfl
  have hh := headB_size im
  have z0 := partB_size im 0
  have z1 := partB_size im 1
  have z2 := partB_size im 2
  have hw : wdR 0 = 41 ∧ wdR 1 = 48 ∧ wdR 2 = 51 := ⟨rfl, rfl, rfl⟩
  rw [hw.1] at z0
  rw [hw.2.1] at z1
  rw [hw.2.2] at z2
  have s0 : ∀ x ∈ sortW (rowsN im 0), x.size = 41 := sortW_size (rowsN_size im 0)
  have s1 : ∀ x ∈ sortW (rowsN im 1), x.size = 48 := sortW_size (rowsN_size im 1)
  have s2 : ∀ x ∈ rowsN im 2, x.size = 51 := rowsN_size im 2
  have s3 : ∀ x ∈ sortW (rowsN im 3), x.size = 16 := sortW_size (rowsN_size im 3)
  have r0 := rows_of alD (by decide) alD_ck (t := outN im 4) (A := headB im) (Z := partB im 1 ++ (partB im 2 ++ partB im 3)) (p := 14) (by rw [e]; simp only [ByteArray.append_assoc]; rfl) hh.symm s0
  have r1 := rows_of lkD (by decide) lkD_ck (t := outN im 4) (A := headB im ++ partB im 0) (Z := partB im 2 ++ partB im 3) (p := 14 + 41 * cntN im 0) (by rw [e]; simp only [ByteArray.append_assoc]; rfl) (by rw [ByteArray.size_append, hh, z0]; omega) s1
  have r2 := rows_of rlD (by decide) rlD_ck (t := outN im 4) (A := headB im ++ partB im 0 ++ partB im 1) (Z := partB im 3) (p := 14 + 41 * cntN im 0 + 48 * cntN im 1) (by rw [e]; simp only [ByteArray.append_assoc]; rfl) (by rw [ByteArray.size_append, ByteArray.size_append, hh, z0, z1]; omega) s2
  have r3 := rows_of mbD (by decide) mbD_ck (t := outN im 4) (A := headB im ++ partB im 0 ++ partB im 1 ++ partB im 2) (Z := ByteArray.empty) (p := 14 + 41 * cntN im 0 + 48 * cntN im 1 + 51 * cntN im 2) (by rw [e, ByteArray.append_empty]; rfl) (by rw [ByteArray.size_append, ByteArray.size_append, ByteArray.size_append, hh, z0, z1, z2]; omega) s3
  rw [sortW_len, rowsN_len] at r0 r1 r3
  rw [rowsN_len] at r2
  have hU := unpI_whole (outN im 4) (by rw [size_lf, hsz, c0, c1, c2, c3]; omega)
  rw [c0, c1, c2, c3, ht, hd] at hU
  have f0 : rowAD (outN im 4) 14 (cntN im 0) = (sortW (rowsN im 0)).map fun r => alD r 0 := r0
  have f1 : rowLD (outN im 4) (14 + 41 * cntN im 0) (cntN im 1) = (sortW (rowsN im 1)).map fun r => lkD r 0 := r1
  have f2 : rowRD (outN im 4) (14 + 41 * cntN im 0 + 48 * cntN im 1) (cntN im 2) = (rowsN im 2).map fun r => rlD r 0 := r2
  have f3 : rowMD (outN im 4) (14 + 41 * cntN im 0 + 48 * cntN im 1 + 51 * cntN im 2) (cntN im 3) = (sortW (rowsN im 3)).map fun r => mbD r 0 := r3
  rw [f0, f1, f2, f3] at hU
  have g2 : (rowsN im 2).map (fun r => rlD r 0) = im.rls := by
    show (im.rls.map rowRl).map _ = _
    rw [List.map_map]
    exact (List.map_congr_left fun x hx => rlD_row (badL_all (hb 2 (by decide)) x hx)).trans (List.map_id _)
  rw [g2] at hU
  rw [hB, hU]
  exact ⟨{ als := perm_map_inv (f := rowB) (g := fun r => alD r 0) fun x hx => alD_row (badL_all (hb 0 (by decide)) x hx), lks := perm_map_inv (f := rowLk) (g := fun r => lkD r 0) fun x hx => lkD_row (badL_all (hb 1 (by decide)) x hx), rls := rfl, mbs := perm_map_inv (f := rowMb) (g := fun r => mbD r 0) fun x hx => mbD_row (badL_all (hb 3 (by decide)) x hx), th := rfl, de := rfl }, rfl⟩
theorem back_ok {im : Im} (h : encE im = none) : decOk (encB im) :=
  ⟨(back_perm h).1.symm.none h, (back_perm h).1.bytes⟩


theorem RowC.openD {α : Type} {f : α → List Value} {W : World} {ao : Option Addr} {n cap sz : Nat} {l : List α} (h : RowC W (.slice ao n cap) sz (l.map f)) : ∀ k x, l[k]? = some x → ∃ g o, ao = some ⟨g, o, none⟩ ∧ ∀ W', Below W.heap.size W W' → ∀ j c, (f x)[j]? = some c → W'.cell? ⟨g, o + k * sz + j, none⟩ = some c := by
  intro k x hx
  obtain ⟨ao', cap', e, hc⟩ := h
  injection e with e1 e2 e3
  subst e1
  obtain ⟨g, o, h1, h2⟩ := hc k (f x) (by rw [List.getElem?_map, hx]; rfl)
  exact ⟨g, o, h1, fun W' hb j c hj => (hb.cell (p := ⟨g, o + k * sz + j, none⟩) (lt_cellZ (h2 j c hj))).trans (h2 j c hj)⟩
theorem stringInfoD : (Tryz.prog.info? 9).map (fun i => (i.zero, i.size, i.bytes)) = some (some (.string ByteArray.empty), 1, 16) := by kernel_rfl
set_option maxRecDepth 100000 in
set_option maxHeartbeats 2000000 in
theorem eq_arr3D (a b c : ByteArray) (w : World) : (Op.equalIn 9999 41 (.agg #[.string a, .string b, .string c]) (.agg #[.string a, .string b, .string c])).run Tryz.prog w = .ok true w := by
  obtain ⟨i0, hi, hz0, hz1, hz2⟩ := info_parts stringInfoD
  have hc : Tryz.prog.cellsOf 9 = 1 := by kernel_rfl
  rw [show (9999 : Nat) = 9998 + 1 from rfl, run_equalIn_array w 9998 _ _ Tryz.underlying41 hi, hc, show List.range 3 = [0, 1, 2] from rfl]
  simp only [Op.eqItems]
  go_simp
theorem eqgL : Tryz.prog.eqGuardType Tryz.prog.depth 45 = false := by kernel_rfl
theorem eqgR : Tryz.prog.eqGuardType Tryz.prog.depth 43 = false := by kernel_rfl
theorem restB_num (x : Int) (n : Nat) (hn : 1 ≤ n) (hn2 : n ≤ 100000) : (wrap64 (x.tmod n + n)).tmod n = (restV x n : Int) := by
  have h := Int.natAbs_tmod x n
  have hm := Nat.mod_lt x.natAbs (show 0 < n by omega)
  unfold restV
  rw [Int.natAbs_natCast] at h
  generalize x.tmod n = z at *
  have hz : z.natAbs < n := by omega
  have hw : wrap64 (z + n) = z + n := IntWalk.wrap64_in _ ⟨by omega, by omega⟩
  rw [hw, Int.tmod_eq_emod_of_nonneg (by omega)]
  have h2 := Int.emod_nonneg (z + n) (show (n : Int) ≠ 0 by omega)
  omega
set_option maxRecDepth 100000 in
theorem restB_any (x : Int) (n : Nat) (w : World) (hn : 1 ≤ n) (hn2 : n ≤ 100000) :
    Calls Tryz.prog 9 #[.int .i64 x, .int .i64 (n : Int)] w fun e w' => e = .returned (.int .i64 (restV x n : Int)) ∧ w = w' := by
  have HE := Lib.hid (restB_num x n hn hn2)
  have h0 : ((n : Int) == 0) = false := by rw [beq_eq_false_iff_ne]; omega
  have h1 : (n : Int) ≠ 0 := by omega
  clear hn hn2
  generalize (n : Int) = m at *
  go_enter Tryz.func9, Tryz.ntmps9
  go_wp2
  go_ret
  exact ⟨ret_int HE.out, rfl⟩
theorem conv_oneB (z : Int) (B : Nat) (w2 : World) (h : w2.cell? ⟨B, 0, none⟩ = some (.int .u8 (z % 256))) : (convert 47 9 (.slice (some ⟨B, 0, none⟩) 1 1)).run Tryz.prog w2 = .ok (.string (ofL [UInt8.ofNat (z % 256).toNat])) w2 := by
  have hz : ((UInt8.ofNat (z % 256).toNat).toNat : Int) = z % 256 := by
    rw [UInt8.toNat_ofNat', Nat.mod_eq_of_lt (by omega)]; omega
  exact run_convert_bytes_back (P := Tryz.prog) w2 47 9 5 ⟨B, 0, none⟩ 1 [UInt8.ofNat (z % 256).toNat] Tryz.underlying47 Tryz.underlying5 Tryz.underlying9 (fun j hj => by
    obtain rfl : j = 0 := by simpa using hj
    rw [Addr.add_lit]
    show w2.cell? ⟨B, 0, none⟩ = some (.int .u8 ((UInt8.ofNat (z % 256).toNat).toNat : Int))
    rw [h, hz])

theorem lk_ne {y x : Lk} (h : ¬ y = x) : (y.l.toList == x.l.toList) = false ∨ ((y.l.toList == x.l.toList) = true ∧ ((y.s.toList == x.s.toList) = false ∨ ((y.s.toList == x.s.toList) = true ∧ ((y.r.toList == x.r.toList) = false ∨ ((y.r.toList == x.r.toList) = true ∧ ((y.tl.toList == x.tl.toList) = false ∨ ((y.tl.toList == x.tl.toList) = true ∧ ((y.ts.toList == x.ts.toList) = false ∨ ((y.ts.toList == x.ts.toList) = true ∧ (y.tr.toList == x.tr.toList) = false))))))))) := by
  simp only [same_bool, decide_eq_true_eq, decide_eq_false_iff_not]
  by_cases e1 : y.l = x.l
  · refine .inr ⟨e1, ?_⟩
    by_cases e2 : y.s = x.s
    · refine .inr ⟨e2, ?_⟩
      by_cases e3 : y.r = x.r
      · refine .inr ⟨e3, ?_⟩
        by_cases e4 : y.tl = x.tl
        · refine .inr ⟨e4, ?_⟩
          by_cases e5 : y.ts = x.ts
          · refine .inr ⟨e5, fun e6 => h ?_⟩
            cases y; cases x
            simp only at e1 e2 e3 e4 e5 e6
            subst e1 e2 e3 e4 e5 e6
            rfl
          · exact .inl e5
        · exact .inl e4
      · exact .inl e3
    · exact .inl e2
  · exact .inl e1
theorem wpAnyH_strongB {P : Program} {md : Region.Mode} {ops : Array Oper} {Q : Exit → Act → World → Prop} {S S' : World → Prop} (h : ∀ w, S' w → S w) : ∀ (fuel : Nat) (l : Array Bool) (a : Act) (w : World), wpAnyH P md ops Q S' fuel l a w → wpAnyH P md ops Q S fuel l a w
  | 0, _, _, _, hh => hh
  | fuel + 1, _, _, _, hh => ⟨hh.1, fun i hi => wpOp_mono (fun a' w' h' => ⟨h _ h'.1, wpAnyH_strongB h fuel _ a' w' h'.2⟩) (hh.2 i hi)⟩

set_option maxRecDepth 1000000 in
set_option maxHeartbeats 16000000 in
theorem imageBack_law (S : SeedZ) (va0 vl0 vr0 vm0 : Value) (q0 q1 : Int) (w : World) (hS : SdR w va0 vl0 vr0 vm0 S) (hg : GL w) :
    Calls Tryz.prog 3 #[.agg #[va0, vl0, vr0, vm0, .int .i64 S.th, .int .i64 S.de, .int .i64 S.odd], .agg #[.int .i64 q0, .int .i64 q1]] w fun e w' => e = .returned (.bool true) ∧ Below w.heap.size w w' := by
  obtain ⟨W0, hW0⟩ : ∃ W0, w.alloc (.cells #[va0, vl0, vr0, vm0, .int .i64 S.th, .int .i64 S.de, .int .i64 S.odd] 25) = W0 := ⟨_, rfl⟩
  obtain ⟨W1, hW1⟩ : ∃ W1, W0.alloc (.cells #[.int .i64 q0, .int .i64 q1] 26) = W1 := ⟨_, rfl⟩
  have hs0 : W0.heap.size = w.heap.size + 1 := by rw [← hW0]; simp
  have hb0 : Below w.heap.size w W0 := by rw [← hW0]; exact (Below.refl _ w).alloc (Nat.le_refl _) _
  have hb1 : Below w.heap.size w W1 := by rw [← hW1]; exact hb0.alloc hb0.size _
  have hA : W1.heap[w.heap.size]? = some (.cells #[va0, vl0, vr0, vm0, .int .i64 S.th, .int .i64 S.de, .int .i64 S.odd] 25 (0, 0)) := by rw [← hW1]; refine (Below.heap_alloc _ _ _ (by omega)).trans ?_; rw [← hW0]; exact World.alloc_heap_new w _
  have hQ : W1.heap[w.heap.size + 1]? = some (.cells #[.int .i64 q0, .int .i64 q1] 26 (0, 0)) := by rw [← hW1, ← hs0]; exact World.alloc_heap_new W0 _
  have H7 := Lib.hid (fun w' (h : Below W1.heap.size W1 w') => cells7 ((h.block _ (lt_of_block hA)).trans hA))
  have HQ2 := Lib.hid (fun w' (h : Below W1.heap.size W1 w') => cells2Z ((h.block _ (lt_of_block hQ)).trans hQ))
  have HAW := Lib.hid (awake13_any W1 (hg.below hb1 hg.size))
  have HMD := Lib.hid (fun w' (h : Below W1.heap.size W1 w') => made13_any S va0 vl0 vr0 vm0 w' (hS.below (hb1.trans (h.mono hb1.size))))
  have HGL := Lib.hid (fun w' (h : Below w.heap.size w w') => hg.below h hg.size)
  have HB1 := Lib.hid hb1
  have HW1 := Lib.hid (And.intro hW0 (And.intro hW1 hs0))
  clear hW0 hW1 hA hQ hb0 hb1 hS hg hs0
  go_enter Tryz.func3, Tryz.ntmps3
  go_upto_region 1 with fail
  try rw [HW1.out.1]
  try rw [HW1.out.2.1]
  try rw [HW1.out.2.2]
  go_upto_region 2 with (go_at_call 5; (with_reducible refine HAW.out.mono ?_); rintro e w2 ⟨rfl, hb2⟩)
  obtain ⟨d0, d1, d2, d3, d4, d5, d6⟩ := H7.out _ hb2
  have HM2 := Lib.hid (HMD.out _ hb2)
  have HB2 := Lib.hid hb2
  clear hb2
  go_upto_region 3 with (go_at_call 6; (with_reducible refine HM2.out.mono ?_); intro e w5 hE; unfold MdE ImO at hE; obtain ⟨im0, hBI, va, vl, vr, vm, rfl, hO5, hb5⟩ := hE; obtain ⟨a1, c1, a2, c2, a3, c3, a4, c4, h1, h2, h3, h4⟩ := hO5.rows.slices; subst h1 h2 h3 h4)
  have hFW := hBI.few (restV S.odd 12)
  generalize spI im0 (restV S.odd 12) = im at *
  obtain ⟨W6, hW6⟩ : ∃ W6, w5.alloc (.cells #[.slice a1 (cntN im 0) c1, .slice a2 (cntN im 1) c2, .slice a3 (cntN im 2) c3, .slice a4 (cntN im 3) c4, .int .i64 im.th, .int .i64 im.de] 33) = W6 := ⟨_, rfl⟩
  have hI6 : W6.heap[w5.heap.size]? = some (.cells #[.slice a1 (cntN im 0) c1, .slice a2 (cntN im 1) c2, .slice a3 (cntN im 2) c3, .slice a4 (cntN im 3) c4, .int .i64 im.th, .int .i64 im.de] 33 (0, 0)) := by rw [← hW6]; exact World.alloc_heap_new _ _
  have hb6 : Below w5.heap.size w5 W6 := by rw [← hW6]; exact (Below.refl _ _).alloc (Nat.le_refl _) _
  have hO6 := hO5.below hb6
  have hb26 : Below W1.heap.size W1 W6 := (HB2.out.trans (hb5.mono HB2.out.size)).trans (hb6.mono (Nat.le_trans HB2.out.size hb5.size))
  have hB6 : Below w.heap.size w W6 := HB1.out.trans (hb26.mono HB1.out.size)
  rw [hW6]
  clear hW6 hb6 hO5 hBI d0 d1 d2 d3 d4 d5 d6 HM2 HMD HAW hb5
  have HE6 := Lib.hid (encode_im a1 a2 a3 a4 c1 c2 c3 c4 im W6 hO6.rows hO6.s (HGL.out _ hB6))
  obtain ⟨z0, z1, z2, z3, z4, z5⟩ := cells6 hI6
  have HI6 := Lib.hid hI6
  have HO6 := Lib.hid hO6
  have HB6 := Lib.hid (And.intro hB6 hb26)
  have HCN := Lib.hid (show cntN im 0 ≤ 60 ∧ cntN im 1 ≤ 60 ∧ cntN im 2 ≤ 60 ∧ cntN im 3 ≤ 60 from ⟨hFW.a, hFW.l, hFW.r, hFW.m⟩)
  clear hI6 hO6 hB6 hb26 hFW
  cases hee : encE im with
  | some t =>
    rw [hee] at HE6
    have hB0 : encB im = ⟨#[]⟩ := by unfold encB; rw [hee]; rfl
    rw [hB0] at HE6
    clear hee hB0
    go_wp2_with (go_at_call 7; (with_reducible refine HE6.out.mono ?_); rintro e w7 ⟨ev1, rfl, hev1, hb7⟩; obtain ⟨bf, rfl, hbf⟩ := hev1; have HB7 := Lib.hid (HB6.out.1.trans (hb7.mono HB6.out.1.size)); clear hbf hb7)
    go_ret
    exact ⟨rfl, HB7.out⟩
  | none =>
    rw [hee] at HE6
    have HPM := Lib.hid (back_perm hee)
    have HOK := Lib.hid (back_ok hee)
    have hsz : (encB im).size = 14 + cntN im 0 * 41 + cntN im 1 * 48 + cntN im 2 * 51 + cntN im 3 * 16 := by unfold encB; rw [hee]; exact outN_size im
    have hz1 : 14 ≤ (encB im).size := by omega
    have hz2 : (encB im).size ≤ 9374 := by have := HCN.out; omega
    clear hee hsz
    have HDE := Lib.hid (fun w' (h : Below w.heap.size w w') => decode_im (encB im) w' (by omega) (HGL.out _ h))
    have HCT := Lib.hid (fun k => HPM.out.1.cnt k)
    have HTD := Lib.hid (And.intro HPM.out.1.th HPM.out.1.de)
    generalize encB im = t at *
    have HDQ := Lib.hid (show ∀ w' e, DecQ t w' e → ∃ v1 v2 v3 v4, e = .returned (.tuple #[.agg #[v1, v2, v3, v4, .int .i64 (unpI t).th, .int .i64 (unpI t).de], .nilIface]) ∧ ImR w' v1 v2 v3 v4 (unpI t) from fun w' e h => by
      rcases h with ⟨-, h⟩ | ⟨h, -⟩
      · exact h
      · exact (h HOK.out).elim)
    have HPM2 := HPM.out
    clear HPM
    generalize hbi : unpI t = bi at *
    clear hbi
    go_upto_region 6 with (go_at_call 7; (with_reducible refine HE6.out.mono ?_); rintro e w7 ⟨ev1, rfl, hev1, hb7⟩; obtain rfl : ev1 = .nilIface := hev1; have HB7 := Lib.hid (And.intro (HB6.out.1.trans (hb7.mono HB6.out.1.size)) (HB6.out.2.trans (hb7.mono HB6.out.2.size))); have HI7 := Lib.hid ((hb7.block _ (lt_of_block HI6.out)).trans HI6.out); have HO7 := Lib.hid (HO6.out.rows.below hb7); clear hb7)
    obtain ⟨z0, z1, z2, z3, z4, z5⟩ := cells6 HI7.out
    have HD7 := Lib.hid (HDE.out w7 HB7.out.1)
    clear HE6 HI6 HO6 HB6
    go_upto_region 7 with (go_at_call 8; (with_reducible refine HD7.out.mono ?_); rintro e w8 ⟨hD, hb8⟩; obtain ⟨v1, v2, v3, v4, rfl, hJ⟩ := HDQ.out _ _ hD; obtain ⟨b1, d1, b2, d2, b3, d3, b4, d4, rfl, rfl, rfl, rfl⟩ := hJ.slices; rw [HCT.out, HCT.out, HCT.out, HCT.out, HTD.out.1, HTD.out.2])
    have HJ8 := Lib.hid hJ
    have HB8 := Lib.hid hb8
    clear hJ hb8 hD
    obtain ⟨W9, hW9⟩ : ∃ x, w8.alloc (.cells #[.slice b1 (cntN im 0) d1, .slice b2 (cntN im 1) d2, .slice b3 (cntN im 2) d3, .slice b4 (cntN im 3) d4, .int .i64 im.th, .int .i64 im.de] 33) = x := ⟨_, rfl⟩
    have hX9 : W9.heap[w8.heap.size]? = some (.cells #[.slice b1 (cntN im 0) d1, .slice b2 (cntN im 1) d2, .slice b3 (cntN im 2) d3, .slice b4 (cntN im 3) d4, .int .i64 im.th, .int .i64 im.de] 33 (0, 0)) := by rw [← hW9]; exact World.alloc_heap_new _ _
    have hb9 : Below w8.heap.size w8 W9 := by rw [← hW9]; exact (Below.refl _ _).alloc (Nat.le_refl _) _
    rw [hW9]
    clear hW9 z0 z1 z2 z3 z4 z5
    have hb79 : Below w7.heap.size w7 W9 := HB8.out.trans (hb9.mono HB8.out.size)
    have hi9 := HO7.out.below hb79
    have hj9 := HJ8.out.below hb9
    have hI9 := (hb79.block _ (lt_of_block HI7.out)).trans HI7.out
    have hjr := hj9.r
    rw [HPM2.2] at hjr
    have L2 := Lib.hid (And.intro hi9.r.openD hjr.openD)
    have L1 := Lib.hid hi9.l.openD
    have J1 := Lib.hid hj9.l.openD
    have HI := Lib.hid (fun w' (h : Below W9.heap.size W9 w') => And.intro (cells6 ((h.block _ (lt_of_block hI9)).trans hI9)) (cells6 ((h.block _ (lt_of_block hX9)).trans hX9)))
    have HB9 := Lib.hid (And.intro (HB7.out.1.trans (hb79.mono HB7.out.1.size)) (HB7.out.2.trans (hb79.mono HB7.out.2.size)))
    have HBW := Lib.hid (fun w' (h : Below W9.heap.size W9 w') => And.intro (HB9.out.1.trans (h.mono HB9.out.1.size)) (HB9.out.2.trans (h.mono HB9.out.2.size)))
    have HLP := Lib.hid HPM2.1.lks
    have HLN := Lib.hid (show im.rls.length = cntN im 2 ∧ im.lks.length = cntN im 1 ∧ bi.lks.length = cntN im 1 from ⟨rfl, rfl, HCT.out 1⟩)
    obtain ⟨hm0, hm1, hm2, hm3⟩ := HCN.out
    have eqL := eqgL
    have eqR := eqgR
    generalize w8.heap.size = nB at *
    generalize w5.heap.size = nI at *
    clear hX9 hb9 hb79 hi9 hj9 hI9 hjr HPM2 HDQ HJ8 HB8 HO7 HI7 HD7 HB7 HB1 HW1 H7 HOK HCT HTD
    obtain ⟨⟨i0, i1, i2, i3, i4, i5⟩, ⟨j0, j1, j2, j3, j4, j5⟩⟩ := HI.out _ (Below.refl _ _)
    have HBL := Lib.hid (Below.refl W9.heap.size W9)
    go_wp2_with fail
    clear i0 i1 i2 i3 i4 i5 j0 j1 j2 j3 j4 j5
    go_loopw [11] (fun i wr => ∃ k : Nat, k ≤ cntN im 2 ∧ i = .int .i64 (k : Int) ∧ Hid (Below W9.heap.size W9 wr)) (fun i _ => cntN im 2 - (intOf i).toNat)
    case atStart => exact ⟨0, Nat.zero_le _, rfl, HBL⟩
    case round =>
      clear HBL
      obtain ⟨k, hk, rfl, hbw⟩ := hrel
      obtain ⟨⟨i0, i1, i2, i3, i4, i5⟩, ⟨j0, j1, j2, j3, j4, j5⟩⟩ := HI.out _ hbw.out
      by_cases hlt : k < cntN im 2
      · have hki : (k : Int) < (cntN im 2 : Int) := by omega
        have hk0 : (0 : Int) ≤ (k : Int) := by omega
        obtain ⟨x, hx⟩ : ∃ x, im.rls[k]? = some x := ⟨_, List.getElem?_eq_getElem (by rw [HLN.out.1]; exact hlt)⟩
        obtain ⟨g, o, rfl, hcc⟩ := L2.out.1 k x hx
        obtain ⟨g', o', rfl, hcd⟩ := L2.out.2 k x hx
        have e0 := show World.cell? _ ⟨g, o + k * 9, none⟩ = some (.int .i64 x.lv) from hcc _ hbw.out 0 _ rfl
        have e1 := show World.cell? _ ⟨g, o + k * 9 + 1, none⟩ = some (.int .i64 x.co) from hcc _ hbw.out 1 _ rfl
        have e2 := show World.cell? _ ⟨g, o + k * 9 + 2, none⟩ = some (.bool x.ow) from hcc _ hbw.out 2 _ rfl
        have e3 := show World.cell? _ ⟨g, o + k * 9 + 3, none⟩ = some (.string x.d0) from hcc _ hbw.out 3 _ rfl
        have e4 := show World.cell? _ ⟨g, o + k * 9 + 4, none⟩ = some (.string x.d1) from hcc _ hbw.out 4 _ rfl
        have e5 := show World.cell? _ ⟨g, o + k * 9 + 5, none⟩ = some (.string x.d2) from hcc _ hbw.out 5 _ rfl
        have e6 := show World.cell? _ ⟨g, o + k * 9 + 6, none⟩ = some (.string x.s0) from hcc _ hbw.out 6 _ rfl
        have e7 := show World.cell? _ ⟨g, o + k * 9 + 7, none⟩ = some (.string x.s1) from hcc _ hbw.out 7 _ rfl
        have e8 := show World.cell? _ ⟨g, o + k * 9 + 8, none⟩ = some (.string x.s2) from hcc _ hbw.out 8 _ rfl
        have f0 := show World.cell? _ ⟨g', o' + k * 9, none⟩ = some (.int .i64 x.lv) from hcd _ hbw.out 0 _ rfl
        have f1 := show World.cell? _ ⟨g', o' + k * 9 + 1, none⟩ = some (.int .i64 x.co) from hcd _ hbw.out 1 _ rfl
        have f2 := show World.cell? _ ⟨g', o' + k * 9 + 2, none⟩ = some (.bool x.ow) from hcd _ hbw.out 2 _ rfl
        have f3 := show World.cell? _ ⟨g', o' + k * 9 + 3, none⟩ = some (.string x.d0) from hcd _ hbw.out 3 _ rfl
        have f4 := show World.cell? _ ⟨g', o' + k * 9 + 4, none⟩ = some (.string x.d1) from hcd _ hbw.out 4 _ rfl
        have f5 := show World.cell? _ ⟨g', o' + k * 9 + 5, none⟩ = some (.string x.d2) from hcd _ hbw.out 5 _ rfl
        have f6 := show World.cell? _ ⟨g', o' + k * 9 + 6, none⟩ = some (.string x.s0) from hcd _ hbw.out 6 _ rfl
        have f7 := show World.cell? _ ⟨g', o' + k * 9 + 7, none⟩ = some (.string x.s1) from hcd _ hbw.out 7 _ rfl
        have f8 := show World.cell? _ ⟨g', o' + k * 9 + 8, none⟩ = some (.string x.s2) from hcd _ hbw.out 8 _ rfl
        have hDe := fun w' => eq_arr3D x.d0 x.d1 x.d2 w'
        have hSe := fun w' => eq_arr3D x.s0 x.s1 x.s2 w'
        clear hcc hcd hx
        go_wp2_with fail
        go_quiet (fail)
        go_wp2_with fail
        go_roundw
        case rel => exact ⟨k + 1, by omega, by go_num, Lib.hid (below_drewN hbw.out _)⟩
        case measure => simp [intOf]; omega
      · obtain rfl : k = cntN im 2 := by omega
        have hki : ¬ (cntN im 2 : Int) < (cntN im 2 : Int) := by omega
        have HBL := hbw
        clear hbw hk hlt
        go_wp2_with fail
        clear i0 i1 i2 i3 i4 i5 j0 j1 j2 j3 j4 j5
        go_loopw [12, 13, 14] (fun i _ _ wr => ∃ k : Nat, k ≤ cntN im 1 ∧ i = .int .i64 (k : Int) ∧ Hid (Below W9.heap.size W9 wr)) (fun i _ _ _ => cntN im 1 - (intOf i).toNat)
        case atStart => exact ⟨0, Nat.zero_le _, rfl, HBL⟩
        case round =>
          clear HBL
          obtain ⟨k, hk, rfl, hbw⟩ := hrel
          obtain ⟨⟨i0, i1, i2, i3, i4, i5⟩, ⟨j0, j1, j2, j3, j4, j5⟩⟩ := HI.out _ hbw.out
          by_cases hlt : k < cntN im 1
          · have hki : (k : Int) < (cntN im 1 : Int) := by omega
            have hk0 : (0 : Int) ≤ (k : Int) := by omega
            obtain ⟨x, hx⟩ : ∃ x, im.lks[k]? = some x := ⟨_, List.getElem?_eq_getElem (by rw [HLN.out.2.1]; exact hlt)⟩
            obtain ⟨k0, hk00⟩ : ∃ k0, bi.lks[k0]? = some x := List.mem_iff_getElem?.1 (HLP.out.mem_iff.2 (List.mem_of_getElem? hx))
            have hkl : k0 < cntN im 1 := by have := (List.getElem?_eq_some_iff.1 hk00).1; rw [HLN.out.2.2] at this; exact this
            obtain ⟨g, o, rfl, hcc⟩ := L1.out k x hx
            have HCC := Lib.hid hcc
            clear hcc hx
            go_wp2_with fail
            clear i0 i1 i2 i3 i4 i5 j0 j1 j2 j3 j4 j5
            go_loopw [13, 14] (fun tb i wr => ∃ (m : Nat) (bt : Bool), m ≤ cntN im 1 ∧ i = .int .i64 (m : Int) ∧ tb = .bool bt ∧ (k0 < m → bt = true) ∧ Hid (Below W9.heap.size W9 wr)) (fun _ i _ => cntN im 1 - (intOf i).toNat)
            case atStart => exact ⟨0, false, Nat.zero_le _, rfl, rfl, fun h => absurd h (by omega), hbw⟩
            case round =>
              clear hbw
              obtain ⟨m, bt, hm, rfl, rfl, hbt, hbm⟩ := hrel
              obtain ⟨⟨i0, i1, i2, i3, i4, i5⟩, ⟨j0, j1, j2, j3, j4, j5⟩⟩ := HI.out _ hbm.out
              by_cases hlm : m < cntN im 1
              · have hmi : (m : Int) < (cntN im 1 : Int) := by omega
                have hm00 : (0 : Int) ≤ (m : Int) := by omega
                cases bt with
                | true =>
                  go_wp2_with fail
                  go_quiet (fail)
                  go_wp2_with fail
                  go_roundw
                  case rel => exact ⟨m + 1, true, by omega, by go_num, rfl, fun _ => rfl, Lib.hid (below_drewN hbm.out _)⟩
                  case measure => simp [intOf]; omega
                | false =>
                  obtain ⟨y, hy⟩ : ∃ y, bi.lks[m]? = some y := ⟨_, List.getElem?_eq_getElem (by rw [HLN.out.2.2]; exact hlm)⟩
                  obtain ⟨g', o', rfl, hcd⟩ := J1.out m y hy
                  have f0 := show World.cell? _ ⟨g', o' + m * 6, none⟩ = some (.string y.l) from hcd _ hbm.out 0 _ rfl
                  have f1 := show World.cell? _ ⟨g', o' + m * 6 + 1, none⟩ = some (.string y.s) from hcd _ hbm.out 1 _ rfl
                  have f2 := show World.cell? _ ⟨g', o' + m * 6 + 2, none⟩ = some (.string y.r) from hcd _ hbm.out 2 _ rfl
                  have f3 := show World.cell? _ ⟨g', o' + m * 6 + 3, none⟩ = some (.string y.tl) from hcd _ hbm.out 3 _ rfl
                  have f4 := show World.cell? _ ⟨g', o' + m * 6 + 4, none⟩ = some (.string y.ts) from hcd _ hbm.out 4 _ rfl
                  have f5 := show World.cell? _ ⟨g', o' + m * 6 + 5, none⟩ = some (.string y.tr) from hcd _ hbm.out 5 _ rfl
                  have hcc := HCC.out
                  have e0 := show World.cell? _ ⟨g, o + k * 6, none⟩ = some (.string x.l) from hcc _ hbm.out 0 _ rfl
                  have e1 := show World.cell? _ ⟨g, o + k * 6 + 1, none⟩ = some (.string x.s) from hcc _ hbm.out 1 _ rfl
                  have e2 := show World.cell? _ ⟨g, o + k * 6 + 2, none⟩ = some (.string x.r) from hcc _ hbm.out 2 _ rfl
                  have e3 := show World.cell? _ ⟨g, o + k * 6 + 3, none⟩ = some (.string x.tl) from hcc _ hbm.out 3 _ rfl
                  have e4 := show World.cell? _ ⟨g, o + k * 6 + 4, none⟩ = some (.string x.ts) from hcc _ hbm.out 4 _ rfl
                  have e5 := show World.cell? _ ⟨g, o + k * 6 + 5, none⟩ = some (.string x.tr) from hcc _ hbm.out 5 _ rfl
                  by_cases hyx : y = x
                  · subst hyx
                    clear hcc hcd hy
                    go_wp2_with fail
                    go_quiet (fail)
                    go_wp2_with fail
                    go_roundw
                    case rel => exact ⟨m + 1, true, by omega, by go_num, rfl, fun _ => rfl, Lib.hid (below_drewN hbm.out _)⟩
                    case measure => simp [intOf]; omega
                  · have hmk : ¬ k0 < m + 1 := fun h => by
                      by_cases h2 : k0 < m
                      · exact absurd (hbt h2) (by decide)
                      · obtain rfl : k0 = m := by omega
                        rw [hk00] at hy
                        exact hyx (Option.some.inj hy).symm
                    have HMK := Lib.hid hmk
                    have hcs := lk_ne hyx
                    clear hcc hcd hy hyx hmk
                    rcases hcs with h | ⟨t1, h | ⟨t2, h | ⟨t3, h | ⟨t4, h | ⟨t5, h⟩⟩⟩⟩⟩
                    all_goals
                      go_wp2_with fail
                      go_quiet (fail)
                      go_wp2_with fail
                      go_roundw
                      case rel => exact ⟨m + 1, _, by omega, by go_num, rfl, fun h => absurd h HMK.out, Lib.hid (below_drewN hbm.out _)⟩
                      case measure => simp [intOf]; omega
              · obtain rfl : m = cntN im 1 := by omega
                have hmi : ¬ (cntN im 1 : Int) < (cntN im 1 : Int) := by omega
                obtain rfl : bt = true := hbt hkl
                go_wp2_with fail
                go_roundw
                case rel => exact ⟨k + 1, by omega, by go_num, hbm⟩
                case measure => simp [intOf]; omega
          · obtain rfl : k = cntN im 1 := by omega
            have hki : ¬ (cntN im 1 : Int) < (cntN im 1 : Int) := by omega
            have HBL := hbw
            clear hbw hk hlt
            obtain ⟨wo, rfl⟩ : ∃ x, x = wr := ⟨_, rfl⟩
            clear L1 L2 J1 HLP HLN hm0 hm1 hm2 hm3 eqL eqR HCN
            have hi := restV_lt q0 t.size (by omega)
            have RR := Lib.hid (fun w5 => restB_any q0 t.size w5 (by omega) (by omega))
            generalize restV q0 t.size = i at *
            have hcv := conv_oneB q1
            have hcs : (ofL [UInt8.ofNat (q1 % 256).toNat]).size = 1 := rfl
            generalize ofL [UInt8.ofNat (q1 % 256).toNat] = cc at *
            have hqw : IntKind.u8.wrap q1 = q1 % 256 := by simp [IntKind.wrap, IntKind.signed, IntKind.bits]
            obtain ⟨p1, hp1⟩ : ∃ p1, t.extract 0 i = p1 := ⟨_, rfl⟩
            obtain ⟨p2, hp2⟩ : ∃ p2, t.extract (i + 1) t.size = p2 := ⟨_, rfl⟩
            have y1 : p1.size ≤ 9374 := by rw [← hp1, ByteArray.size_extract]; omega
            have y2 : p2.size ≤ 9374 := by rw [← hp2, ByteArray.size_extract]; omega
            obtain ⟨x1, hx1⟩ : ∃ x1, p1 ++ cc = x1 := ⟨_, rfl⟩
            have y3 : x1.size ≤ 9375 := by rw [← hx1, ByteArray.size_append]; omega
            obtain ⟨x2, hx2⟩ : ∃ x2, x1 ++ p2 = x2 := ⟨_, rfl⟩
            have zx : x2.size ≤ 1048576 := by rw [← hx2, ByteArray.size_append]; omega
            have o1 : ¬ 9223372036854775807 < p1.size + cc.size := by omega
            have o2 : ¬ 9223372036854775807 < x1.size + p2.size := by omega
            have hr1 : (i : Int) ≤ (t.size : Int) := by omega
            have hr2 : (i : Int) + 1 ≤ (t.size : Int) := by omega
            have hr0 : (0 : Int) ≤ (i : Int) := by omega
            have hr3 : (0 : Int) ≤ (i : Int) + 1 := by omega
            have g1 : ¬ (t.size : Int) < (i : Int) := by omega
            have g2 : ¬ (t.size : Int) < (i : Int) + 1 := by omega
            have hwi : IntKind.i64.wrap ((i : Int) + 1) = (i : Int) + 1 := IntWalk.i64_in _ ⟨by omega, by omega⟩
            clear y1 y2 y3 hcs
            obtain ⟨q0c, q1c⟩ := HQ2.out _ (HBW.out _ HBL.out).2
            go_upto_region 25 with (go_at_call 9; (with_reducible refine (RR.out _).mono ?_); rintro e w9 ⟨rfl, rfl⟩)
            have HC := Lib.hid (fun w' (hb : Below wo.heap.size wo w') => (show Below W1.heap.size W1 w' ∧ w'.cell? ⟨w.heap.size + 1, 1, none⟩ = some (.int .i64 q1) from ⟨(HBW.out _ (HBL.out.trans (hb.mono HBL.out.size))).2, (HQ2.out _ (HBW.out _ (HBL.out.trans (hb.mono HBL.out.size))).2).2⟩))
            have hd : Below wo.heap.size wo wo.drew := Below.drew (Below.refl _ _)
            have HBO := Lib.hid (HBW.out _ HBL.out)
            have HDX := Lib.hid (fun w' (h : Below w.heap.size w w') => decode_im x2 w' zx (HGL.out _ h))
            have HIS := Lib.hid (unpI_small x2)
            clear i0 i1 i2 i3 i4 i5 j0 j1 j2 j3 j4 j5 HI HDE
            refine wp_region_held_drew (S := fun w' => Below W1.heap.size W1 w' ∧ w'.cell? ⟨w.heap.size + 1, 1, none⟩ = some (.int .i64 q1)) (by kernel_rfl) (HC.out _ hd) (fun hHeld => ?_)
            apply held_shellR (R := fun w' => Below wo.heap.size wo w')
            exact fun _ _ d _ _ h => by cases d <;> exact h
            rotate_left 1
            intro KK hKp hfin
            refine wpAnyH_take (i := 0) (v := .string t) rfl (by kernel_rfl) (by kernel_rfl) (by kernel_rfl) (fun c a w h => hKp c a _ _ w h) (Or.inl ⟨by kernel_rfl, fun w hSw => by dsimp only at hSw; obtain ⟨-, c1⟩ := hSw; go_simp⟩) (by assumption) ?_
            simp only [Act.put, List.getElem_toArray, List.getElem_cons_zero, List.setIfInBounds_toArray, List.set_cons_zero, List.set_cons_succ]
            refine wpAnyH_take (i := 1) (v := .int .i64 (i : Int)) rfl (by kernel_rfl) (by kernel_rfl) (by kernel_rfl) (fun c a w h => hKp c a _ _ w h) (Or.inl ⟨by kernel_rfl, fun w hSw => by dsimp only at hSw; obtain ⟨-, c1⟩ := hSw; go_simp⟩) (by assumption) ?_
            simp only [Act.put, List.getElem_toArray, List.getElem_cons_zero, List.getElem_cons_succ, List.setIfInBounds_toArray, List.set_cons_zero, List.set_cons_succ]
            refine wpAnyH_take (i := 2) (v := .string p1) rfl (by kernel_rfl) (by kernel_rfl) (by kernel_rfl) (fun c a w h => hKp c a _ _ w h) (Or.inl ⟨by kernel_rfl, fun w hSw => by dsimp only at hSw; obtain ⟨-, c1⟩ := hSw; go_simp⟩) (by assumption) ?_
            simp only [Act.put, List.getElem_toArray, List.getElem_cons_zero, List.getElem_cons_succ, List.setIfInBounds_toArray, List.set_cons_zero, List.set_cons_succ]
            refine wpAnyH_take (i := 3) (v := .pointer (some ⟨w.heap.size + 1, 1, none⟩)) rfl (by kernel_rfl) (by kernel_rfl) (by kernel_rfl) (fun c a w h => hKp c a _ _ w h) (Or.inl ⟨by kernel_rfl, fun w hSw => by dsimp only at hSw; obtain ⟨-, c1⟩ := hSw; go_simp⟩) (by assumption) ?_
            simp only [Act.put, List.getElem_toArray, List.getElem_cons_zero, List.getElem_cons_succ, List.setIfInBounds_toArray, List.set_cons_zero, List.set_cons_succ]
            refine wpAnyH_take (i := 4) (v := .int .i64 q1) rfl (by kernel_rfl) (by kernel_rfl) (by kernel_rfl) (fun c a w h => hKp c a _ _ w h) (Or.inl ⟨by kernel_rfl, fun w hSw => by dsimp only at hSw; obtain ⟨-, c1⟩ := hSw; go_simp⟩) (by assumption) ?_
            simp only [Act.put, List.getElem_toArray, List.getElem_cons_zero, List.getElem_cons_succ, List.setIfInBounds_toArray, List.set_cons_zero, List.set_cons_succ]
            refine wpAnyH_take (i := 5) (v := .int .u8 (q1 % 256)) rfl (by kernel_rfl) (by kernel_rfl) (by kernel_rfl) (fun c a w h => hKp c a _ _ w h) (Or.inl ⟨by kernel_rfl, fun w hSw => by dsimp only at hSw; obtain ⟨-, c1⟩ := hSw; go_simp⟩) (by assumption) ?_
            simp only [Act.put, List.getElem_toArray, List.getElem_cons_zero, List.getElem_cons_succ, List.setIfInBounds_toArray, List.set_cons_zero, List.set_cons_succ]
            refine wpAnyH_take (i := 9) (v := .string t) rfl (by kernel_rfl) (by kernel_rfl) (by kernel_rfl) (fun c a w h => hKp c a _ _ w h) (Or.inl ⟨by kernel_rfl, fun w hSw => by dsimp only at hSw; obtain ⟨-, c1⟩ := hSw; go_simp⟩) (by assumption) ?_
            simp only [Act.put, List.getElem_toArray, List.getElem_cons_zero, List.getElem_cons_succ, List.setIfInBounds_toArray, List.set_cons_zero, List.set_cons_succ]
            refine wpAnyH_take (i := 10) (v := .int .i64 (i : Int)) rfl (by kernel_rfl) (by kernel_rfl) (by kernel_rfl) (fun c a w h => hKp c a _ _ w h) (Or.inl ⟨by kernel_rfl, fun w hSw => by dsimp only at hSw; obtain ⟨-, c1⟩ := hSw; go_simp⟩) (by assumption) ?_
            simp only [Act.put, List.getElem_toArray, List.getElem_cons_zero, List.getElem_cons_succ, List.setIfInBounds_toArray, List.set_cons_zero, List.set_cons_succ]
            refine wpAnyH_take (i := 11) (v := .int .i64 ((i : Int) + 1)) rfl (by kernel_rfl) (by kernel_rfl) (by kernel_rfl) (fun c a w h => hKp c a _ _ w h) (Or.inl ⟨by kernel_rfl, fun w hSw => by dsimp only at hSw; obtain ⟨-, c1⟩ := hSw; go_simp⟩) (by assumption) ?_
            simp only [Act.put, List.getElem_toArray, List.getElem_cons_zero, List.getElem_cons_succ, List.setIfInBounds_toArray, List.set_cons_zero, List.set_cons_succ]
            refine wpAnyH_take (i := 12) (v := .string p2) rfl (by kernel_rfl) (by kernel_rfl) (by kernel_rfl) (fun c a w h => hKp c a _ _ w h) (Or.inl ⟨by kernel_rfl, fun w hSw => by dsimp only at hSw; obtain ⟨-, c1⟩ := hSw; go_simp⟩) (by assumption) ?_
            simp only [Act.put, List.getElem_toArray, List.getElem_cons_zero, List.getElem_cons_succ, List.setIfInBounds_toArray, List.set_cons_zero, List.set_cons_succ]
            refine wpAnyH_ready (rs := [6]) (by kernel_rfl) (by simp) ?_
            refine AllReadyH.cons rfl (fun Kx hKx => ?_) AllReadyH.nil
            try rw [if_pos (by kernel_rfl)]
            go_simp
            refine hKx.out _ _ (HC.out _ (hd.alloc hd.size _)) (fun hHeld => ?_)
            clear hKx Kx
            try simp only [Act.put, List.getElem_toArray, List.getElem_cons_zero, List.getElem_cons_succ, List.setIfInBounds_toArray, List.set_cons_zero, List.set_cons_succ]
            refine wpAnyH_strongB (S' := fun w' => (Below W1.heap.size W1 w' ∧ w'.cell? ⟨w.heap.size + 1, 1, none⟩ = some (.int .i64 q1)) ∧ w'.cell? ⟨wo.heap.size, 0, none⟩ = some (.int .u8 (q1 % 256))) (fun _ h => h.1) _ _ _ _ ?_
            have hHeldB := And.intro hHeld (cellAtY (World.alloc_heap_new wo.drew (.cells #[.int .u8 (q1 % 256)] 5)) 0 _ rfl)
            refine wpAnyH_take (i := 7) (v := .string cc) rfl (by kernel_rfl) (by kernel_rfl) (by kernel_rfl) (fun c a w h => hKp c a _ _ w h) (Or.inl ⟨by kernel_rfl, fun w hSw => by dsimp only at hSw; obtain ⟨⟨-, c1⟩, c3⟩ := hSw; have hcw := hcv _ _ c3; go_simp⟩) (by assumption) ?_
            simp only [Act.put, List.getElem_toArray, List.getElem_cons_zero, List.getElem_cons_succ, List.setIfInBounds_toArray, List.set_cons_zero, List.set_cons_succ]
            refine wpAnyH_take (i := 8) (v := .string x1) rfl (by kernel_rfl) (by kernel_rfl) (by kernel_rfl) (fun c a w h => hKp c a _ _ w h) (Or.inl ⟨by kernel_rfl, fun w hSw => by dsimp only at hSw; obtain ⟨⟨-, c1⟩, c3⟩ := hSw; go_simp⟩) (by assumption) ?_
            simp only [Act.put, List.getElem_toArray, List.getElem_cons_zero, List.getElem_cons_succ, List.setIfInBounds_toArray, List.set_cons_zero, List.set_cons_succ]
            refine wpAnyH_take (i := 13) (v := .string x2) rfl (by kernel_rfl) (by kernel_rfl) (by kernel_rfl) (fun c a w h => hKp c a _ _ w h) (Or.inl ⟨by kernel_rfl, fun w hSw => by dsimp only at hSw; obtain ⟨⟨-, c1⟩, c3⟩ := hSw; go_simp⟩) (by assumption) ?_
            simp only [Act.put, List.getElem_toArray, List.getElem_cons_zero, List.getElem_cons_succ, List.setIfInBounds_toArray, List.set_cons_zero, List.set_cons_succ]
            refine wpAnyH_take (i := 14) (v := .string x2) rfl (by kernel_rfl) (by kernel_rfl) (by kernel_rfl) (fun c a w h => hKp c a _ _ w h) (Or.inl ⟨by kernel_rfl, fun w hSw => by dsimp only at hSw; obtain ⟨⟨-, c1⟩, c3⟩ := hSw; go_simp⟩) (by assumption) ?_
            simp only [Act.put, List.getElem_toArray, List.getElem_cons_zero, List.getElem_cons_succ, List.setIfInBounds_toArray, List.set_cons_zero, List.set_cons_succ]
            refine wpAnyH_done (by kernel_rfl) ?_ _
            exact hfin _ ((Below.drew (Below.refl _ _)).alloc (Nat.le_refl _) _)
            rintro wz hbz
            have HBZ := Lib.hid (HBO.out.1.trans (hbz.mono HBO.out.1.size))
            clear hbz hd HC hi
            have HDZ := Lib.hid (HDX.out wz HBZ.out)
            have HBX := Lib.hid (show ∀ w', Below wz.heap.size wz w' → Below w.heap.size w w' from fun w' h => HBZ.out.trans (h.mono HBZ.out.size))
            clear HDX HBZ HBO HQ2 HBW HBL
            by_cases hok : decOk x2
            · have HZ1 := Lib.hid (HDZ.out.mono (R' := fun e w' => ∃ e1 f1 e2 f2 e3 f3 e4 f4, e = .returned (.tuple #[.agg #[.slice e1 (cntN (unpI x2) 0) f1, .slice e2 (cntN (unpI x2) 1) f2, .slice e3 (cntN (unpI x2) 2) f3, .slice e4 (cntN (unpI x2) 3) f4, .int .i64 (unpI x2).th, .int .i64 (unpI x2).de], .nilIface]) ∧ ImR w' (.slice e1 (cntN (unpI x2) 0) f1) (.slice e2 (cntN (unpI x2) 1) f2) (.slice e3 (cntN (unpI x2) 2) f3) (.slice e4 (cntN (unpI x2) 3) f4) (unpI x2) ∧ Below wz.heap.size wz w') fun e w' ⟨hD, hb⟩ => by
                rcases hD with ⟨-, v1, v2, v3, v4, rfl, hJ⟩ | ⟨hno, -⟩
                · obtain ⟨e1, f1, e2, f2, e3, f3, e4, f4, rfl, rfl, rfl, rfl⟩ := hJ.slices
                  exact ⟨_, _, _, _, _, _, _, _, rfl, hJ, hb⟩
                · exact (hno hok).elim)
              have HEQ := Lib.hid (show encE (unpI x2) = none ∧ encB (unpI x2) = x2 from hok)
              clear hok HDZ
              generalize unpI x2 = xi at *
              go_upto_region 27 with (go_at_call 8; (with_reducible refine HZ1.out.mono ?_); rintro e wd ⟨e1, f1, e2, f2, e3, f3, e4, f4, rfl, hJ, hbd⟩)
              obtain ⟨WD, hWD⟩ : ∃ x, wd.alloc (.cells #[.slice e1 (cntN xi 0) f1, .slice e2 (cntN xi 1) f2, .slice e3 (cntN xi 2) f3, .slice e4 (cntN xi 3) f4, .int .i64 xi.th, .int .i64 xi.de] 33) = x := ⟨_, rfl⟩
              have hXD : WD.heap[wd.heap.size]? = some (.cells #[.slice e1 (cntN xi 0) f1, .slice e2 (cntN xi 1) f2, .slice e3 (cntN xi 2) f3, .slice e4 (cntN xi 3) f4, .int .i64 xi.th, .int .i64 xi.de] 33 (0, 0)) := by rw [← hWD]; exact World.alloc_heap_new _ _
              have hbD : Below wd.heap.size wd WD := by rw [← hWD]; exact (Below.refl _ _).alloc (Nat.le_refl _) _
              rw [hWD]
              clear hWD
              have hBD := hbd.trans (hbD.mono hbd.size)
              obtain ⟨k0, k1, k2, k3, k4, k5⟩ := cells6 hXD
              have HEN := Lib.hid (encode_im e1 e2 e3 e4 f1 f2 f3 f4 xi WD (hJ.below hbD) HIS.out (HGL.out _ (HBX.out _ hBD)))
              rw [HEQ.out.1, HEQ.out.2] at HEN
              have HBD := Lib.hid hBD
              clear hXD hbD hbd hBD hJ
              go_wp2_with (go_at_call 7; (with_reducible refine HEN.out.mono ?_); rintro e we ⟨ve, rfl, hve, hbe⟩; obtain rfl : ve = .nilIface := hve)
              go_ret
              exact ⟨rfl, HBX.out _ (HBD.out.trans (hbe.mono HBD.out.size))⟩
            · have HZ2 := Lib.hid (HDZ.out.mono (R' := fun e w' => ∃ bf, e = .returned (.tuple #[.agg #[.slice none 0 0, .slice none 0 0, .slice none 0 0, .slice none 0 0, .int .i64 0, .int .i64 0], .iface 130 (.pointer (some ⟨bf, 0, none⟩))]) ∧ Below wz.heap.size wz w') fun e w' ⟨hD, hb⟩ => by
                rcases hD with ⟨hyes, -⟩ | ⟨-, v, rfl, hv⟩
                · exact (hok hyes).elim
                · obtain ⟨bf, rfl, -⟩ := hv
                  exact ⟨bf, rfl, hb⟩)
              clear hok HDZ
              go_wp2_with (go_at_call 8; (with_reducible refine HZ2.out.mono ?_); rintro e wd ⟨bf, rfl, hbd⟩)
              go_ret
              exact ⟨rfl, HBX.out _ (hbd.alloc hbd.size _)⟩
end Go.Proofs.YtaoggmfedocfeaaGreatDoor
