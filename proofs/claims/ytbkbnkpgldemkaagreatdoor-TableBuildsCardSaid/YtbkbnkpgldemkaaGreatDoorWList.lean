/-
  A table by its list of rows; kinds of what Build tells.
-/
import Derived.Test.YtbkbnkpgldemkaaGreatDoorWRows
namespace Go.Proofs.YtbkbnkpgldemkaaGreatDoor
open Go Go.RowKit

/-- A table of these rows, in order. -/
structure TabL (w : World) (b W K : Nat) (L : List ByteArray) : Prop where
  tab : w.heap[b]? = some (tabObj W K (catW L))
  wid : Wid W K (catW L)
  sz : ∀ x ∈ L, x.size = W
  rise : RisingW K L
theorem TabL.below {w w' : World} {b W K : Nat} {L : List ByteArray} (h : TabL w b W K L) (hb : Below w.heap.size w w') : TabL w' b W K L := ⟨(hb.block _ (lt_of_block h.tab)).trans h.tab, h.wid, h.sz, h.rise⟩
theorem TabL.rows {w : World} {b W K : Nat} {L : List ByteArray} (h : TabL w b W K L) : rowsW W (catW L) = L := rows_cat h.wid.pos h.sz
theorem TabL.count {w : World} {b W K : Nat} {L : List ByteArray} (h : TabL w b W K L) : (catW L).size / W = L.length := by have := rowsW_len W (catW L); rw [h.rows] at this; exact this.symm
theorem TabL.len {w : World} {b W K : Nat} {L : List ByteArray} (h : TabL w b W K L) :
    Calls Tryz.prog 28 #[.pointer (some ⟨b, 0, none⟩)] w fun e w' => e = .returned (.int .i64 (L.length : Int)) ∧ ∃ n, w' = w.drewN n := by
  have := lenW_any w h.tab h.wid.pos h.wid.w255 h.wid.sz
  rwa [h.count] at this
theorem TabL.row {w : World} {b W K i : Nat} {L : List ByteArray} {r : ByteArray} (h : TabL w b W K L) (hr : L[i]? = some r) :
    Calls Tryz.prog 23 #[.pointer (some ⟨b, 0, none⟩), .int .i64 (i : Int)] w fun e w' => e = .returned (.tuple #[.string r, .bool true]) ∧ ∃ n, w' = w.drewN n := by
  rw [← h.rows] at hr
  obtain ⟨h1, rfl⟩ := rowsW_get hr
  exact rowW_in w h.tab h.wid.pos h.wid.w255 h.wid.sz h1
theorem TabL.rowOut {w : World} {b W K : Nat} {L : List ByteArray} (h : TabL w b W K L) (i : Int) (hi : i < 0 ∨ (L.length : Int) ≤ i) :
    Calls Tryz.prog 23 #[.pointer (some ⟨b, 0, none⟩), .int .i64 i] w fun e w' => e = .returned (.tuple #[.string ⟨#[]⟩, .bool false]) ∧ ∃ n, w' = w.drewN n :=
  rowW_out i w h.tab h.wid.pos h.wid.w255 h.wid.sz (by rw [h.count]; exact hi)
theorem TabL.find {w : World} {b W K : Nat} {L : List ByteArray} (h : TabL w b W K L) (key : ByteArray) :
    Calls Tryz.prog 11 #[.pointer (some ⟨b, 0, none⟩), .string key] w fun e w' => e = .returned (.tuple #[.string ((findW K L key).getD ⟨#[]⟩), .bool (findW K L key).isSome]) ∧ Below w.heap.size w w' := by
  have := findW_any key w h.tab h.wid (by rw [h.rows]; exact mono_rising h.rise key)
  rwa [h.rows] at this
theorem TabL.found {w : World} {b W K i : Nat} {L : List ByteArray} {r : ByteArray} (h : TabL w b W K L) (hr : L[i]? = some r) :
    Calls Tryz.prog 11 #[.pointer (some ⟨b, 0, none⟩), .string (r.extract 0 K)] w fun e w' => e = .returned (.tuple #[.string r, .bool true]) ∧ Below w.heap.size w w' := by
  have := h.find (keyW K r)
  rwa [(find_hit h.rise hr).2] at this
theorem TabL.missed {w : World} {b W K : Nat} {L : List ByteArray} {key : ByteArray} (h : TabL w b W K L) (hr : ∀ r ∈ L, keyW K r ≠ key) :
    Calls Tryz.prog 11 #[.pointer (some ⟨b, 0, none⟩), .string key] w fun e w' => e = .returned (.tuple #[.string ⟨#[]⟩, .bool false]) ∧ Below w.heap.size w w' := by
  have := h.find key
  rwa [find_miss hr] at this
theorem TabL.bytes {w : World} {b W K : Nat} {L : List ByteArray} (h : TabL w b W K L) :
    Calls Tryz.prog 12 #[.pointer (some ⟨b, 0, none⟩)] w fun e w' => e = .returned (.string (catW L)) ∧ w = w' := bytesW_any w h.tab

theorem chain_ofW {W : World} {b : Nat} {k p : Int} (h : W.heap[b]? = some (faultObj p ⟨#[116, 97, 98, 108, 101]⟩ (.iface 40 (.int .i64 k)))) :
    Chain W (b + 1) (.iface 64 (.pointer (some ⟨b, 0, none⟩))) [.fault b p ⟨#[116, 97, 98, 108, 101]⟩, .num k] :=
  ⟨rfl, Nat.lt_succ_self _, _, h, rfl, rfl⟩
theorem kindW_any {v : Value} {k p : Int} (w : World) (h : FaultW w v k p) (hg : TypeLaid w) :
    Calls Tryz.prog 25 #[v] w fun e w' => e = .returned (.int .i64 k) ∧ Below w.heap.size w w' := by
  obtain ⟨b, rfl, hb⟩ := h
  exact kind_chain w (by simp) (lt_of_block hb) (chain_ofW hb) hg

theorem widT {W K : Nat} {L : List ByteArray} (h1 : 0 < K) (h2 : K ≤ W) (h3 : W ≤ 255) (hl : L.length ≤ 100) (hs : ∀ x ∈ L, x.size = W) : Wid W K (catW L) := ⟨h1, h2, h3, by
  rw [cat_size hs]
  have : L.length * W ≤ 100 * 255 := Nat.mul_le_mul hl h3
  omega⟩
/-- What Build makes of rows of the right size: a table in order, or an error. -/
theorem made_cases {w' : World} {t u : Value} {W K : Nat} {R : List ByteArray} (h : MadeW w' t u (W : Int) (K : Int) (catW (sortW R)) (buildE (W : Int) (K : Int) R (catW (sortW R)))) (h1 : 0 < K) (h2 : K ≤ W) (h3 : W ≤ 255) (hl : R.length ≤ 100) (hR : ∀ x ∈ R, x.size = W) :
    (u = .nilIface ∧ ∃ b, t = .pointer (some ⟨b, 0, none⟩) ∧ TabL w' b W K (sortW R)) ∨ (∃ i, badW K (sortW R) = some i ∧ t = .pointer none ∧ FaultW w' u 13 ((i * W : Nat) : Int)) := by
  have hW : 0 < W := by omega
  have hS := sortW_size hR
  have ho : oddW (W : Int) R = none := List.findIdx?_eq_none_iff.2 fun x hx => by simp [hR x hx]
  have hm : (catW (sortW R)).size % W = 0 := by rw [cat_size hS]; exact Nat.mul_mod_left _ _
  rw [buildE_ok (by omega), ho] at h
  change MadeW w' t u (W : Int) (K : Int) (catW (sortW R)) (newE (W : Int) (K : Int) (catW (sortW R))) at h
  rw [newE_order h1 h2 h3 hm, rows_cat hW hS] at h
  cases hb : badW K (sortW R) with
  | none =>
    rw [hb] at h
    obtain ⟨e, b, rfl, ht⟩ := h
    rw [Int.toNat_natCast, Int.toNat_natCast] at ht
    exact .inl ⟨e, b, rfl, ht, widT h1 h2 h3 (by rw [sortW_len]; exact hl) hS, hS, (badW_none h1 (fun x hx => by rw [hS x hx]; exact h2)).1 hb⟩
  | some i =>
    rw [hb] at h
    exact .inr ⟨i, rfl, h.1, h.2⟩
theorem not_rising {K i : Nat} {L : List ByteArray} (h1 : 0 < K) (hs : ∀ x ∈ L, K ≤ x.size) (h : badW K L = some i) : ¬ RisingW K L := fun h' => by
  rw [(badW_none h1 hs).2 h'] at h; cases h
/-- Build of rows of the right size that stand in order. -/
theorem made_rising {w' : World} {t u : Value} {W K : Nat} {R : List ByteArray} (h : MadeW w' t u (W : Int) (K : Int) (catW (sortW R)) (buildE (W : Int) (K : Int) R (catW (sortW R)))) (h1 : 0 < K) (h2 : K ≤ W) (h3 : W ≤ 255) (hl : R.length ≤ 100) (hR : ∀ x ∈ R, x.size = W) (hr : RisingW K R) :
    u = .nilIface ∧ ∃ b, t = .pointer (some ⟨b, 0, none⟩) ∧ TabL w' b W K R := by
  have hs := sortW_rising hr
  rcases made_cases h h1 h2 h3 hl hR with h | ⟨i, hi, _⟩
  · rwa [hs] at h
  · rw [hs] at hi
    exact absurd hr (not_rising h1 (fun x hx => by rw [hR x hx]; exact h2) hi)

theorem build_ok {W K : Nat} {R : List ByteArray} {v : Value} (w : World) (hv : RowW w v R) (h1 : 0 < K) (h2 : K ≤ W) (h3 : W ≤ 255) (hl : R.length ≤ 100) (hR : ∀ x ∈ R, x.size = W) (hb : badW K (sortW R) = none) :
    Calls Tryz.prog 10 #[.int .i64 (W : Int), .int .i64 (K : Int), v] w fun e w' => ∃ b, e = .returned (.tuple #[.pointer (some ⟨b, 0, none⟩), .nilIface]) ∧ (TabL w' b W K (sortW R) ∧ Below w.heap.size w w') := by
  refine (build_table (W : Int) (K : Int) v R w hv (by omega) (fun x hx => by rw [hR x hx]; omega)).mono fun e w' ⟨t, u, h, hm, hbel⟩ => ?_
  rcases made_cases hm h1 h2 h3 hl hR with ⟨rfl, b, rfl, ht⟩ | ⟨i, hi, _⟩
  · exact ⟨b, h, ht, hbel⟩
  · rw [hb] at hi; cases hi
theorem build_err {W K i : Nat} {R : List ByteArray} {v : Value} (w : World) (hv : RowW w v R) (h1 : 0 < K) (h2 : K ≤ W) (h3 : W ≤ 255) (hl : R.length ≤ 100) (hR : ∀ x ∈ R, x.size = W) (hb : badW K (sortW R) = some i) :
    Calls Tryz.prog 10 #[.int .i64 (W : Int), .int .i64 (K : Int), v] w fun e w' => ∃ t u, e = .returned (.tuple #[.pointer none, .iface t u]) ∧ (FaultW w' (.iface t u) 13 ((i * W : Nat) : Int) ∧ Below w.heap.size w w') := by
  refine (build_table (W : Int) (K : Int) v R w hv (by omega) (fun x hx => by rw [hR x hx]; omega)).mono fun e w' ⟨t, u, h, hm, hbel⟩ => ?_
  rcases made_cases hm h1 h2 h3 hl hR with ⟨_, b, _, ht⟩ | ⟨j, hj, rfl, hf⟩
  · have hs := sortW_size hR
    have := (badW_none h1 (fun x hx => by rw [hs x hx]; exact h2)).2 ht.rise
    rw [hb] at this; cases this
  · rw [hb] at hj
    cases hj
    obtain ⟨ty, uu, rfl⟩ := hf.iface
    exact ⟨ty, uu, h, hf, hbel⟩
theorem build_rising {W K : Nat} {R : List ByteArray} {v : Value} (w : World) (hv : RowW w v R) (h1 : 0 < K) (h2 : K ≤ W) (h3 : W ≤ 255) (hl : R.length ≤ 100) (hR : ∀ x ∈ R, x.size = W) (hr : RisingW K R) :
    Calls Tryz.prog 10 #[.int .i64 (W : Int), .int .i64 (K : Int), v] w fun e w' => ∃ b, e = .returned (.tuple #[.pointer (some ⟨b, 0, none⟩), .nilIface]) ∧ (TabL w' b W K R ∧ Below w.heap.size w w') := by
  have hs := sortW_rising hr
  have := build_ok w hv h1 h2 h3 hl hR (by rw [hs]; exact (badW_none h1 (fun x hx => by rw [hR x hx]; exact h2)).2 hr)
  rwa [hs] at this

/-- The first k rows, without the n-th. -/
def leftW (n : Nat) (L : List ByteArray) (k : Nat) : List ByteArray := (L.take k).eraseIdx n
theorem leftW_ne {n k : Nat} {L : List ByteArray} {r : ByteArray} (hr : L[k]? = some r) (hne : k ≠ n) : leftW n L (k + 1) = leftW n L k ++ [r] := by
  have hk : (L.take k).length = k := by rw [List.length_take]; have := (List.getElem?_eq_some_iff.1 hr).1; omega
  unfold leftW
  rw [take_nextW hr]
  rcases Nat.lt_or_ge n k with h | h
  · rw [List.eraseIdx_append_of_lt_length (by rw [hk]; exact h)]
  · rw [List.eraseIdx_append_of_length_le (by rw [hk]; exact h), hk, List.eraseIdx_of_length_le (l := L.take k) (by rw [hk]; exact h)]
    obtain ⟨m, hm⟩ : ∃ m, n - k = m + 1 := ⟨n - k - 1, by omega⟩
    rw [hm]; rfl
theorem leftW_eq {n : Nat} {L : List ByteArray} {r : ByteArray} (hr : L[n]? = some r) : leftW n L (n + 1) = leftW n L n := by
  have hk : (L.take n).length = n := by rw [List.length_take]; have := (List.getElem?_eq_some_iff.1 hr).1; omega
  unfold leftW
  rw [take_nextW hr, List.eraseIdx_append_of_length_le (by rw [hk]; exact Nat.le_refl _), hk, Nat.sub_self, List.eraseIdx_of_length_le (l := L.take n) (by rw [hk]; exact Nat.le_refl _)]
  simp
theorem leftW_all (n : Nat) (L : List ByteArray) : leftW n L L.length = L.eraseIdx n := by unfold leftW; rw [List.take_length]
theorem leftW_len (n k : Nat) (L : List ByteArray) : (leftW n L k).length ≤ k := by
  unfold leftW
  have := (List.eraseIdx_sublist (L.take k) n).length_le
  rw [List.length_take] at this; omega
theorem erase_facts {K n : Nat} {L : List ByteArray} {g : ByteArray} (hr : RisingW K L) (hg : L[n]? = some g) : RisingW K (L.eraseIdx n) ∧ (∀ x ∈ L.eraseIdx n, x ∈ L) ∧ (L.eraseIdx n).length + 1 = L.length ∧ ∀ r ∈ L.eraseIdx n, keyW K r ≠ keyW K g := by
  have hs := List.eraseIdx_sublist L n
  have hn := (List.getElem?_eq_some_iff.1 hg).1
  refine ⟨hr.sublist hs, fun x hx => hs.mem hx, by rw [List.length_eraseIdx_of_lt hn]; omega, fun r hx he => ?_⟩
  obtain ⟨i, hi⟩ := List.getElem?_of_mem hx
  rw [List.getElem?_eraseIdx] at hi
  split at hi
  · rename_i h
    have := rising_key hr hi hg he
    omega
  · rename_i h
    have := rising_key hr hi hg he
    omega
theorem new_okW {W K : Nat} {L : List ByteArray} (w : World) (h1 : 0 < K) (h2 : K ≤ W) (h3 : W ≤ 255) (hl : L.length ≤ 100) (hs : ∀ x ∈ L, x.size = W) (hr : RisingW K L) :
    Calls Tryz.prog 16 #[.int .i64 (W : Int), .int .i64 (K : Int), .string (catW L)] w fun e w' => ∃ b, e = .returned (.tuple #[.pointer (some ⟨b, 0, none⟩), .nilIface]) ∧ (TabL w' b W K L ∧ Below w.heap.size w w') := by
  have hw := widT h1 h2 h3 hl hs
  have hW : 0 < W := by omega
  refine (new_table (W : Int) (K : Int) (catW L) w hw.sz).mono fun e w' ⟨t, u, h, hm, hbel⟩ => ?_
  rw [newE_order h1 h2 h3 (by rw [cat_size hs]; exact Nat.mul_mod_left _ _), rows_cat hW hs, (badW_none h1 (fun x hx => by rw [hs x hx]; exact h2)).2 hr] at hm
  obtain ⟨rfl, b, rfl, ht⟩ := hm
  rw [Int.toNat_natCast, Int.toNat_natCast] at ht
  exact ⟨b, h, ⟨ht, hw, hs, hr⟩, hbel⟩
end Go.Proofs.YtbkbnkpgldemkaaGreatDoor
