/-
  The document's own Unpack.
-/
import Derived.Test.YtlpjdknmnomdlaaDoorCRef
namespace Go.Proofs.YtlpjdknmnomdlaaDoor
open Go Go.RowKit

/- The bytes up to the first 0. -/
def preL (l : List UInt8) : List UInt8 := l.takeWhile (· != 0)
theorem preL_zeros (l : List UInt8) (k : Nat) (h : ∀ c ∈ l, c ≠ 0) : preL (l ++ List.replicate k 0) = l := by
  unfold preL
  induction l with
  | nil => cases k <;> simp [List.replicate_succ]
  | cons c r ih =>
    have hc : (c != 0) = true := by simpa using h c (by simp)
    rw [List.cons_append, List.takeWhile_cons, if_pos hc, ih fun x hx => h x (by simp [hx])]
theorem length_preL (l : List UInt8) : (preL l).length ≤ l.length := by
  unfold preL
  induction l with
  | nil => simp
  | cons c r ih => rw [List.takeWhile_cons]; split <;> simp <;> omega
def preS (n : Nat) : ByteArray := ofL (preL (putL n 8))
theorem size_preS (n : Nat) : (preS n).size ≤ 8 := by
  unfold preS; rw [size_ofL]
  have := length_preL (putL n 8)
  rw [length_putL] at this
  exact this
theorem preS_good (n : Nat) (h : packT (unS n) = true) : preS n = unS n := by
  have h' := (packT_iff _).1 h
  obtain ⟨k, hk⟩ := trimZ_parts (putL n 8)
  unfold preS unS at *
  rw [bs_ofL] at h'
  conv => lhs; rw [hk]
  rw [preL_zeros _ _ fun c hc => isP_nz c (h'.2 c hc)]
theorem preS_packs (n : Nat) (h : packT (preS n) = true) (h2 : packN (preS n) = n) : packT (unS n) = true := by
  have e := low_packed h
  unfold packN at h2
  rw [e, if_pos h] at h2
  have := unS_num h
  rw [h2] at this
  rw [this]; exact h
/-- What the document's Unpack asks of the text ahead of the first 0. -/
theorem unref (n : Nat) (hn : n < 256 ^ 8) :
    (packT (unS n) = true ∧ preS n = unS n ∧ packT (preS n) = true ∧ packT (lowS (preS n)) = true ∧ packN (preS n) = n) ∨
    (packT (unS n) = false ∧ packT (preS n) = false) ∨ (packT (unS n) = false ∧ packT (preS n) = true ∧ packT (lowS (preS n)) = true ∧ packN (preS n) ≠ n) := by
  cases h : packT (unS n) with
  | true =>
    have e := preS_good n h
    refine .inl ⟨rfl, e, by rw [e]; exact h, by rw [e, low_packed h]; exact h, ?_⟩
    unfold packN
    rw [e, low_packed h, if_pos h]
    exact num_unS n hn
  | false =>
    cases h2 : packT (preS n) with
    | false => exact .inr (.inl ⟨rfl, rfl⟩)
    | true =>
      refine .inr (.inr ⟨rfl, rfl, by rw [low_packed h2]; exact h2, fun h3 => ?_⟩)
      have := preS_packs n h2 h3
      rw [h] at this; cases this

/-- What the rounds keep. -/
structure UnI (n : Nat) (w : World) (i1 : Nat) (t : ByteArray) (wr : World) : Prop where
  le : i1 ≤ 8
  tx : bs t = (putL n 8).take (8 - i1)
  nz : ∀ c ∈ bs t, c ≠ 0
  r1 : wr.cell? ⟨w.heap.size, 0, none⟩ = some (.string ⟨#[]⟩)
  r2 : wr.cell? ⟨w.heap.size, 1, none⟩ = some (.bool false)
  r3 : wr.frozen? ⟨w.heap.size, 0, none⟩ = false
  r4 : wr.frozen? ⟨w.heap.size, 1, none⟩ = false
  sz : w.heap.size < wr.heap.size
  bel : Below w.heap.size w wr
theorem putL_get (n k j : Nat) (h : j < k) : (putL n k)[j]? = some (byteAt n (k - 1 - j)) := by
  induction k generalizing j with
  | zero => omega
  | succ k ih =>
    cases j with
    | zero => simp [putL]
    | succ j => rw [putL, List.getElem?_cons_succ, ih j (by omega)]; congr 2; omega
theorem takeWhile_stop (l r : List UInt8) (h : ∀ c ∈ l, c ≠ 0) : preL (l ++ 0 :: r) = l := by
  unfold preL
  induction l with
  | nil => simp
  | cons c q ih =>
    have hc : (c != 0) = true := by simpa using h c (by simp)
    rw [List.cons_append, List.takeWhile_cons, if_pos hc, ih fun x hx => h x (by simp [hx])]
theorem UnI.fin {n : Nat} {w wr : World} {t : ByteArray} (h : UnI n w 0 t wr) : t = preS n := by
  have h1 := h.tx
  rw [Nat.sub_zero, List.take_of_length_le (by rw [length_putL]; omega)] at h1
  unfold preS
  have h2 := preL_zeros (bs t) 0 h.nz
  rw [List.replicate_zero, List.append_nil, h1] at h2
  rw [h2, ← h1]
  exact (ofL_bs t).symm
theorem UnI.stop {n i : Nat} {w wr : World} {t : ByteArray} (h : UnI n w (i + 1) t wr) (hz : byteAt n i = 0) : t = preS n := by
  have hi := h.le
  have hg := putL_get n 8 (8 - (i + 1)) (by omega)
  rw [show 8 - 1 - (8 - (i + 1)) = i by omega, hz] at hg
  obtain ⟨hlt, hg'⟩ := List.getElem?_eq_some_iff.1 hg
  have e : putL n 8 = bs t ++ 0 :: (putL n 8).drop (8 - (i + 1) + 1) := by
    conv => lhs; rw [← List.take_append_drop (8 - (i + 1)) (putL n 8)]
    rw [h.tx, List.drop_eq_getElem_cons hlt, hg']
  unfold preS
  rw [e, takeWhile_stop _ _ h.nz]
  exact (ofL_bs t).symm
theorem UnI.step {n i : Nat} {w wr wx : World} {t : ByteArray} (h : UnI n w (i + 1) t wr) (hz : byteAt n i ≠ 0) (hb : Below wr.heap.size wr wx) : UnI n w i (t ++ ofL [byteAt n i]) wx := by
  obtain ⟨h1, h2, h3, h4, h5, h6, h7, h8, h9⟩ := h
  have hg := putL_get n 8 (8 - (i + 1)) (by omega)
  rw [show 8 - 1 - (8 - (i + 1)) = i by omega] at hg
  have e : bs (t ++ ofL [byteAt n i]) = bs t ++ [byteAt n i] := by
    conv => lhs; rw [← ofL_bs t, ofL_append, bs_ofL]
  refine ⟨by omega, ?_, ?_, (hb.cell (p := ⟨w.heap.size, 0, none⟩) h8).trans h4, (hb.cell (p := ⟨w.heap.size, 1, none⟩) h8).trans h5, (hb.frozen (p := ⟨w.heap.size, 0, none⟩) h8).trans h6, (hb.frozen (p := ⟨w.heap.size, 1, none⟩) h8).trans h7, Nat.lt_of_lt_of_le h8 hb.size, h9.trans (hb.mono (Nat.le_of_lt h8))⟩
  · rw [e, h2, show 8 - i = 8 - (i + 1) + 1 by omega, List.take_add_one, hg]; rfl
  · rw [e]
    intro c hc
    rcases List.mem_append.1 hc with hc | hc
    · exact h3 c hc
    · rw [List.mem_singleton.1 hc]; exact hz
theorem conv_one (c : UInt8) (w : World) : (convert 32 9 (.slice (some ⟨w.heap.size, 0, none⟩) 1 1)).run Tryd.prog (w.alloc (.cells #[.int .u8 (c.toNat : Int)] 5)) = .ok (.string (ofL [c])) (w.alloc (.cells #[.int .u8 (c.toNat : Int)] 5)) :=
  run_convert_bytes_back (P := Tryd.prog) _ 32 9 5 ⟨w.heap.size, 0, none⟩ 1 [c] Tryd.underlying32 Tryd.underlying5 Tryd.underlying9 (fun j hj => by
    obtain rfl : j = 0 := by simpa using hj
    simp [Addr.add])

theorem un_end (w w5 : World) (x : ByteArray) (b : Bool) (o : Obj) (c1 : w5.cell? ⟨w.heap.size, 0, none⟩ = some (.string ⟨#[]⟩)) (c2 : w5.cell? ⟨w.heap.size, 1, none⟩ = some (.bool false)) (h7 : w.heap.size < w5.heap.size) (hB : Below w.heap.size w w5) :
    (((w5.setCell ⟨w.heap.size, 0, none⟩ (.string x)).setCell ⟨w.heap.size, 1, none⟩ (.bool b)).alloc o).cell? ⟨w.heap.size, 0, none⟩ = some (.string x) ∧ (((w5.setCell ⟨w.heap.size, 0, none⟩ (.string x)).setCell ⟨w.heap.size, 1, none⟩ (.bool b)).alloc o).cell? ⟨w.heap.size, 1, none⟩ = some (.bool b) ∧
      Below w.heap.size w (((w5.setCell ⟨w.heap.size, 0, none⟩ (.string x)).setCell ⟨w.heap.size, 1, none⟩ (.bool b)).alloc o) := by
  have q1 := World.cell?_setCell_same w5 ⟨w.heap.size, 0, none⟩ (.string x) c1
  have q2 := (World.cell?_setCell_other w5 ⟨w.heap.size, 0, none⟩ ⟨w.heap.size, 1, none⟩ (.string x) (by simp)).trans c2
  have q3 := hB.setCell (p := ⟨w.heap.size, 0, none⟩) (Nat.le_refl _) (.string x)
  have p1 := (World.cell?_setCell_other (w5.setCell ⟨w.heap.size, 0, none⟩ (.string x)) ⟨w.heap.size, 1, none⟩ ⟨w.heap.size, 0, none⟩ (.bool b) (by simp)).trans q1
  have p2 := World.cell?_setCell_same _ _ (.bool b) q2
  have p3 := q3.setCell (p := ⟨w.heap.size, 1, none⟩) (Nat.le_refl _) (.bool b)
  have hs : w.heap.size < ((w5.setCell ⟨w.heap.size, 0, none⟩ (.string x)).setCell ⟨w.heap.size, 1, none⟩ (.bool b)).heap.size := by simpa using h7
  have hA := (Below.refl w.heap.size ((w5.setCell ⟨w.heap.size, 0, none⟩ (.string x)).setCell ⟨w.heap.size, 1, none⟩ (.bool b))).alloc (Nat.le_of_lt hs) o
  have hA' := (Below.refl (w.heap.size + 1) ((w5.setCell ⟨w.heap.size, 0, none⟩ (.string x)).setCell ⟨w.heap.size, 1, none⟩ (.bool b))).alloc hs o
  exact ⟨(hA'.cell (p := ⟨w.heap.size, 0, none⟩) (by simp)).trans p1, (hA'.cell (p := ⟨w.heap.size, 1, none⟩) (by simp)).trans p2, p3.trans hA⟩

set_option maxRecDepth 100000 in
set_option maxHeartbeats 4000000 in
theorem unpackR_any (n : Nat) (w : World) (hn : n < 18446744073709551616) :
    Calls Tryd.prog 29 #[.int .u64 (n : Int)] w fun e w' => e = .returned (.agg #[.string (unT n), .bool (packT (unS n))]) ∧ Below w.heap.size w w' := by
  have HC := Lib.hid (unref n hn)
  go_enter Tryd.func29, Tryd.ntmps29
  go_wp2
  go_loopw [3, 4] (fun x i wr => ∃ i1 : Nat, ∃ v : Int, ∃ t : ByteArray, v = (i1 : Int) - 1 ∧ i = .int .i64 v ∧ x = .string t ∧ UnI n w i1 t wr) (fun _ i _ => ((match i with | .int _ z => z | _ => 0) + 1).toNat)
  case atStart =>
    refine ⟨8, 7, ⟨#[]⟩, by omega, rfl, rfl, ⟨by omega, by simp, by simp, by simp, by simp, by simp, by simp, by simp, (Below.refl _ w).alloc (Nat.le_refl _) _⟩⟩
  case round =>
    obtain ⟨i1, v, t, hv, rfl, rfl, HR⟩ := hrel
    rcases i1 with _ | i
    · have : v = -1 := by omega
      subst this
      have HE := Lib.hid HR.fin
      obtain ⟨_, _, _, r1, r2, r3, r4, h5, h6⟩ := HR
      clear hv
      have hs8 : t.size ≤ 8 := by rw [HE.out]; exact size_preS n
      rw [← HE.out] at HC
      clear HE
      go_wp2_with fail
      refine (packR_any t wr (by omega)).mono ?_
      rintro e w5 ⟨rfl, hb5⟩
      have c1 := (hb5.cell (p := ⟨w.heap.size, 0, none⟩) h5).trans r1
      have c2 := (hb5.cell (p := ⟨w.heap.size, 1, none⟩) h5).trans r2
      have c3 := (hb5.frozen (p := ⟨w.heap.size, 0, none⟩) h5).trans r3
      have c4 := (hb5.frozen (p := ⟨w.heap.size, 1, none⟩) h5).trans r4
      have h7 : w.heap.size < w5.heap.size := Nat.lt_of_lt_of_le h5 hb5.size
      have hB := h6.trans (hb5.mono (Nat.le_of_lt h5))
      clear r1 r2 r3 r4 h5 h6 hb5
      have HM := Lib.hid (fun wx => may_any t wx (by omega))
      rcases HC.out with ⟨e1, e2, e3, e4, e5⟩ | ⟨e1, e3⟩ | ⟨e1, e3, e4, e5⟩
      · rw [e4, e5]
        rw [e3] at HM
        have HU := Lib.hid (show unT n = t ∧ packT (unS n) = true by unfold unT; rw [if_pos e1, e2]; exact ⟨rfl, e1⟩)
        have HE := Lib.hid (un_end w w5 t true (.cells #[.int .u64 (n : Int), .bool true] 41) c1 c2 h7 hB)
        clear HC e1 e2 e3 e4 e5
        go_wp2_with (go_at_call 26; refine (HM.out _).mono ?_; rintro e w' ⟨rfl, rfl⟩)
        obtain ⟨p1, p2, p3⟩ := HE.out
        rw [HU.out.1, HU.out.2]
        simp [bodyPost, results, Tryd.results29, go_sem, p1, p2, p3]
      · rw [e3] at HM
        have HU := Lib.hid (show unT n = ⟨#[]⟩ ∧ packT (unS n) = false by unfold unT; rw [if_neg (by simp [e1])]; exact ⟨rfl, e1⟩)
        generalize packN t = m
        generalize packT (lowS t) = b
        have HE := Lib.hid (un_end w w5 ⟨#[]⟩ false (.cells #[.int .u64 (m : Int), .bool b] 41) c1 c2 h7 hB)
        clear HC e1 e3
        go_wp2_with (go_at_call 26; refine (HM.out _).mono ?_; rintro e w' ⟨rfl, rfl⟩)
        obtain ⟨p1, p2, p3⟩ := HE.out
        rw [HU.out.1, HU.out.2]
        simp [bodyPost, results, Tryd.results29, go_sem, p1, p2, p3]
      · rw [e4]
        rw [e3] at HM
        have HU := Lib.hid (show unT n = ⟨#[]⟩ ∧ packT (unS n) = false by unfold unT; rw [if_neg (by simp [e1])]; exact ⟨rfl, e1⟩)
        generalize packN t = m at *
        have hne : ((m : Int) != (n : Int)) = true := by simp; omega
        have HE := Lib.hid (un_end w w5 ⟨#[]⟩ false (.cells #[.int .u64 (m : Int), .bool true] 41) c1 c2 h7 hB)
        clear HC e1 e3 e4 e5
        go_wp2_with (go_at_call 26; refine (HM.out _).mono ?_; rintro e w' ⟨rfl, rfl⟩)
        obtain ⟨p1, p2, p3⟩ := HE.out
        rw [HU.out.1, HU.out.2]
        simp [bodyPost, results, Tryd.results29, go_sem, p1, p2, p3]
    · have : v = (i : Int) := by omega
      subst this
      have h18 := HR.le
      clear hv
      have hsh : IntKind.u64.wrap (8 * (i : Int)) = 8 * (i : Int) := u64_wrap_id _ (by omega) (by omega)
      have hby := byte_int n i
      by_cases hz : byteAt n i = 0
      · have HE := Lib.hid (HR.stop hz)
        obtain ⟨_, _, _, r1, r2, r3, r4, h5, h6⟩ := HR
        rw [hz] at hby
        have hs8 : t.size ≤ 8 := by rw [HE.out]; exact size_preS n
        rw [← HE.out] at HC
        clear HE
        go_wp2_with fail
        refine (packR_any t wr (by omega)).mono ?_
        rintro e w5 ⟨rfl, hb5⟩
        have c1 := (hb5.cell (p := ⟨w.heap.size, 0, none⟩) h5).trans r1
        have c2 := (hb5.cell (p := ⟨w.heap.size, 1, none⟩) h5).trans r2
        have c3 := (hb5.frozen (p := ⟨w.heap.size, 0, none⟩) h5).trans r3
        have c4 := (hb5.frozen (p := ⟨w.heap.size, 1, none⟩) h5).trans r4
        have h7 : w.heap.size < w5.heap.size := Nat.lt_of_lt_of_le h5 hb5.size
        have hB := h6.trans (hb5.mono (Nat.le_of_lt h5))
        clear r1 r2 r3 r4 h5 h6 hb5
        have HM := Lib.hid (fun wx => may_any t wx (by omega))
        rcases HC.out with ⟨e1, e2, e3, e4, e5⟩ | ⟨e1, e3⟩ | ⟨e1, e3, e4, e5⟩
        · rw [e4, e5]
          rw [e3] at HM
          have HU := Lib.hid (show unT n = t ∧ packT (unS n) = true by unfold unT; rw [if_pos e1, e2]; exact ⟨rfl, e1⟩)
          have HE := Lib.hid (un_end w w5 t true (.cells #[.int .u64 (n : Int), .bool true] 41) c1 c2 h7 hB)
          clear HC e1 e2 e3 e4 e5
          go_wp2_with (go_at_call 26; refine (HM.out _).mono ?_; rintro e w' ⟨rfl, rfl⟩)
          obtain ⟨p1, p2, p3⟩ := HE.out
          rw [HU.out.1, HU.out.2]
          simp [bodyPost, results, Tryd.results29, go_sem, p1, p2, p3]
        · rw [e3] at HM
          have HU := Lib.hid (show unT n = ⟨#[]⟩ ∧ packT (unS n) = false by unfold unT; rw [if_neg (by simp [e1])]; exact ⟨rfl, e1⟩)
          generalize packN t = m
          generalize packT (lowS t) = b
          have HE := Lib.hid (un_end w w5 ⟨#[]⟩ false (.cells #[.int .u64 (m : Int), .bool b] 41) c1 c2 h7 hB)
          clear HC e1 e3
          go_wp2_with (go_at_call 26; refine (HM.out _).mono ?_; rintro e w' ⟨rfl, rfl⟩)
          obtain ⟨p1, p2, p3⟩ := HE.out
          rw [HU.out.1, HU.out.2]
          simp [bodyPost, results, Tryd.results29, go_sem, p1, p2, p3]
        · rw [e4]
          rw [e3] at HM
          have HU := Lib.hid (show unT n = ⟨#[]⟩ ∧ packT (unS n) = false by unfold unT; rw [if_neg (by simp [e1])]; exact ⟨rfl, e1⟩)
          generalize packN t = m at *
          have hne : ((m : Int) != (n : Int)) = true := by simp; omega
          have HE := Lib.hid (un_end w w5 ⟨#[]⟩ false (.cells #[.int .u64 (m : Int), .bool true] 41) c1 c2 h7 hB)
          clear HC e1 e3 e4 e5
          go_wp2_with (go_at_call 26; refine (HM.out _).mono ?_; rintro e w' ⟨rfl, rfl⟩)
          obtain ⟨p1, p2, p3⟩ := HE.out
          rw [HU.out.1, HU.out.2]
          simp [bodyPost, results, Tryd.results29, go_sem, p1, p2, p3]
      · have HS := Lib.hid (fun wx => HR.step (wx := wx) hz)
        have hzi : (((byteAt n i).toNat : Int) == 0) = false := by
          simp
          intro h0
          exact hz (UInt8.toNat_inj.1 (by simpa using h0))
        have hts : t.size ≤ 8 := by
          have := congrArg List.length HR.tx
          rw [size_bs, List.length_take, length_putL] at this
          omega
        generalize byteAt n i = c at *
        have hcv := conv_one c wr
        have hsz : (ofL [c]).size = 1 := rfl
        have hsun : ¬ (9223372036854775807 < t.size + (ofL [c]).size) := by omega
        clear HR
        go_wp2
        go_roundw
        case rel => exact ⟨i, _, _, rfl, rfl, rfl, HS.out _ ((Below.refl _ _).alloc (Nat.le_refl _) _)⟩
        case measure => simp
end Go.Proofs.YtlpjdknmnomdlaaDoor
