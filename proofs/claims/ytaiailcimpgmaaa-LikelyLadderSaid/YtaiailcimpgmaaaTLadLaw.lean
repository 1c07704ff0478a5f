/-
  LikelyLadder: its own walk. (Printed by wip/gen_tladlaw.py.)
-/
import Derived.Test.YtaiailcimpgmaaaTPlain
namespace Go.Proofs.Ytaiailcimpgmaaa
open Go Go.RowKit Go.Maps

attribute [local go_sem] Oper.semAt_some

theorem zero_boolT (w : World) : (zeroValue 4).run Try.prog w = .ok (.bool false) w := by rfl
theorem plainElem_bool_invT {H : Type} {P : Program} {e : TypeId} (he : P.underlying e = some .bool) {v : Value} {z : DataW H × List MemPlace} (h : plainElem P e v = some z) : ∃ b, v = .bool b ∧ z = (.lit (.bool b), []) := by
  unfold plainElem at h
  rw [he] at h
  cases v <;> simp at h
  exact ⟨_, rfl, h.symm⟩
/-- A set of keys, as a map of bools. -/
def BolO (W : World) (M n : Nat) (A : List KT) : Prop :=
  ∃ D, W.ownsMap Try.prog 33 (plainElem (H := Unit) Try.prog 4) M n D ∧ ∀ k, KST k → D.atKey (kLT k) (.lit (.bool false)) = .lit (.bool (hasD A k))
theorem BolO.start (w : World) : BolO (w.alloc (.map #[] 0)) w.heap.size 0 [] := ⟨_, World.ownsMap_made w _ _ _, fun _ _ => rfl⟩
theorem BolO.lt {W : World} {M n : Nat} {A : List KT} (h : BolO W M n A) : M < W.heap.size := by
  obtain ⟨D, h1, _⟩ := h
  exact h1.lt
theorem BolO.block {W W' : World} {M n : Nat} {A : List KT} (h : BolO W M n A) (e : W'.heap[M]? = W.heap[M]?) : BolO W' M n A := by
  obtain ⟨D, ⟨es, clock, hb, r⟩, h2⟩ := h
  exact ⟨D, ⟨es, clock, by rw [e]; exact hb, r⟩, h2⟩
set_option maxRecDepth 100000 in
theorem BolO.look {W : World} {M n : Nat} {A : List KT} (h : BolO W M n A) {a b c : ByteArray} (hk : KST (a, b, c)) :
    (Instr.lookup 32 (.map (some M)) (.agg #[.string a, .string b, .string c]) false).run Try.prog W = .ok (.bool (hasD A (a, b, c))) W := by
  obtain ⟨D, h1, h2⟩ := h
  obtain ⟨v, ps, hrun, hv⟩ := World.ownsMap.lookup h1 arrKeyedT Try.underlying32 (zero_boolT W) (plainElem_bool Try.underlying4 false) (keyArrT hk)
  obtain ⟨z, rfl, hc⟩ := plainElem_bool_invT Try.underlying4 hv
  have e1 := congrArg Prod.fst hc
  rw [h2 _ hk] at e1
  injection e1 with e1
  injection e1 with e1
  rw [hrun, e1]
set_option maxRecDepth 100000 in
theorem BolO.put {W : World} {M n : Nat} {A : List KT} (h : BolO W M n A) (hn : n ≤ 1000000) {p q r : ByteArray} (hk : KST (p, q, r)) :
    ∃ w', (Instr.mapUpdate 32 (.map (some M)) (.agg #[.string p, .string q, .string r]) (.bool true)).run Try.prog W = .ok () w' ∧ BolO w' M (n + 1) (A ++ [(p, q, r)]) ∧ W.grownBy w' (some M) := by
  obtain ⟨D, h1, h2⟩ := h
  obtain ⟨w', hrun, h3, h4⟩ := h1.update arrKeyedT Try.underlying32 (by unfold maxLen; omega) (keyArrT hk) (plainElem_bool (H := Unit) Try.underlying4 true)
  refine ⟨w', hrun, ⟨_, h3, fun k hks => ?_⟩, h4⟩
  have hD := (h1.tidy arrKeyedT).isMap
  rw [hasD_snoc]
  by_cases hkk : k = (p, q, r)
  · subst hkk
    rw [atKey_put_same hD (kLT_lit _)]
    simp
  · rw [atKey_put_other (fun e => hkk (kLT_inj hks hk e)), h2 k hks, decide_eq_false (fun e => hkk e.symm), Bool.or_false]

/-! What a ladder's rows are. -/
theorem ddT_nodup (l : List KT) : (ddT l).Nodup := by
  induction l using snoc_indT with
  | h0 => exact List.Pairwise.nil
  | h1 l x ih =>
    rw [ddT_snoc]
    unfold addD
    split
    · exact ih
    · rename_i h
      rw [hasD_iff] at h
      exact List.nodup_append.2 ⟨ih, by simp, fun a ha b hb => by rw [List.mem_singleton] at hb; subst hb; exact fun e => h (e ▸ ha)⟩
theorem ladT_new {l s r : ByteArray} {pre : List KT} {x : KT} (h : pre ++ [x] <+: ladT l s r) : hasD pre x = false := by
  have hn : (pre ++ [x]).Nodup := (List.IsPrefix.sublist h).nodup (ddT_nodup _)
  cases hd : hasD pre x with
  | false => rfl
  | true =>
    have := (hasD_iff _ _).1 hd
    exact absurd rfl ((List.nodup_append.1 hn).2.2 x this x (by simp))
theorem ladT_rows {l s r : ByteArray} {x : KT} (h : x ∈ ladT l s r) : x = (l, s, r) ∨ x = (l, ⟨#[]⟩, r) ∨ x = (l, s, ⟨#[]⟩) ∨ x = (l, ⟨#[]⟩, ⟨#[]⟩) ∨ (x = (undT, s, ⟨#[]⟩) ∧ 0 < s.size) := by
  have h := (mem_ddT _ x).1 h
  by_cases hs : 0 < s.size
  · have h2 := List.mem_of_mem_take h
    simp only [rungsT, List.mem_cons, List.not_mem_nil, or_false] at h2
    rcases h2 with h2 | h2 | h2 | h2 | h2
    · exact .inl h2
    · exact .inr (.inl h2)
    · exact .inr (.inr (.inl h2))
    · exact .inr (.inr (.inr (.inl h2)))
    · exact .inr (.inr (.inr (.inr ⟨h2, hs⟩)))
  · have h4 : sizeT l s ≤ 4 := by unfold sizeT; split; omega; rw [if_pos (by omega)]; omega
    have h2 : x ∈ (rungsT l s r).take 4 := List.mem_of_mem_take (show x ∈ ((rungsT l s r).take 4).take (sizeT l s) by rw [List.take_take, Nat.min_eq_left h4]; exact h)
    simp only [rungsT, List.take_succ_cons, List.take_zero, List.mem_cons, List.not_mem_nil, or_false] at h2
    rcases h2 with h2 | h2 | h2 | h2
    · exact .inl h2
    · exact .inr (.inl h2)
    · exact .inr (.inr (.inl h2))
    · exact .inr (.inr (.inr (.inl h2)))
theorem ladT_empty (l s r : ByteArray) : ((ladT l s r).length = 0 ↔ l.size = 0) := by
  constructor
  · intro h
    by_cases hl : l.size = 0
    · exact hl
    · exfalso
      have h1 : (l, s, r) ∈ ladT l s r := (mem_ddT _ _).2 (by
        unfold sizeT
        rw [if_neg hl]
        split <;> simp [rungsT])
      rw [List.length_eq_zero_iff.1 h] at h1
      cases h1
  · intro h
    unfold ladT sizeT
    rw [if_pos h]
    rfl

/-- The blocks that stood are what they were, but some. -/
structure ButT (p : Nat → Prop) (A W : World) : Prop where
  os : W.os = A.os
  tape : W.tape = A.tape
  output : W.output = A.output
  size : A.heap.size ≤ W.heap.size
  block : ∀ k, k < A.heap.size → ¬ p k → W.heap[k]? = A.heap[k]?
theorem ButT.refl (p : Nat → Prop) (A : World) : ButT p A A := ⟨rfl, rfl, rfl, Nat.le_refl _, fun _ _ _ => rfl⟩
theorem ButT.grown {p : Nat → Prop} {A W W' : World} {row : Option Nat} (h : ButT p A W) (hg : W.grownBy W' row) (hr : ∀ k, row = some k → p k ∨ A.heap.size ≤ k) : ButT p A W' :=
  ⟨hg.os.trans h.os, hg.tape.trans h.tape, hg.output.trans h.output, Nat.le_trans h.size hg.size, fun k hk hp => (hg.block k (Nat.lt_of_lt_of_le hk h.size) (fun e => by rcases hr k e.symm with h1 | h1; exact hp h1; omega)).trans (h.block k hk hp)⟩
theorem ButT.belowT {p : Nat → Prop} {A W : World} {n : Nat} {w : World} (h : ButT p A W) (hb : Below n w A) (hp : ∀ k, p k → n ≤ k) (hn : n ≤ A.heap.size) : Below n w W :=
  ⟨h.os.trans hb.os, h.tape.trans hb.tape, h.output.trans hb.output, Nat.le_trans hb.size h.size, fun k hk => (h.block k (by omega) (fun e => by have := hp k e; omega)).trans (hb.block k hk)⟩

theorem seq_nilT (a b : Nat) (w : World) : (binOp .eql 30 (.func (.func 11) #[] #[.pointer (some ⟨a, 0, none⟩), .pointer (some ⟨b, 0, none⟩)]) .nilFunc).run Try.prog w = .ok (.bool false) w := by kernel_rfl

theorem results_one_boolT {P : Program} {fn : Func} {q : Tmp} {tq : TypeId} (h : fn.results = #[.cell q tq]) (tmps : Array Value) (w : World) (g2 : Nat) (t2 : TypeId) (b : Bool)
    (hq : tmps.getD q undef = .pointer (some ⟨g2, 0, none⟩)) (hg2 : w.heap[g2]? = some (.cells #[.bool b] t2 (0, 0))) (hu2 : P.underlying tq = some .bool) : (results fn tmps).run P w = .ok (.bool b) w := by
  have hq' : tmps[q]?.getD undef = .pointer (some ⟨g2, 0, none⟩) := by simpa using hq
  simp [results, h, hq', asAddr, loadVar_boolT hg2 hu2]
set_option maxRecDepth 100000 in
set_option maxHeartbeats 8000000 in
theorem likelyLadder_law (q0 q1 q2 many : Int) (w : World) :
    Calls Try.prog 3 #[.agg #[.int .i64 q0, .int .i64 q1, .int .i64 q2], .int .i64 many] w fun e w' => e = .returned (.bool true) ∧ Below w.heap.size w w' := by
  have hmm := @run_makeMap Try.prog
  obtain ⟨W0, hW0⟩ : ∃ W0, (w.alloc (.cells #[.int .i64 q0, .int .i64 q1, .int .i64 q2] 22)).alloc (.cells #[.bool false] 4) = W0 := ⟨_, rfl⟩
  have hz0 : W0.heap.size = w.heap.size + 2 := by rw [← hW0]; simp
  have hb0 : Below w.heap.size w W0 := by rw [← hW0]; exact ((Below.refl _ w).alloc (Nat.le_refl _) _).alloc (by simp) _
  have hq0 : W0.heap[w.heap.size]? = some (.cells #[.int .i64 q0, .int .i64 q1, .int .i64 q2] 22 (0, 0)) := by rw [← hW0]; exact (Below.heap_alloc _ _ _ (by simp)).trans (World.alloc_heap_new w _)
  have hr0 : W0.heap[w.heap.size + 1]? = some (.cells #[.bool false] 4 (0, 0)) := by
    have h := World.alloc_heap_new (w.alloc (.cells #[.int .i64 q0, .int .i64 q1, .int .i64 q2] 22)) (.cells #[.bool false] 4)
    rw [World.size_alloc] at h
    rw [← hW0]
    exact h
  have HK := Lib.hid (tag18_small q0 q1 q2)
  have HPL := Lib.hid (fun w5 => plain18_any q0 q1 q2 w5)
  have hlt18 : tag18 q0 q1 q2 = plainM (pickT langs18 q0) (pickT scripts18 q1) (pickT regions18 q2) := rfl
  rw [hlt18] at HK
  generalize pickT langs18 q0 = l at *
  generalize pickT scripts18 q1 = s at *
  generalize pickT regions18 q2 = r at *
  clear hlt18
  have HAW := Lib.hid (awake18_any W0)
  have HB0 := Lib.hid hb0
  have HQ0 := Lib.hid hq0
  have HR0 := Lib.hid hr0
  have HZ0 := Lib.hid hz0
  have HW0 := Lib.hid hW0
  have HRE := Lib.hid (fun w5 => rest18_any many w5)
  obtain ⟨K, hK⟩ : ∃ K, pickI 6 many = K := ⟨_, rfl⟩
  rw [hK] at HRE
  clear hb0 hq0 hr0 hz0 hW0 hK
  refine callsIn_wide (n := 0) |>.1 ?_
  refine callsIn_of_wp_marks Try.func3 rfl trivial ?_ rfl
  simp only [Try.ntmps3, List.size_toArray, List.length_cons, List.length_nil, Nat.reduceAdd, Nat.reduceSub, Array.replicate_succ, Array.replicate_zero, List.push_toArray, List.append_toArray, List.nil_append, List.cons_append]
  gi_wp2_with fail
  rw [HW0.out]
  refine ⟨trivial, rfl, (callsIn_wide.2 HAW.out).mono ?_⟩
  rintro e w1 ⟨rfl, hb1⟩
  have HB1 := Lib.hid (HB0.out.trans (hb1.mono HB0.out.size))
  have HQ1 := Lib.hid ((hb1.block _ (lt_blockT HQ0.out)).trans HQ0.out)
  have HR1 := Lib.hid ((hb1.block _ (lt_blockT HR0.out)).trans HR0.out)
  have HZ1 := Lib.hid (show w.heap.size + 2 ≤ w1.heap.size by have := hb1.size; have := HZ0.out; omega)
  obtain ⟨c0, c1, c2⟩ := cells3T HQ1.out
  clear hb1
  gi_wp2_with fail
  refine ⟨trivial, rfl, (callsIn_wide.2 (HPL.out _)).mono ?_⟩
  rintro e w2 ⟨rfl, hb2⟩
  obtain ⟨nt, hnt⟩ : ∃ n, w2.heap.size = n := ⟨_, rfl⟩
  obtain ⟨W2, hW2⟩ : ∃ W2, w2.alloc (.cells #[.string l, .slice none 0 0, .string s, .string r, .slice none 0 0, .slice none 0 0, .slice none 0 0, .string ⟨#[]⟩] 27) = W2 := ⟨_, rfl⟩
  have HLM := Lib.hid (ladder_m _ (plainM l s r) W2 (plain_is W2 l s r))
  have hbw2 : Below w1.heap.size w1 W2 := by rw [← hW2]; exact hb2.alloc hb2.size _
  have HB2 := Lib.hid (HB1.out.trans (hbw2.mono HB1.out.size))
  have HR2 := Lib.hid ((hbw2.block _ (lt_blockT HR1.out)).trans HR1.out)
  have HT2 := Lib.hid (show W2.heap[nt]? = some (.cells #[.string l, .slice none 0 0, .string s, .string r, .slice none 0 0, .slice none 0 0, .slice none 0 0, .string ⟨#[]⟩] 27 (0, 0)) by rw [← hW2, ← hnt]; exact World.alloc_heap_new w2 _)
  have HN2 := Lib.hid (show w.heap.size + 2 ≤ nt by have := hb2.size; have := HZ1.out; omega)
  have HW2 := Lib.hid hW2
  have HNT := Lib.hid hnt
  clear c0 c1 c2 hb2 hW2 hnt hbw2
  gi_wp2_with fail
  rw [HW2.out]
  refine ⟨trivial, rfl, (callsIn_wide.2 HLM.out).mono ?_⟩
  rintro e w3 ⟨m, rfl, hla, hb3⟩
  have HLA := Lib.hid (show LadAt (m + 1) (m + 2) l s r w3 from hla)
  have HB3 := Lib.hid (HB2.out.trans (hb3.mono HB2.out.size))
  have HR3 := Lib.hid ((hb3.block _ (lt_blockT HR2.out)).trans HR2.out)
  have HT3 := Lib.hid ((hb3.block _ (lt_blockT HT2.out)).trans HT2.out)
  have hsn := seq_nilT (m + 1) (m + 2)
  rw [HNT.out]
  clear hla hb3 HPL HAW HW2 HNT
  gi_wp2_with fail
  simp only [Nat.add_assoc, Nat.reduceAdd]
  obtain ⟨W5, hW5⟩ : ∃ W5, ((w3.alloc (.map #[] 0)).alloc (.cells #[.map (some w3.heap.size)] 32)).alloc (.cells #[.int .i64 0] 3) = W5 := ⟨_, rfl⟩
  have hb5 : Below w3.heap.size w3 W5 := by rw [← hW5]; exact (((Below.refl _ w3).alloc (Nat.le_refl _) _).alloc (by simp) _).alloc (by simp; omega) _
  have hz5 : W5.heap.size = w3.heap.size + 3 := by rw [← hW5]; simp
  have HM5 := Lib.hid (show BolO W5 w3.heap.size 0 [] by
    rw [← hW5]
    exact (BolO.start w3).block ((Below.heap_alloc _ _ _ (by simp; omega)).trans (Below.heap_alloc _ _ _ (by simp))))
  have HX5 := Lib.hid (show W5.heap[w3.heap.size + 1]? = some (.cells #[.map (some w3.heap.size)] 32 (0, 0)) by
    have h := World.alloc_heap_new (w3.alloc (.map #[] 0)) (.cells #[.map (some w3.heap.size)] 32)
    rw [World.size_alloc] at h
    rw [← hW5]
    exact (Below.heap_alloc _ _ _ (by simp)).trans h)
  have HC5 := Lib.hid (show W5.heap[w3.heap.size + 2]? = some (.cells #[.int .i64 0] 3 (0, 0)) by
    have h := World.alloc_heap_new ((w3.alloc (.map #[] 0)).alloc (.cells #[.map (some w3.heap.size)] 32)) (.cells #[.int .i64 0] 3)
    rw [World.size_alloc, World.size_alloc] at h
    rw [← hW5]
    exact h)
  rw [hW5]
  have HLT := Lib.hid (show m + 1 < w3.heap.size ∧ m + 2 < w3.heap.size ∧ nt < w3.heap.size ∧ w.heap.size + 1 < w3.heap.size from ⟨lt_blockT HLA.out.r, lt_blockT HLA.out.s, lt_blockT HT3.out, lt_blockT HR3.out⟩)
  have HL5 := Lib.hid (HLA.out.below hb5)
  have HT5 := Lib.hid ((hb5.block _ HLT.out.2.2.1).trans HT3.out)
  have HR5 := Lib.hid ((hb5.block _ HLT.out.2.2.2).trans HR3.out)
  have HB5 := Lib.hid (HB3.out.trans (hb5.mono HB3.out.size))
  have HZ5 := Lib.hid hz5
  clear hW5 hb5 hz5 hmm hsn HW0
  refine rangeA (gf := 11) (lb := #[.pointer (some ⟨m + 1, 0, none⟩), .pointer (some ⟨m + 2, 0, none⟩)]) rfl (Go.Proofs.enters_of Try.func11 (by kernel_rfl) rfl)
    (lad_seq (fr := fun _ => false) (q := fun k => k = m + 1 ∨ k = m + 2) ⟨.inl rfl, .inr rfl⟩ HL5.out) (fun _ h => by cases h) (fun k hk => by have := HLT.out; have := HZ5.out; rcases hk with rfl | rfl <;> omega) (fun _ => rfl)
    (fun pre W => ButT (fun k => k = w3.heap.size ∨ k = w3.heap.size + 2) W5 W ∧ BolO W w3.heap.size pre.length pre ∧ W.heap[w3.heap.size + 2]? = some (.cells #[.int .i64 (pre.length : Int)] 3 (0, 0))) (fun _ _ _ => False)
    (fun s A B row hs hg hr => ⟨hs.1.grown hg (fun k e => .inr (hr k e).1), hs.2.1.block (hg.block _ hs.2.1.lt (fun e => by have := (hr _ e.symm).1; have := HZ5.out; omega)), (hg.block _ (lt_blockT hs.2.2) (fun e => by have := (hr _ e.symm).1; have := HZ5.out; omega)).trans hs.2.2⟩)
    (fun c s A B row hs hg hr => hs) ⟨ButT.refl _ _, HM5.out, HC5.out⟩
    (fun x N => { tmps := #[.agg #[.int .i64 q0, .int .i64 q1, .int .i64 q2], .int .i64 many, .pointer (some ⟨w.heap.size, 0, none⟩), undef, .pointer (some ⟨w.heap.size + 1, 0, none⟩), .bool true, .pointer (some ⟨nt, 0, none⟩), .func (.func 11) #[] #[.pointer (some ⟨m + 1, 0, none⟩), .pointer (some ⟨m + 2, 0, none⟩)], .pointer (some ⟨w3.heap.size + 1, 0, none⟩), .pointer (some ⟨w3.heap.size + 2, 0, none⟩), .pointer (some ⟨N, 0, none⟩), undef, undef, .bool true, .agg #[.int .i64 q0, .int .i64 q1, .int .i64 q2], .agg #[.string l, .slice none 0 0, .string s, .string r, .slice none 0 0, .slice none 0 0, .slice none 0 0, .string ⟨#[]⟩], .agg #[.string l, .slice none 0 0, .string s, .string r, .slice none 0 0, .slice none 0 0, .slice none 0 0, .string ⟨#[]⟩], .func (.func 11) #[] #[.pointer (some ⟨m + 1, 0, none⟩), .pointer (some ⟨m + 2, 0, none⟩)], .func (.func 11) #[] #[.pointer (some ⟨m + 1, 0, none⟩), .pointer (some ⟨m + 2, 0, none⟩)], .bool false, .map (some w3.heap.size), .func (.func 11) #[] #[.pointer (some ⟨m + 1, 0, none⟩), .pointer (some ⟨m + 2, 0, none⟩)], .agg #[.string x.1, .string x.2.1, .string x.2.2], undef, undef, undef, undef, undef, undef, undef, undef, undef, undef, undef, undef, undef, undef, undef, undef, undef, undef, undef, undef, undef, undef, undef, undef, undef, undef, undef, undef, undef, undef, undef, undef, undef, undef, undef, undef, undef, undef, undef, undef, undef, undef, undef, undef, undef, undef, undef, undef, undef, undef, undef, undef, undef, undef, undef, undef, undef, undef, undef, undef, undef, undef, undef, undef, undef, undef, undef, undef, undef, undef, undef, undef, undef, undef, undef, undef, undef], defers := [] }) (fun x => .cells #[.string x.1, .string x.2.1, .string x.2.2] 33)
    ?assign ?body ?done ?stop
  case stop => rintro D c pre W hD hpre hf; exact hf.elim
  case assign =>
    intro l' x W3 K hK
    unfold encK
    gi_wp2_with fail
    exact hK
  case body =>
    rintro l' pre ⟨a, b, c⟩ W4 N ⟨hB, hM, hn⟩ hpre hN hNlt hob
    obtain ⟨y0, y1, y2⟩ := cells3T hob
    dsimp only at y0 y1 y2
    have hmem : (a, b, c) ∈ ladT l s r := hpre.subset (by simp)
    have hks := ladT_small HK.out _ hmem
    have hlk := hM.look hks
    rw [ladT_new hpre] at hlk
    have hpl : pre.length ≤ 4 := by have h1 := hpre.length_le; rw [List.length_append] at h1; have h2 := ladT_len l s r; simp at h1; omega
    have hT4 := (hB.block nt (by have := HLT.out; have := HZ5.out; omega) (by have := HLT.out; omega)).trans HT5.out
    obtain ⟨t0, t1, t2, t3, t4, t5, t6, t7⟩ := tag_cells hT4
    have e8 := cell_of_one ((hB.block (w3.heap.size + 1) (by have := HZ5.out; omega) (by omega)).trans HX5.out)
    obtain ⟨w6, hrun, hP6, hg6⟩ := hM.put (by omega) hks
    have hn6 := (hg6.block _ (lt_blockT hn) (fun e => by have := Option.some.inj e; omega)).trans hn
    have cn := cell_of_one hn6
    have fn := free_of_one hn6
    have hpi : (pre.length : Int) ≤ 4 := by omega
    have hs7 := one_setT (v := .int .i64 ((pre.length : Int) + 1)) hn6
    have HKQ := Lib.hid (show KeepQ (fun k => k = m + 1 ∨ k = m + 2) W5.heap.size (fun _ => false) W4 (w6.setCell ⟨w3.heap.size + 2, 0, none⟩ (.int .i64 ((pre.length : Int) + 1))) from
      (KeepQ.grown hg6 (fun r e => by cases e; exact ⟨by have := HLT.out; omega, .inl (by have := HZ5.out; omega)⟩)).trans (KeepQ.grown hs7.2 (fun r e => by cases e; exact ⟨by have := HLT.out; omega, .inl (by have := HZ5.out; omega)⟩)))
    have HBT := Lib.hid (show ButT (fun k => k = w3.heap.size ∨ k = w3.heap.size + 2) W5 (w6.setCell ⟨w3.heap.size + 2, 0, none⟩ (.int .i64 ((pre.length : Int) + 1))) from
      (hB.grown hg6 (fun k e => by cases e; exact .inl (.inl rfl))).grown hs7.2 (fun k e => by cases e; exact .inl (.inr rfl)))
    have HP7 := Lib.hid (show BolO (w6.setCell ⟨w3.heap.size + 2, 0, none⟩ (.int .i64 ((pre.length : Int) + 1))) w3.heap.size (pre ++ [(a, b, c)]).length (pre ++ [(a, b, c)]) by
      rw [List.length_append]
      exact hP6.block (hs7.2.block _ hP6.lt (fun e => by have := Option.some.inj e; omega)))
    have HN7 := Lib.hid (show (w6.setCell ⟨w3.heap.size + 2, 0, none⟩ (.int .i64 ((pre.length : Int) + 1))).heap[w3.heap.size + 2]? = some (.cells #[.int .i64 ((pre ++ [(a, b, c)]).length : Int)] 3 (0, 0)) by
      rw [List.length_append]
      exact hs7.1)
    have hrow := ladT_rows hmem
    clear hB hM hn hpre hob hmem hks hT4 hP6 hg6 hn6 hs7 HK
    have e1 : ∀ x : ByteArray, 0 < x.size → x.toList.isEmpty = false := fun x h => empty_false h
    rcases Nat.eq_zero_or_pos s.size with h2 | h2
    · obtain rfl := emptyT h2
      rcases Nat.eq_zero_or_pos r.size with h3 | h3
      · obtain rfl := emptyT h3
        rcases hrow with hx | hx | hx | hx | ⟨hx, h4⟩
        · obtain ⟨i1, i2, i3⟩ : a = _ ∧ b = _ ∧ c = _ := by injection hx with i1 hx; injection hx with i2 i3; exact ⟨i1, i2, i3⟩
          subst i1 i2 i3
          clear hx e1 h2 h3
          gi_wp2_with fail
          exact ⟨HKQ.out, HBT.out, HP7.out, HN7.out⟩
        · obtain ⟨i1, i2, i3⟩ : a = _ ∧ b = _ ∧ c = _ := by injection hx with i1 hx; injection hx with i2 i3; exact ⟨i1, i2, i3⟩
          subst i1 i2 i3
          clear hx e1 h2 h3
          gi_wp2_with fail
          exact ⟨HKQ.out, HBT.out, HP7.out, HN7.out⟩
        · obtain ⟨i1, i2, i3⟩ : a = _ ∧ b = _ ∧ c = _ := by injection hx with i1 hx; injection hx with i2 i3; exact ⟨i1, i2, i3⟩
          subst i1 i2 i3
          clear hx e1 h2 h3
          gi_wp2_with fail
          exact ⟨HKQ.out, HBT.out, HP7.out, HN7.out⟩
        · obtain ⟨i1, i2, i3⟩ : a = _ ∧ b = _ ∧ c = _ := by injection hx with i1 hx; injection hx with i2 i3; exact ⟨i1, i2, i3⟩
          subst i1 i2 i3
          clear hx e1 h2 h3
          gi_wp2_with fail
          exact ⟨HKQ.out, HBT.out, HP7.out, HN7.out⟩
        · exact absurd h4 (by omega)
      · have q3 := e1 r h3
        rcases hrow with hx | hx | hx | hx | ⟨hx, h4⟩
        · obtain ⟨i1, i2, i3⟩ : a = _ ∧ b = _ ∧ c = _ := by injection hx with i1 hx; injection hx with i2 i3; exact ⟨i1, i2, i3⟩
          subst i1 i2 i3
          clear hx e1 h2 h3
          gi_wp2_with fail
          exact ⟨HKQ.out, HBT.out, HP7.out, HN7.out⟩
        · obtain ⟨i1, i2, i3⟩ : a = _ ∧ b = _ ∧ c = _ := by injection hx with i1 hx; injection hx with i2 i3; exact ⟨i1, i2, i3⟩
          subst i1 i2 i3
          clear hx e1 h2 h3
          gi_wp2_with fail
          exact ⟨HKQ.out, HBT.out, HP7.out, HN7.out⟩
        · obtain ⟨i1, i2, i3⟩ : a = _ ∧ b = _ ∧ c = _ := by injection hx with i1 hx; injection hx with i2 i3; exact ⟨i1, i2, i3⟩
          subst i1 i2 i3
          clear hx e1 h2 h3
          gi_wp2_with fail
          exact ⟨HKQ.out, HBT.out, HP7.out, HN7.out⟩
        · obtain ⟨i1, i2, i3⟩ : a = _ ∧ b = _ ∧ c = _ := by injection hx with i1 hx; injection hx with i2 i3; exact ⟨i1, i2, i3⟩
          subst i1 i2 i3
          clear hx e1 h2 h3
          gi_wp2_with fail
          exact ⟨HKQ.out, HBT.out, HP7.out, HN7.out⟩
        · exact absurd h4 (by omega)
    · have q2 := e1 s h2
      rcases Nat.eq_zero_or_pos r.size with h3 | h3
      · obtain rfl := emptyT h3
        rcases hrow with hx | hx | hx | hx | ⟨hx, h4⟩
        · obtain ⟨i1, i2, i3⟩ : a = _ ∧ b = _ ∧ c = _ := by injection hx with i1 hx; injection hx with i2 i3; exact ⟨i1, i2, i3⟩
          subst i1 i2 i3
          clear hx e1 h3
          gi_wp2_with fail
          exact ⟨HKQ.out, HBT.out, HP7.out, HN7.out⟩
        · obtain ⟨i1, i2, i3⟩ : a = _ ∧ b = _ ∧ c = _ := by injection hx with i1 hx; injection hx with i2 i3; exact ⟨i1, i2, i3⟩
          subst i1 i2 i3
          clear hx e1 h3
          gi_wp2_with fail
          exact ⟨HKQ.out, HBT.out, HP7.out, HN7.out⟩
        · obtain ⟨i1, i2, i3⟩ : a = _ ∧ b = _ ∧ c = _ := by injection hx with i1 hx; injection hx with i2 i3; exact ⟨i1, i2, i3⟩
          subst i1 i2 i3
          clear hx e1 h3
          gi_wp2_with fail
          exact ⟨HKQ.out, HBT.out, HP7.out, HN7.out⟩
        · obtain ⟨i1, i2, i3⟩ : a = _ ∧ b = _ ∧ c = _ := by injection hx with i1 hx; injection hx with i2 i3; exact ⟨i1, i2, i3⟩
          subst i1 i2 i3
          clear hx e1 h3
          gi_wp2_with fail
          exact ⟨HKQ.out, HBT.out, HP7.out, HN7.out⟩
        · obtain ⟨i1, i2, i3⟩ : a = _ ∧ b = _ ∧ c = _ := by injection hx with i1 hx; injection hx with i2 i3; exact ⟨i1, i2, i3⟩
          subst i1 i2 i3
          clear hx e1 h3
          have hu := same_undT l
          by_cases hlu : l = undT
          · rw [decide_eq_true hlu] at hu
            subst hlu
            clear hu h4
            gi_wp2_with fail
            exact ⟨HKQ.out, HBT.out, HP7.out, HN7.out⟩
          · have hv : (undT.toList == l.toList) = false := by rw [same_boolT]; exact decide_eq_false (fun e => hlu e.symm)
            have hw : (undT.toList == [117, 110, 100]) = true := by rw [same_undT]; exact decide_eq_true rfl
            clear hu hlu h4
            gi_wp2_with fail
            exact ⟨HKQ.out, HBT.out, HP7.out, HN7.out⟩
      · have q3 := e1 r h3
        rcases hrow with hx | hx | hx | hx | ⟨hx, h4⟩
        · obtain ⟨i1, i2, i3⟩ : a = _ ∧ b = _ ∧ c = _ := by injection hx with i1 hx; injection hx with i2 i3; exact ⟨i1, i2, i3⟩
          subst i1 i2 i3
          clear hx e1 h3
          gi_wp2_with fail
          exact ⟨HKQ.out, HBT.out, HP7.out, HN7.out⟩
        · obtain ⟨i1, i2, i3⟩ : a = _ ∧ b = _ ∧ c = _ := by injection hx with i1 hx; injection hx with i2 i3; exact ⟨i1, i2, i3⟩
          subst i1 i2 i3
          clear hx e1 h3
          gi_wp2_with fail
          exact ⟨HKQ.out, HBT.out, HP7.out, HN7.out⟩
        · obtain ⟨i1, i2, i3⟩ : a = _ ∧ b = _ ∧ c = _ := by injection hx with i1 hx; injection hx with i2 i3; exact ⟨i1, i2, i3⟩
          subst i1 i2 i3
          clear hx e1 h3
          gi_wp2_with fail
          exact ⟨HKQ.out, HBT.out, HP7.out, HN7.out⟩
        · obtain ⟨i1, i2, i3⟩ : a = _ ∧ b = _ ∧ c = _ := by injection hx with i1 hx; injection hx with i2 i3; exact ⟨i1, i2, i3⟩
          subst i1 i2 i3
          clear hx e1 h3
          gi_wp2_with fail
          exact ⟨HKQ.out, HBT.out, HP7.out, HN7.out⟩
        · obtain ⟨i1, i2, i3⟩ : a = _ ∧ b = _ ∧ c = _ := by injection hx with i1 hx; injection hx with i2 i3; exact ⟨i1, i2, i3⟩
          subst i1 i2 i3
          clear hx e1 h3
          have hu := same_undT l
          by_cases hlu : l = undT
          · rw [decide_eq_true hlu] at hu
            subst hlu
            clear hu h4
            gi_wp2_with fail
            exact ⟨HKQ.out, HBT.out, HP7.out, HN7.out⟩
          · have hv : (undT.toList == l.toList) = false := by rw [same_boolT]; exact decide_eq_false (fun e => hlu e.symm)
            have hw : (undT.toList == [117, 110, 100]) = true := by rw [same_undT]; exact decide_eq_true rfl
            clear hu hlu h4
            gi_wp2_with fail
            exact ⟨HKQ.out, HBT.out, HP7.out, HN7.out⟩
  case done =>
    rintro D1 ys W4 hD1 hys ⟨hB, hM, hn⟩ hK1
    obtain ⟨nn, hnn⟩ : ∃ n, (ladT l s r).length = n := ⟨_, rfl⟩
    rw [hys, hnn] at hn
    have hnn5 : nn ≤ 5 := by rw [← hnn]; exact ladT_len l s r
    have HC4 := Lib.hid hn
    have HD := Lib.hid hK1
    have HD1g := Lib.hid (show w.heap.size ≤ D1 by have := HLT.out; have := HZ5.out; omega)
    have HT4 := Lib.hid ((hB.block nt (by have := HLT.out; have := HZ5.out; omega) (by have := HLT.out; omega)).trans HT5.out)
    have HR4 := Lib.hid ((hB.block (w.heap.size + 1) (by have := HLT.out; have := HZ5.out; omega) (by have := HLT.out; omega)).trans HR5.out)
    have HL4 := Lib.hid (show LadAt (m + 1) (m + 2) l s r W4 from ⟨(hB.block _ (by have := HLT.out; have := HZ5.out; omega) (by have := HLT.out; omega)).trans HL5.out.r, (hB.block _ (by have := HLT.out; have := HZ5.out; omega) (by have := HLT.out; omega)).trans HL5.out.s⟩)
    have HB4 := Lib.hid (hB.belowT HB5.out (fun k hk => by have := HLT.out; omega) (by have := HLT.out; have := HZ5.out; omega))
    have HDne := Lib.hid (show w3.heap.size + 3 ≤ D1 by have := HZ5.out; omega)
    clear hB hM hn hK1 hys
    gi_wp2_with fail
    refine ⟨trivial, rfl, (callsIn_wide.2 (HRE.out _)).mono ?_⟩
    rintro e W6 ⟨rfl, hw6⟩
    obtain rfl : W4 = W6 := hw6
    gi_wp2_with fail
    obtain ⟨W8, hW8⟩ : ∃ W8, (W4.alloc (.cells #[.int .i64 (K : Int)] 3)).alloc (.cells #[.int .i64 0] 3) = W8 := ⟨_, rfl⟩
    have hb8 : Below W4.heap.size W4 W8 := by rw [← hW8]; exact ((Below.refl _ W4).alloc (Nat.le_refl _) _).alloc (by simp) _
    have HZ8 := Lib.hid (show W8.heap.size = W4.heap.size + 2 by rw [← hW8]; simp)
    have HK8 := Lib.hid (show W8.heap[W4.heap.size]? = some (.cells #[.int .i64 (K : Int)] 3 (0, 0)) by rw [← hW8]; exact (Below.heap_alloc _ _ _ (by simp)).trans (World.alloc_heap_new W4 _))
    have HG8 := Lib.hid (show W8.heap[W4.heap.size + 1]? = some (.cells #[.int .i64 0] 3 (0, 0)) by
      have h := World.alloc_heap_new (W4.alloc (.cells #[.int .i64 (K : Int)] 3)) (.cells #[.int .i64 0] 3)
      rw [World.size_alloc] at h
      rw [← hW8]
      exact h)
    rw [hW8]
    have HL8 := Lib.hid (HL4.out.below hb8)
    have HT8 := Lib.hid ((hb8.block _ (lt_blockT HT4.out)).trans HT4.out)
    have HR8 := Lib.hid ((hb8.block _ (lt_blockT HR4.out)).trans HR4.out)
    have HC8 := Lib.hid ((hb8.block _ (lt_blockT HC4.out)).trans HC4.out)
    have HD8 := Lib.hid ((hb8.block _ (lt_blockT HD.out)).trans HD.out)
    have HB8 := Lib.hid (HB4.out.trans (hb8.mono (by have := lt_blockT HR4.out; omega)))
    clear hW8 hb8
    refine rangeQ (gf := 11) (lb := #[.pointer (some ⟨m + 1, 0, none⟩), .pointer (some ⟨m + 2, 0, none⟩)]) rfl (Go.Proofs.enters_of Try.func11 (by kernel_rfl) rfl)
      (lad_seq (fr := fun _ => false) (q := fun k => k = m + 1 ∨ k = m + 2) ⟨.inl rfl, .inr rfl⟩ HL8.out) (fun _ h => by cases h) (fun k hk => by have := lt_blockT HL8.out.r; have := lt_blockT HL8.out.s; rcases hk with rfl | rfl <;> omega) (fun _ => rfl)
      (fun pre W => ButT (fun k => k = W4.heap.size + 1) W8 W ∧ W.heap[W4.heap.size + 1]? = some (.cells #[.int .i64 (pre.length : Int)] 3 (0, 0)) ∧ pre.length ≤ K)
      (fun c pre W => c = .exit 2 ∧ ButT (fun k => k = W4.heap.size + 1) W8 W ∧ W.heap[W4.heap.size + 1]? = some (.cells #[.int .i64 (K : Int)] 3 (0, 0)) ∧ pre.length = K + 1)
      (fun s A B row hs hg hr => ⟨hs.1.grown hg (fun k e => .inr (hr k e).1), (hg.block _ (lt_blockT hs.2.1) (fun e => by have := (hr _ e.symm).1; have := HZ8.out; omega)).trans hs.2.1, hs.2.2⟩)
      (fun c s A B row hs hg hr => ⟨hs.1, hs.2.1.grown hg (fun k e => .inr (hr k e).1), (hg.block _ (lt_blockT hs.2.2.1) (fun e => by have := (hr _ e.symm).1; have := HZ8.out; omega)).trans hs.2.2.1, hs.2.2.2⟩)
      ⟨ButT.refl _ _, HG8.out, Nat.zero_le _⟩
      (fun x => { tmps := #[.agg #[.int .i64 q0, .int .i64 q1, .int .i64 q2], .int .i64 many, .pointer (some ⟨w.heap.size, 0, none⟩), undef, .pointer (some ⟨w.heap.size + 1, 0, none⟩), .bool true, .pointer (some ⟨nt, 0, none⟩), .func (.func 11) #[] #[.pointer (some ⟨m + 1, 0, none⟩), .pointer (some ⟨m + 2, 0, none⟩)], .pointer (some ⟨w3.heap.size + 1, 0, none⟩), .pointer (some ⟨w3.heap.size + 2, 0, none⟩), undef, .pointer (some ⟨W4.heap.size, 0, none⟩), .pointer (some ⟨W4.heap.size + 1, 0, none⟩), .bool true, .agg #[.int .i64 q0, .int .i64 q1, .int .i64 q2], .agg #[.string l, .slice none 0 0, .string s, .string r, .slice none 0 0, .slice none 0 0, .slice none 0 0, .string ⟨#[]⟩], .agg #[.string l, .slice none 0 0, .string s, .string r, .slice none 0 0, .slice none 0 0, .slice none 0 0, .string ⟨#[]⟩], .func (.func 11) #[] #[.pointer (some ⟨m + 1, 0, none⟩), .pointer (some ⟨m + 2, 0, none⟩)], .func (.func 11) #[] #[.pointer (some ⟨m + 1, 0, none⟩), .pointer (some ⟨m + 2, 0, none⟩)], .bool false, .map (some w3.heap.size), .func (.func 11) #[] #[.pointer (some ⟨m + 1, 0, none⟩), .pointer (some ⟨m + 2, 0, none⟩)], undef, undef, undef, undef, undef, undef, undef, undef, undef, undef, undef, undef, undef, undef, undef, undef, undef, undef, undef, undef, undef, undef, undef, undef, undef, undef, undef, undef, undef, undef, undef, undef, undef, undef, undef, undef, undef, undef, undef, undef, undef, undef, undef, undef, undef, undef, undef, undef, undef, .int .i64 many, .int .i64 (K : Int), .func (.func 11) #[] #[.pointer (some ⟨m + 1, 0, none⟩), .pointer (some ⟨m + 2, 0, none⟩)], .agg #[.string x.1, .string x.2.1, .string x.2.2], undef, undef, undef, undef, undef, undef, undef, undef, undef, undef, undef, undef, undef, undef, undef, undef, undef, undef, undef, undef, undef, undef, undef, undef, undef], defers := [] })
      ?assign ?body ?done ?stop
    case assign =>
      intro l' x W9 Kx hKx
      unfold encK
      gi_wp2_with fail
      exact hKx
    case body =>
      rintro l' pre x W9 ⟨hB, hg, hk⟩ hpre hsz
      have hpl : pre.length ≤ 4 := by have h1 := hpre.length_le; rw [List.length_append] at h1; have h2 := ladT_len l s r; simp at h1; omega
      have cg := cell_of_one hg
      have fg := free_of_one hg
      have ck := cell_of_one ((hB.block W4.heap.size (by have := HZ8.out; omega) (by omega)).trans HK8.out)
      have hpi : (pre.length : Int) ≤ 4 := by omega
      have hs7 := one_setT (v := .int .i64 ((pre.length : Int) + 1)) hg
      have HB := Lib.hid hB
      have HG := Lib.hid hg
      have HS7 := Lib.hid hs7
      have HNM := Lib.hid (show W4.heap.size + 1 ≠ m + 1 ∧ W4.heap.size + 1 ≠ m + 2 by have := lt_blockT HL4.out.r; have := lt_blockT HL4.out.s; omega)
      by_cases hq : pre.length = K
      · have e1 : ((pre.length : Int) == (K : Int)) = true := by rw [beq_iff_eq, hq]
        have HQ := Lib.hid hq
        clear hB hg hs7 hq hk hpre
        gi_wp2_with fail
        refine ⟨KeepQ.refl _ _ _ _, rfl, HB.out, ?_, ?_⟩
        · rw [← HQ.out]; exact HG.out
        · rw [List.length_append, HQ.out]; rfl
      · have e1 : ((pre.length : Int) == (K : Int)) = false := by rw [beq_eq_false_iff_ne]; intro e; exact hq (by omega)
        have HQ := Lib.hid (show pre.length + 1 ≤ K by omega)
        clear hB hg hs7 hq hk hpre
        gi_wp2_with fail
        refine ⟨KeepQ.grown HS7.out.2 (fun r e => by cases e; exact ⟨by have := HNM.out; omega, .inl (by have := HZ8.out; omega)⟩), HB.out.grown HS7.out.2 (fun k e => by cases e; exact .inl rfl), ?_, ?_⟩
        · rw [List.length_append]; exact HS7.out.1
        · rw [List.length_append]; exact HQ.out
    case done =>
      rintro D2 ys W9 hD2 hys ⟨hB9, hg9, hk9'⟩ hK2
      rw [hys, hnn] at hg9 hk9'
      have hle : nn ≤ K := hk9'
      have i5 : (nn : Int) ≤ 5 := by omega
      have HD1 := Lib.hid (show W9.heap[D1]? = some (.deferred (some [])) from (hB9.block D1 (by have := lt_blockT HD.out; have := HZ8.out; omega) (by have := lt_blockT HD.out; omega)).trans HD8.out)
      have HK2 := Lib.hid hK2
      have hR9 := (hB9.block (w.heap.size + 1) (by have := lt_blockT HR4.out; have := HZ8.out; omega) (by have := lt_blockT HR4.out; omega)).trans HR8.out
      have hT9 := (hB9.block nt (by have := lt_blockT HT4.out; have := HZ8.out; omega) (by have := lt_blockT HT4.out; omega)).trans HT8.out
      have hn9 := (hB9.block (w3.heap.size + 2) (by have := lt_blockT HC4.out; have := HZ8.out; omega) (by have := lt_blockT HC4.out; omega)).trans HC8.out
      have hk9 := (hB9.block W4.heap.size (by have := HZ8.out; omega) (by omega)).trans HK8.out
      have HBE := Lib.hid (hB9.belowT HB8.out (fun k hk => by have := lt_blockT HR4.out; omega) (by have := lt_blockT HR4.out; have := HZ8.out; omega))
      obtain ⟨t0, t1, t2, t3, t4, t5, t6, t7⟩ := tag_cells hT9
      have cn := cell_of_one hn9
      have ck := cell_of_one hk9
      have cg := cell_of_one hg9
      have cr := cell_of_one hR9
      have fr := free_of_one hR9
      have HS9 := Lib.hid (one_setT (v := .bool true) hR9)
      have hDD : D1 < D2 := by have := lt_blockT HD.out; have := HZ8.out; omega
      have hD2n : W8.heap.size ≤ D2 := hD2
      have HR8n := Lib.hid (show w.heap.size + 1 < W4.heap.size ∧ W8.heap.size = W4.heap.size + 2 ∧ w.heap.size + 1 ≠ D1 from ⟨lt_blockT HR4.out, HZ8.out, by have := HLT.out; have := HZ5.out; omega⟩)
      clear hB9 hg9 hR9 hT9 hn9 hk9 hK2 hys hk9'
      rcases Nat.lt_or_ge nn K with hlt | hge
      · have i1 : (nn : Int) < (K : Int) := by omega
        clear hle
        rcases Nat.eq_zero_or_pos l.size with h1 | h1
        · obtain rfl := emptyT h1
          have h0 : nn = 0 := by have := (ladT_empty ⟨#[]⟩ s r).2 rfl; omega
          subst h0
          clear h1
          gi_wp2_with fail
          have k2 := (HS9.out.2.block D2 (lt_blockT HK2.out) (fun e => by have := Option.some.inj e; have := HR8n.out; omega)).trans HK2.out
          have k1 := (HS9.out.2.block D1 (lt_blockT HD1.out) (fun e => by have := Option.some.inj e; have := HR8n.out; omega)).trans HD1.out
          refine ⟨by simp, .inl ⟨_, _, rfl, run_takeDeferred k2, ?_⟩⟩
          refine ⟨by simp, .inl ⟨_, _, rfl, run_takeDeferred ((World.putObj_heap_other (by omega)).trans k1), ?_⟩⟩
          refine ⟨_, results_one_boolT rfl _ _ (w.heap.size + 1) _ true rfl ((World.putObj_heap_other (by have := HR8n.out; omega)).trans ((World.putObj_heap_other (by have := HR8n.out; omega)).trans HS9.out.1)) Try.underlying4, rfl, ?_⟩
          have b1 := HBE.out.grown HS9.out.2 (by have := lt_blockT HK2.out; have := HR8n.out; omega) (fun r e => by cases e; omega)
          exact (b1.grown put_grownT (by have := lt_blockT k2; have := HR8n.out; omega) (fun r e => by cases e; have := HR8n.out; omega)).grown put_grownT (by have := lt_blockT k2; have := HR8n.out; rw [put_sizeT]; omega) (fun r e => by cases e; have := lt_blockT k1; have := HD1g.out; omega)
        · have q1 := empty_false h1
          have h0 : ((nn : Int) == 0) = false := by
            rw [beq_eq_false_iff_ne]
            intro e
            have h9 : nn = 0 := by omega
            rw [h9] at hnn
            have := (ladT_empty l s r).1 hnn
            omega
          clear h1
          gi_wp2_with fail
          have k2 := (HS9.out.2.block D2 (lt_blockT HK2.out) (fun e => by have := Option.some.inj e; have := HR8n.out; omega)).trans HK2.out
          have k1 := (HS9.out.2.block D1 (lt_blockT HD1.out) (fun e => by have := Option.some.inj e; have := HR8n.out; omega)).trans HD1.out
          refine ⟨by simp, .inl ⟨_, _, rfl, run_takeDeferred k2, ?_⟩⟩
          refine ⟨by simp, .inl ⟨_, _, rfl, run_takeDeferred ((World.putObj_heap_other (by omega)).trans k1), ?_⟩⟩
          refine ⟨_, results_one_boolT rfl _ _ (w.heap.size + 1) _ true rfl ((World.putObj_heap_other (by have := HR8n.out; omega)).trans ((World.putObj_heap_other (by have := HR8n.out; omega)).trans HS9.out.1)) Try.underlying4, rfl, ?_⟩
          have b1 := HBE.out.grown HS9.out.2 (by have := lt_blockT HK2.out; have := HR8n.out; omega) (fun r e => by cases e; omega)
          exact (b1.grown put_grownT (by have := lt_blockT k2; have := HR8n.out; omega) (fun r e => by cases e; have := HR8n.out; omega)).grown put_grownT (by have := lt_blockT k2; have := HR8n.out; rw [put_sizeT]; omega) (fun r e => by cases e; have := lt_blockT k1; have := HD1g.out; omega)
      · obtain rfl : nn = K := by omega
        clear hle hge
        rcases Nat.eq_zero_or_pos l.size with h1 | h1
        · obtain rfl := emptyT h1
          have h0 : nn = 0 := by have := (ladT_empty ⟨#[]⟩ s r).2 rfl; omega
          subst h0
          clear h1
          gi_wp2_with fail
          have k2 := (HS9.out.2.block D2 (lt_blockT HK2.out) (fun e => by have := Option.some.inj e; have := HR8n.out; omega)).trans HK2.out
          have k1 := (HS9.out.2.block D1 (lt_blockT HD1.out) (fun e => by have := Option.some.inj e; have := HR8n.out; omega)).trans HD1.out
          refine ⟨by simp, .inl ⟨_, _, rfl, run_takeDeferred k2, ?_⟩⟩
          refine ⟨by simp, .inl ⟨_, _, rfl, run_takeDeferred ((World.putObj_heap_other (by omega)).trans k1), ?_⟩⟩
          refine ⟨_, results_one_boolT rfl _ _ (w.heap.size + 1) _ true rfl ((World.putObj_heap_other (by have := HR8n.out; omega)).trans ((World.putObj_heap_other (by have := HR8n.out; omega)).trans HS9.out.1)) Try.underlying4, rfl, ?_⟩
          have b1 := HBE.out.grown HS9.out.2 (by have := lt_blockT HK2.out; have := HR8n.out; omega) (fun r e => by cases e; omega)
          exact (b1.grown put_grownT (by have := lt_blockT k2; have := HR8n.out; omega) (fun r e => by cases e; have := HR8n.out; omega)).grown put_grownT (by have := lt_blockT k2; have := HR8n.out; rw [put_sizeT]; omega) (fun r e => by cases e; have := lt_blockT k1; have := HD1g.out; omega)
        · have q1 := empty_false h1
          have h0 : ((nn : Int) == 0) = false := by
            rw [beq_eq_false_iff_ne]
            intro e
            have h9 : nn = 0 := by omega
            rw [h9] at hnn
            have := (ladT_empty l s r).1 hnn
            omega
          clear h1
          gi_wp2_with fail
          have k2 := (HS9.out.2.block D2 (lt_blockT HK2.out) (fun e => by have := Option.some.inj e; have := HR8n.out; omega)).trans HK2.out
          have k1 := (HS9.out.2.block D1 (lt_blockT HD1.out) (fun e => by have := Option.some.inj e; have := HR8n.out; omega)).trans HD1.out
          refine ⟨by simp, .inl ⟨_, _, rfl, run_takeDeferred k2, ?_⟩⟩
          refine ⟨by simp, .inl ⟨_, _, rfl, run_takeDeferred ((World.putObj_heap_other (by omega)).trans k1), ?_⟩⟩
          refine ⟨_, results_one_boolT rfl _ _ (w.heap.size + 1) _ true rfl ((World.putObj_heap_other (by have := HR8n.out; omega)).trans ((World.putObj_heap_other (by have := HR8n.out; omega)).trans HS9.out.1)) Try.underlying4, rfl, ?_⟩
          have b1 := HBE.out.grown HS9.out.2 (by have := lt_blockT HK2.out; have := HR8n.out; omega) (fun r e => by cases e; omega)
          exact (b1.grown put_grownT (by have := lt_blockT k2; have := HR8n.out; omega) (fun r e => by cases e; have := HR8n.out; omega)).grown put_grownT (by have := lt_blockT k2; have := HR8n.out; rw [put_sizeT]; omega) (fun r e => by cases e; have := lt_blockT k1; have := HD1g.out; omega)
    case stop =>
      rintro D2 c pre W9 hD2 hpre ⟨rfl, hB9, hg9, hk9'⟩ hK2
      have hpl := hpre.length_le
      rw [hk9', hnn] at hpl
      have i1 : (K : Int) < (nn : Int) := by omega
      have i5 : (nn : Int) ≤ 5 := by omega
      have i6 : (K : Int) ≤ 4 := by omega
      have HD1 := Lib.hid (show W9.heap[D1]? = some (.deferred (some [])) from (hB9.block D1 (by have := lt_blockT HD.out; have := HZ8.out; omega) (by have := lt_blockT HD.out; omega)).trans HD8.out)
      have HK2 := Lib.hid hK2
      have hR9 := (hB9.block (w.heap.size + 1) (by have := lt_blockT HR4.out; have := HZ8.out; omega) (by have := lt_blockT HR4.out; omega)).trans HR8.out
      have hT9 := (hB9.block nt (by have := lt_blockT HT4.out; have := HZ8.out; omega) (by have := lt_blockT HT4.out; omega)).trans HT8.out
      have hn9 := (hB9.block (w3.heap.size + 2) (by have := lt_blockT HC4.out; have := HZ8.out; omega) (by have := lt_blockT HC4.out; omega)).trans HC8.out
      have hk9 := (hB9.block W4.heap.size (by have := HZ8.out; omega) (by omega)).trans HK8.out
      have HBE := Lib.hid (hB9.belowT HB8.out (fun k hk => by have := lt_blockT HR4.out; omega) (by have := lt_blockT HR4.out; have := HZ8.out; omega))
      obtain ⟨t0, t1, t2, t3, t4, t5, t6, t7⟩ := tag_cells hT9
      have cn := cell_of_one hn9
      have ck := cell_of_one hk9
      have cg := cell_of_one hg9
      have cr := cell_of_one hR9
      have fr := free_of_one hR9
      have HS9 := Lib.hid (one_setT (v := .bool true) hR9)
      have hDD : D1 < D2 := by have := lt_blockT HD.out; have := HZ8.out; omega
      have hD2n : W8.heap.size ≤ D2 := hD2
      have HR8n := Lib.hid (show w.heap.size + 1 < W4.heap.size ∧ W8.heap.size = W4.heap.size + 2 ∧ w.heap.size + 1 ≠ D1 from ⟨lt_blockT HR4.out, HZ8.out, by have := HLT.out; have := HZ5.out; omega⟩)
      clear hB9 hg9 hR9 hT9 hn9 hk9 hK2 hk9' hpre
      rcases Nat.eq_zero_or_pos l.size with h1 | h1
      · obtain rfl := emptyT h1
        have h0 : nn = 0 := by have := (ladT_empty ⟨#[]⟩ s r).2 rfl; omega
        exact absurd i1 (by omega)
      · have q1 := empty_false h1
        have h0 : ((nn : Int) == 0) = false := by
          rw [beq_eq_false_iff_ne]
          intro e
          have h9 : nn = 0 := by omega
          rw [h9] at hnn
          have := (ladT_empty l s r).1 hnn
          omega
        clear h1
        gi_wp2_with fail
        have k2 := (HS9.out.2.block D2 (lt_blockT HK2.out) (fun e => by have := Option.some.inj e; have := HR8n.out; omega)).trans HK2.out
        have k1 := (HS9.out.2.block D1 (lt_blockT HD1.out) (fun e => by have := Option.some.inj e; have := HR8n.out; omega)).trans HD1.out
        refine ⟨by simp, .inl ⟨_, _, rfl, run_takeDeferred k2, ?_⟩⟩
        refine ⟨by simp, .inl ⟨_, _, rfl, run_takeDeferred ((World.putObj_heap_other (by omega)).trans k1), ?_⟩⟩
        refine ⟨_, results_one_boolT rfl _ _ (w.heap.size + 1) _ true rfl ((World.putObj_heap_other (by have := HR8n.out; omega)).trans ((World.putObj_heap_other (by have := HR8n.out; omega)).trans HS9.out.1)) Try.underlying4, rfl, ?_⟩
        have b1 := HBE.out.grown HS9.out.2 (by have := lt_blockT HK2.out; have := HR8n.out; omega) (fun r e => by cases e; omega)
        exact (b1.grown put_grownT (by have := lt_blockT k2; have := HR8n.out; omega) (fun r e => by cases e; have := HR8n.out; omega)).grown put_grownT (by have := lt_blockT k2; have := HR8n.out; rw [put_sizeT]; omega) (fun r e => by cases e; have := lt_blockT k1; have := HD1g.out; omega)
end Go.Proofs.Ytaiailcimpgmaaa
