import Derived.Test.YthjfcfhibdpbnaaTSeedA
import Derived.Test.YthjfcfhibdpbnaaZMade
import Derived.Laws.AppendOwnNone
import Derived.Test.YthjfcfhibdpbnaaFSame
import Derived.Deep.RegionHeld3
import Derived.Test.YthjfcfhibdpbnaaZArgs
import Derived.Test.YthjfcfhibdpbnaaRows
import Derived.Laws.IdiomArrays
import Derived.ProofKit
import Derived.OpenShut
namespace Go.Proofs.Ythjfcfhibdpbnaa
open Go Go.RowKit

theorem append_anyT {P : Program} (w : World) {ops : Array Oper} {rest : List Oper} {o : Oper} {a : Act} {Q : Exit → Act → World → Prop} (hgd : o.guard = none) (s x : Operand) (t : TypeId)
    (ho : o.op = .call { callee := .builtin .append, args := #[s, x], argTypes := #[t, t] })
    (base : Nat) (e : TypeId) (i : TypeInfo) (z : Value) (size bytes : Nat) (ht : P.underlying t = some (.slice e)) (hi : P.info? e = some i) (hz : i.zero = some z)
    (hsize : i.size = size) (hby : i.bytes = bytes) (hzs : z.cells.size = size) (hsz : 0 < size)
    (v : Value) (n : Nat) (xs : List Value) (hs : a.eval s = v) (hown : w.ownsRow base e size v n xs)
    (ao : Option Addr) (m c : Nat) (news : List Value) (hx : a.eval x = .slice ao m c) (hao : ao = none → c = 0 ∧ m = 0) (hl : news.length = m * size) (hnews : ∀ ad, ao = some ad → ∀ j u, news[j]? = some u → w.cell? (ad.add j) = some u) (h1 : ∀ u ∈ news, u.oneCell' = true)
    (h63 : n + m ≤ maxLen) (hbytes : (n + m) * bytes ≤ 140737488355328) (hbase : base ≤ w.heap.size)
    (h : ∀ v' w', w'.ownsRow base e size v' (n + m) (xs ++ news) → w.grownBy w' v.ownBlock → wpList P ops Q rest (a.put o.dst v') w') : wpList P ops Q (o :: rest) a w := by
  cases ao with
  | none =>
    obtain ⟨rfl, rfl⟩ := hao rfl
    have hn : news = [] := List.length_eq_zero_iff.1 (by rw [hl]; omega)
    subst hn
    exact wpList_append_own_none hgd s x t ho base e i size ht hi v n xs hs hown hx (h v w (by rw [List.append_nil]; exact hown) (World.grownBy.refl _ _))
  | some ad => exact wpList_append_own w hgd s x t ho base e i z size bytes ht hi hz hsize hby hzs hsz v n xs hs hown ad m c news hx hl (hnews ad rfl) h1 h63 hbytes hbase (fun v' w' p q _ => h v' w' p q)

/-! The tables. -/
def qqqT : ByteArray := ⟨#[113, 113, 113]⟩
def qR : Lr := ⟨⟨#[113, 113, 113]⟩, ⟨#[]⟩, ⟨#[]⟩, ⟨#[113, 113, 113]⟩, ⟨#[113, 113, 113, 113]⟩, ⟨#[113, 113]⟩⟩
theorem hit_front {k : KT} {L : List Lr} (h : k.1 ≠ qqqT) : hitR (qR :: L) k = hitR L k := by
  unfold hitR
  have hk : keyR qR ≠ k := fun e => h (by rw [← e]; rfl)
  rw [List.find?_cons]
  simp [hk]
theorem hit_back {L : List Lr} {x y : Lr} {k : KT} (hx : x ∈ L) (hk : keyR y = keyR x) : hitR (L ++ [y]) k = hitR L k := by
  unfold hitR
  rw [List.find?_append]
  cases h : L.find? (fun x => decide (keyR x = k)) with
  | some z => rfl
  | none =>
    have h2 := List.find?_eq_none.1 h x hx
    have h3 : keyR x ≠ k := by simpa using h2
    simp [hk, h3]
theorem first_same {L L' : List Lr} : ∀ {A : List KT}, (∀ k ∈ A, hitR L' k = hitR L k) → firstT L' A = firstT L A
  | [], _ => rfl
  | k :: r, h => by
    unfold firstT
    rw [List.findSome?_cons, List.findSome?_cons, h k (List.mem_cons_self ..)]
    have := first_same (A := r) (fun x hx => h x (List.mem_cons_of_mem _ hx))
    unfold firstT at this
    rw [this]
theorem max_same {L L' : List Lr} {T : TagM} (h : ∀ k ∈ ladT T.lang T.script T.region, hitR L' k = hitR L k) : maxT L' T = maxT L T := by
  unfold maxT
  rw [first_same h]
theorem lad_lang {l s r : ByteArray} {k : KT} (h : k ∈ ladT l s r) : k.1 = l ∨ k.1 = undT := by
  have hk := List.mem_of_mem_take ((mem_ddT _ k).1 h)
  simp only [rungsT, List.mem_cons, List.not_mem_nil, or_false] at hk
  rcases hk with rfl | rfl | rfl | rfl | rfl
  · exact .inl rfl
  · exact .inl rfl
  · exact .inl rfl
  · exact .inl rfl
  · exact .inr rfl
theorem more_max {L : List Lr} {l s r : ByteArray} (hl : l ≠ qqqT) : maxT (qR :: L) (plainM l s r) = maxT L (plainM l s r) :=
  max_same fun _ hk => hit_front (by
    rcases lad_lang hk with h | h
    · rw [h]; exact hl
    · rw [h]; decide)
theorem more_max2 {L : List Lr} {x y : Lr} {l s r : ByteArray} (hl : l ≠ qqqT) (hx : x ∈ L) (hk : keyR y = keyR x) : maxT (qR :: L ++ [y]) (plainM l s r) = maxT L (plainM l s r) :=
  (max_same fun _ _ => hit_back (List.mem_cons_of_mem _ hx) hk).trans (more_max hl)
theorem pick18_qqq (q : Int) : pickT langs18 q ≠ qqqT := by
  unfold pickT
  rw [List.getD_eq_getElem?_getD]
  cases hx : langs18[pickI langs18.length q]? with
  | none => decide
  | some x =>
    have h : (langs18.all fun x => decide (x ≠ qqqT)) = true := by decide +kernel
    exact of_decide_eq_true (List.all_eq_true.1 h x (List.mem_of_getElem? hx))

/-! Rows in memory, cell by cell. -/
theorem lrC_lenT (L : List Lr) : ∀ c ∈ L.map lrC, c.length = 6 := by intro c hc; obtain ⟨x, -, rfl⟩ := List.mem_map.1 hc; rfl
theorem flat_lenL (L : List Lr) : ((L.map lrC).flatMap id).length = L.length * 6 := by
  induction L with
  | nil => rfl
  | cons x l ih => rw [List.map_cons, List.flatMap_cons, List.length_append, ih, List.length_cons, Nat.succ_mul]; show 6 + _ = _; omega
theorem flat_oneL (L : List Lr) : ∀ u ∈ (L.map lrC).flatMap id, u.oneCell' = true := by
  intro u hu
  obtain ⟨c, hc, hu⟩ := List.mem_flatMap.1 hu
  obtain ⟨x, -, rfl⟩ := List.mem_map.1 hc
  have : (lrC x).all (·.oneCell') = true := rfl
  exact List.all_eq_true.1 this u hu
theorem flat_invT : ∀ {L : List Lr} {j : Nat} {u : Value}, ((L.map lrC).flatMap id)[j]? = some u → ∃ i x k, L[i]? = some x ∧ j = i * 6 + k ∧ k < 6 ∧ (lrC x)[k]? = some u
  | [], j, u, h => by simp at h
  | x :: L, j, u, h => by
    rw [List.map_cons, List.flatMap_cons] at h
    by_cases hj : j < 6
    · rw [List.getElem?_append_left (by exact hj)] at h
      exact ⟨0, x, j, rfl, by omega, hj, h⟩
    · rw [List.getElem?_append_right (by show 6 ≤ j; omega)] at h
      obtain ⟨i, y, k, h1, h2, h3, h4⟩ := flat_invT (L := L) (j := j - 6) h
      exact ⟨i + 1, y, k, h1, by omega, h3, h4⟩
theorem addr_addL (g o j : Nat) : (⟨g, o, none⟩ : Addr).add j = ⟨g, o + j, none⟩ := by cases j <;> rfl
theorem RowL.news {W : World} {ad : Addr} {n c : Nat} {L : List Lr} (h : RowL W (.slice (some ad) n c) L) : ∀ j u, ((L.map lrC).flatMap id)[j]? = some u → W.cell? (ad.add j) = some u := by
  intro j u hj
  obtain ⟨i, x, k, h1, rfl, hk, h4⟩ := flat_invT hj
  obtain ⟨g, o, e, hc⟩ := h.open i x h1
  obtain ⟨c0, c1, c2, c3, c4, c5⟩ := hc W (Below.refl _ _)
  cases e
  rw [addr_addL]
  match k, hk, h4 with
  | 0, _, h4 => cases h4; exact c0
  | 1, _, h4 => cases h4; rw [← Nat.add_assoc]; exact c1
  | 2, _, h4 => cases h4; rw [← Nat.add_assoc]; exact c2
  | 3, _, h4 => cases h4; rw [← Nat.add_assoc]; exact c3
  | 4, _, h4 => cases h4; rw [← Nat.add_assoc]; exact c4
  | 5, _, h4 => cases h4; rw [← Nat.add_assoc]; exact c5
theorem own_rowL {W : World} {b n : Nat} {v : Value} {L : List Lr} (h : W.ownsRow b 61 6 v n ((L.map lrC).flatMap id)) (hn : n = L.length) : RowL W v L := by
  subst hn
  rcases h.2 with ⟨rfl, h0⟩ | ⟨g, cap, cur, rfl, hb, hg, hc, hm, hs, ht⟩
  · obtain rfl : L = [] := List.length_eq_zero_iff.1 h0
    exact ⟨none, 0, rfl, fun i x hx => by simp at hx⟩
  · refine ⟨some ⟨g, 0, none⟩, cap, rfl, fun i x hx => ?_⟩
    have hgt : ∀ k u, (lrC x)[k]? = some u → W.cell? ⟨g, i * 6 + k, none⟩ = some u := fun k u hk => by
      have e := flat_getZ (sz := 6) (L := L.map lrC) (i := i) (k := k) (lrC_lenT L) (by rw [List.getElem?_map, hx]; rfl) hk
      have hlt := (List.getElem?_eq_some_iff.1 e).1
      rw [flat_lenL] at hlt
      rw [World.ownsRow.cellAt h _ hlt]
      exact e
    refine ⟨g, 0, rfl, ?_, ?_, ?_, ?_, ?_, ?_⟩
    · simpa using hgt 0 _ rfl
    · simpa using hgt 1 _ rfl
    · simpa using hgt 2 _ rfl
    · simpa using hgt 3 _ rfl
    · simpa using hgt 4 _ rfl
    · simpa using hgt 5 _ rfl
theorem own_snocL {W : World} {b n : Nat} {v : Value} {L : List Lr} {y : Lr} (h : W.ownsRow b 61 6 v n ((L.map lrC).flatMap id ++ lrC y)) : W.ownsRow b 61 6 v n (((L ++ [y]).map lrC).flatMap id) := by
  rw [List.map_append, List.flatMap_append, List.map_singleton, List.flatMap_singleton]
  exact h

theorem own_lowL {W : World} {b n sz : Nat} {e : TypeId} {v : Value} {xs : List Value} (h : W.ownsRow b e sz v n xs) : ∀ r, v.ownBlock = some r → b ≤ r := by
  intro r hr
  rcases h.2 with ⟨rfl, _⟩ | ⟨g, cap, cur, rfl, hb, _⟩
  · cases hr
  · cases hr
    exact hb

/-! The law's own rest. -/
set_option maxRecDepth 100000 in
theorem rest18n_any (x : Int) (n : Nat) (w : World) (hn : 1 ≤ n) (hn2 : n ≤ 1000) :
    Calls Try.prog 39 #[.int .i64 x, .int .i64 (n : Int)] w fun e w' => e = .returned (.int .i64 (restV x n : Int)) ∧ w = w' := by
  have HE := Lib.hid (rest_numZ x n hn hn2)
  have h0 : ((n : Int) == 0) = false := by rw [beq_eq_false_iff_ne]; omega
  have h1 : (n : Int) ≠ 0 := by omega
  clear hn hn2
  generalize hm : (n : Int) = m at *
  go_enter Try.func39, Try.ntmps39
  go_wp2
  go_ret
  exact ⟨ret_int HE.out, rfl⟩

/-! Maximize at a tag of a language, a script, a region alone: what comes has no rows. -/
theorem plain_is0 (W : World) (l s r g : ByteArray) (a1 a2 a3 a4 : Option Addr) (d1 d2 d3 d4 : Nat) : TagIs W (.agg #[.string l, .slice a1 0 d1, .string s, .string r, .slice a2 0 d2, .slice a3 0 d3, .slice a4 0 d4, .string g]) ⟨l, [], s, r, [], [], [], g⟩ :=
  ⟨_, _, _, _, rfl, ⟨a1, d1, rfl, fun i x h => by simp at h⟩, ⟨a2, d2, rfl, fun i x h => by simp at h⟩, ⟨a3, d3, rfl, fun i x h => by simp at h⟩, ⟨a4, d4, rfl, fun i x h => by simp at h⟩⟩
theorem max_rows (L : List Lr) (l s r : ByteArray) : (maxT L (plainM l s r)).1 = plainM (maxT L (plainM l s r)).1.lang (maxT L (plainM l s r)).1.script (maxT L (plainM l s r)).1.region := by
  unfold maxT
  split <;> rfl
theorem max_flat (a1 a3 a4 : Option Addr) (n1 c1 n3 c3 n4 c4 : Nat) (th de : Int) (lk : Value) (L : List Lr) (l s r l' s' r' : ByteArray) (b : Bool) (w : World) (hL : RowL w lk L) (hl : L.length ≤ 4000) (hS : RowS L) (hK : KST (l, s, r))
    (hm : maxT L (plainM l s r) = (plainM l' s' r', b)) :
    Calls Try.prog 14 #[.agg #[.slice a1 n1 c1, lk, .slice a3 n3 c3, .slice a4 n4 c4, .int .i64 th, .int .i64 de], .agg #[.string l, .slice none 0 0, .string s, .string r, .slice none 0 0, .slice none 0 0, .slice none 0 0, .string ⟨#[]⟩]] w fun e w' =>
      ∃ b1 d1 b2 d2 b3 d3 b4 d4, e = .returned (.tuple #[.agg #[.string l', .slice b1 0 d1, .string s', .string r', .slice b2 0 d2, .slice b3 0 d3, .slice b4 0 d4, .string ⟨#[]⟩], .bool b]) ∧ Below w.heap.size w w' := by
  refine (maxi_any a1 a3 a4 n1 c1 n3 c3 n4 c4 th de lk L _ (plainM l s r) w hL hl hS (plain_is w l s r) (plain_fits l s r) hK).mono ?_
  rintro e w' ⟨u, rfl, hT, hb⟩
  rw [hm] at hT ⊢
  obtain ⟨ve, vv, vx, vp, rfl, ⟨b1, d1, rfl, _⟩, ⟨b2, d2, rfl, _⟩, ⟨b3, d3, rfl, _⟩, ⟨b4, d4, rfl, _⟩⟩ := hT
  exact ⟨_, _, _, _, _, _, _, _, rfl, hb⟩
end Go.Proofs.Ythjfcfhibdpbnaa

namespace Go.Proofs.Ythjfcfhibdpbnaa
open Go Go.RowKit

attribute [local go_sem] Oper.semAt_some

theorem sameT_selfL (A : TagM) : sameT A A = true := by simp [sameT]
set_option maxRecDepth 100000 in
set_option maxHeartbeats 8000000 in
theorem more_any (a1 lo a3 a4 : Option Addr) (n1 c1 lc n3 c3 n4 c4 : Nat) (th de : Int) (L : List Lr) (l s r : ByteArray) (n : Int) (w : World) (hL : RowL w (.slice lo L.length lc) L) (hlo : lo = none → lc = 0 ∧ L.length = 0) (hl : L.length ≤ 1000) (hS : RowS L) (hK : KST (l, s, r)) (hq : l ≠ qqqT) :
    Calls Try.prog 13 #[.agg #[.slice a1 n1 c1, .slice lo L.length lc, .slice a3 n3 c3, .slice a4 n4 c4, .int .i64 th, .int .i64 de], .agg #[.string l, .slice none 0 0, .string s, .string r, .slice none 0 0, .slice none 0 0, .slice none 0 0, .string ⟨#[]⟩], .int .i64 n] w fun e w' => e = .returned (.bool true) ∧ Below w.heap.size w w' := by
  obtain ⟨l', s', r', bb, hm⟩ : ∃ l' s' r' bb, maxT L (plainM l s r) = (plainM l' s' r', bb) := ⟨_, _, _, _, by rw [← max_rows]⟩
  obtain ⟨W0, hW0⟩ : ∃ W0, (w.alloc (.cells #[.slice a1 n1 c1, .slice lo L.length lc, .slice a3 n3 c3, .slice a4 n4 c4, .int .i64 th, .int .i64 de] 35)).alloc (.cells #[.string l, .slice none 0 0, .string s, .string r, .slice none 0 0, .slice none 0 0, .slice none 0 0, .string ⟨#[]⟩] 40) = W0 := ⟨_, rfl⟩
  have hz0 : W0.heap.size = w.heap.size + 2 := by rw [← hW0]; simp
  have hb0 : Below w.heap.size w W0 := by rw [← hW0]; exact ((Below.refl _ w).alloc (Nat.le_refl _) _).alloc (by simp) _
  have hi0 : W0.heap[w.heap.size]? = some (.cells #[.slice a1 n1 c1, .slice lo L.length lc, .slice a3 n3 c3, .slice a4 n4 c4, .int .i64 th, .int .i64 de] 35 (0, 0)) := by rw [← hW0]; exact (Below.heap_alloc _ _ _ (by simp)).trans (World.alloc_heap_new w _)
  have ht0 : W0.heap[w.heap.size + 1]? = some (.cells #[.string l, .slice none 0 0, .string s, .string r, .slice none 0 0, .slice none 0 0, .slice none 0 0, .string ⟨#[]⟩] 40 (0, 0)) := by
    have h := World.alloc_heap_new (w.alloc (.cells #[.slice a1 n1 c1, .slice lo L.length lc, .slice a3 n3 c3, .slice a4 n4 c4, .int .i64 th, .int .i64 de] 35)) (.cells #[.string l, .slice none 0 0, .string s, .string r, .slice none 0 0, .slice none 0 0, .slice none 0 0, .string ⟨#[]⟩] 40)
    rw [World.size_alloc] at h
    rw [← hW0]
    exact h
  have HM1 := Lib.hid (max_flat a1 a3 a4 n1 c1 n3 c3 n4 c4 th de _ L l s r l' s' r' bb W0 (hL.below hb0) (by omega) hS hK hm)
  have HL0 := Lib.hid (hL.below hb0)
  have HB0 := Lib.hid hb0
  have HI0 := Lib.hid hi0
  have HT0 := Lib.hid ht0
  have HZ0 := Lib.hid hz0
  have HW0 := Lib.hid hW0
  have HM := Lib.hid hm
  have HS := Lib.hid hS
  have HK := Lib.hid hK
  have HQ := Lib.hid hq
  have HLO := Lib.hid hlo
  have HLL := Lib.hid hl
  obtain ⟨i0, hi, hz0', hz1, hz2⟩ := info_parts lkInfo
  clear hL hlo hl hS hK hq hm hb0 hi0 ht0 hz0 hW0
  go_enter Try.func13, Try.ntmps13
  go_upto_region 2 with (rw [HW0.out]; go_at_call 14; (with_reducible refine HM1.out.mono ?_); rintro e w1 ⟨b1, d1, b2, d2, b3, d3, b4, d4, rfl, hb1⟩; have HB1 := Lib.hid hb1; clear hb1)
  obtain ⟨W1, hW1⟩ : ∃ W1, w1.alloc (.cells #[.string l', .slice b1 0 d1, .string s', .string r', .slice b2 0 d2, .slice b3 0 d3, .slice b4 0 d4, .string ⟨#[]⟩] 40) = W1 := ⟨_, rfl⟩
  rw [hW1]
  have hb1 : Below W0.heap.size W0 W1 := by rw [← hW1]; exact HB1.out.alloc HB1.out.size _
  have HA1 := Lib.hid (show W1.heap[w1.heap.size]? = some (.cells #[.string l', .slice b1 0 d1, .string s', .string r', .slice b2 0 d2, .slice b3 0 d3, .slice b4 0 d4, .string ⟨#[]⟩] 40 (0, 0)) by rw [← hW1]; exact World.alloc_heap_new w1 _)
  have HI1 := Lib.hid ((hb1.block _ (lt_blockT HI0.out)).trans HI0.out)
  have HT1 := Lib.hid ((hb1.block _ (lt_blockT HT0.out)).trans HT0.out)
  have HL1 := Lib.hid (HL0.out.below hb1)
  have HBW := Lib.hid (HB0.out.trans (hb1.mono HB0.out.size))
  have HLT := Lib.hid (show w.heap.size + 2 ≤ w1.heap.size ∧ w1.heap.size + 1 = W1.heap.size from ⟨by have := HB1.out.size; have := HZ0.out; omega, by rw [← hW1]; simp⟩)
  have hi1 := HI1.out
  obtain ⟨c0, cc1, c2, cc3, cc4, c5⟩ := cells6 hi1
  clear hi1 hW1 hb1
  go_upto_region 3 with fail
  obtain ⟨W2, hW2⟩ : ∃ W2, W1.alloc (.cells #[.slice a1 n1 c1, .slice lo L.length lc, .slice a3 n3 c3, .slice a4 n4 c4, .int .i64 th, .int .i64 de] 35) = W2 := ⟨_, rfl⟩
  rw [hW2]
  have hb2 : Below W1.heap.size W1 W2 := by rw [← hW2]; exact (Below.refl _ W1).alloc (Nat.le_refl _) _
  have HZ2 := Lib.hid (show W2.heap.size = W1.heap.size + 1 by rw [← hW2]; simp)
  have HX2 := Lib.hid (show W2.heap[W1.heap.size]? = some (.cells #[.slice a1 n1 c1, .slice lo L.length lc, .slice a3 n3 c3, .slice a4 n4 c4, .int .i64 th, .int .i64 de] 35 (0, 0)) by rw [← hW2]; exact World.alloc_heap_new W1 _)
  clear c0 cc1 c2 cc3 cc4 c5
  have hi2 := ((hb2.alloc hb2.size (.cells #[.string { data := #[113, 113, 113] }, .string { data := #[] }, .string { data := #[] }, .string { data := #[113, 113, 113] }, .string { data := #[113, 113, 113, 113] }, .string { data := #[113, 113] }] 61)).block _ (lt_blockT HI1.out)).trans HI1.out
  obtain ⟨c0, cc1, c2, cc3, cc4, c5⟩ := cells6 hi2
  have HB2 := Lib.hid hb2
  have HNW := Lib.hid (fun ad (e : lo = some ad) => show ∀ j u, ((L.map lrC).flatMap id)[j]? = some u → (W2.alloc (.cells #[.string { data := #[113, 113, 113] }, .string { data := #[] }, .string { data := #[] }, .string { data := #[113, 113, 113] }, .string { data := #[113, 113, 113, 113] }, .string { data := #[113, 113] }] 61)).cell? (ad.add j) = some u from (by subst e; exact (HL1.out.below (hb2.alloc hb2.size _)).news))
  clear hi2 hW2 hb2
  go_upto_region 4 with (at_builtin; refine append_anyT _ rfl _ _ 31 rfl (W1.heap.size + 1) 61 i0 (.agg #[.string ByteArray.empty, .string ByteArray.empty, .string ByteArray.empty, .string ByteArray.empty, .string ByteArray.empty, .string ByteArray.empty]) 6 96 Try.underlying31 hi hz0' hz1 hz2 rfl (by decide) _ _ _ rfl (World.ownsRow_lit W2 #[.string { data := #[113, 113, 113] }, .string { data := #[] }, .string { data := #[] }, .string { data := #[113, 113, 113] }, .string { data := #[113, 113, 113, 113] }, .string { data := #[113, 113] }] 1 (by have := HZ2.out; omega) (by decide) rfl) lo L.length lc ((L.map lrC).flatMap id) rfl HLO.out (flat_lenL L) HNW.out (flat_oneL L) (by have := HLL.out; unfold maxLen; omega) (by have := HLL.out; omega) (by rw [World.size_alloc]; have := HZ2.out; omega) ?_; intro v9 w9 hown9 hgrow9; have hg9 : (W2.alloc (.cells #[.string { data := #[113, 113, 113] }, .string { data := #[] }, .string { data := #[] }, .string { data := #[113, 113, 113] }, .string { data := #[113, 113, 113, 113] }, .string { data := #[113, 113] }] 61)).grownBy w9 (some W2.heap.size) := hgrow9; have hb9 := (HB2.out.alloc HB2.out.size _).grown hg9 (by rw [World.size_alloc]; have := HZ2.out; omega) (fun r e => by cases e; have := HZ2.out; omega); have hx9 := (hg9.block W1.heap.size (by rw [World.size_alloc]; have := HZ2.out; omega) (by have := HZ2.out; simp; omega)).trans ((Below.heap_alloc _ _ _ (by have := HZ2.out; omega)).trans HX2.out); obtain ⟨q0, q1, q2, q3, q4, q5⟩ := cells6 hx9; have f2 := frozenY hx9 1; have HX9 := Lib.hid hx9; have HB9 := Lib.hid hb9; have HO9 := Lib.hid hown9; obtain ⟨a8, n8, c8, rfl⟩ := own_sliceT hown9; clear hown9 hgrow9 hx9 hg9 hb9)
  have HO := Lib.hid (own_setZ HO9.out 1 (.slice a8 n8 c8))
  have HX := Lib.hid (show (w9.setCell ⟨W1.heap.size, 1, none⟩ (.slice a8 n8 c8)).heap[W1.heap.size]? = some (.cells #[.slice a1 n1 c1, .slice a8 n8 c8, .slice a3 n3 c3, .slice a4 n4 c4, .int .i64 th, .int .i64 de] 35 (0, 0)) from setY HX9.out (k := 1) (.slice a8 n8 c8))
  have HB := Lib.hid (HB9.out.setCell (p := ⟨W1.heap.size, 1, none⟩) (Nat.le_refl _) (.slice a8 n8 c8))
  generalize w9.setCell ⟨W1.heap.size, 1, none⟩ (.slice a8 n8 c8) = W3 at *
  clear q0 q1 q2 q3 q4 q5 f2 HX9 HB9 HO9 HNW HX2 c0 cc1 c2 cc3 cc4 c5
  have hi3 := (HB.out.block _ (by have := HLT.out; omega)).trans HI1.out
  obtain ⟨c0, cc1, c2, cc3, cc4, c5⟩ := cells6 hi3
  clear hi3
  rcases Nat.eq_zero_or_pos L.length with hn0 | hn0
  · have hgt : ¬ (0 : Int) < (L.length : Int) := by omega
    have HRX := Lib.hid (own_rowL (L := qR :: L) HO.out (by rw [List.length_cons]; omega))
    have HSX := Lib.hid (show RowS (qR :: L) from fun x hx => by
      rcases List.mem_cons.1 hx with rfl | hx
      · exact ⟨by decide, by decide, by decide⟩
      · exact HS.out x hx)
    go_upto_region 8 with fail
    obtain ⟨WZ, rfl⟩ : ∃ WZ, WZ = W3 := ⟨_, rfl⟩
    have hx8 := HX.out
    obtain ⟨x0, x1, x2, x3, x4, x5⟩ := cells6 hx8
    have ht8 := (HB.out.block _ (by have := HLT.out; omega)).trans HT1.out
    obtain ⟨t0, t1, t2, t3, t4, t5, t6, t7⟩ := tag_cells ht8
    have HMX := Lib.hid (max_flat a1 a3 a4 n1 c1 n3 c3 n4 c4 th de _ (qR :: L) l s r l' s' r' bb WZ HRX.out (by rw [List.length_cons]; omega) HSX.out HK.out ((more_max HQ.out).trans HM.out))
    clear hx8 ht8
    go_upto_region 9 with (go_at_call 14; (with_reducible refine HMX.out.mono ?_); rintro e w5 ⟨e1, f1, e2, f2, e3, f3, e4, f4, rfl, hb5⟩; have HB5 := Lib.hid hb5; clear hb5)
    obtain ⟨W8, hW8⟩ : ∃ W8, w5.alloc (.cells #[.string l', .slice e1 0 f1, .string s', .string r', .slice e2 0 f2, .slice e3 0 f3, .slice e4 0 f4, .string ⟨#[]⟩] 40) = W8 := ⟨_, rfl⟩
    rw [hW8]
    have hb8 : Below WZ.heap.size WZ W8 := by rw [← hW8]; exact HB5.out.alloc HB5.out.size _
    have hbZ := HB.out.trans (hb8.mono HB.out.size)
    have hB8 : W8.heap[w5.heap.size]? = some (.cells #[.string l', .slice e1 0 f1, .string s', .string r', .slice e2 0 f2, .slice e3 0 f3, .slice e4 0 f4, .string ⟨#[]⟩] 40 (0, 0)) := by rw [← hW8]; exact World.alloc_heap_new w5 _
    have hA8 := (hbZ.block _ (by have := HLT.out; omega)).trans HA1.out
    have HE := Lib.hid (HBW.out.trans (hbZ.mono HBW.out.size))
    obtain ⟨p0, p1, p2, p3, p4, p5, p6, p7⟩ := tag_cells hA8
    obtain ⟨u0, u1, u2, u3, u4, u5, u6, u7⟩ := tag_cells hB8
    have HSM := Lib.hid ((same_ref _ _ (plainM l' s' r') (plainM l' s' r') W8 (plain_is0 W8 l' s' r' ⟨#[]⟩ b1 b2 b3 b4 d1 d2 d3 d4) (plain_is0 W8 l' s' r' ⟨#[]⟩ e1 e2 e3 e4 f1 f2 f3 f4) (plain_fits l' s' r')).mono (R' := fun e w' => e = .returned (.bool true) ∧ Below W8.heap.size W8 w') fun e w' ⟨p, q⟩ => ⟨by rw [p, sameT_selfL], q⟩)
    clear x0 x1 x2 x3 x4 x5 t0 t1 t2 t3 t4 t5 t6 t7 hW8 hb8 hbZ hB8 hA8
    go_upto_region 10 with (go_at_call 33; (with_reducible refine HSM.out.mono ?_); rintro e w6 ⟨rfl, hb6⟩; have HE2 := Lib.hid (HE.out.trans (hb6.mono HE.out.size)); clear hb6)
    have hbb : (bb == bb) = true := beq_self_eq_true bb
    go_wp2_with fail
    go_ret
    exact ⟨rfl, HE2.out⟩
  · have hgt : (0 : Int) < (L.length : Int) := by omega
    have HR := Lib.hid (fun w5 => rest18n_any n L.length w5 hn0 HLL.out)
    have hrl := restV_lt n L.length hn0
    generalize restV n L.length = k at *
    obtain ⟨y, hy⟩ : ∃ y, L[k]? = some y := ⟨_, List.getElem?_eq_getElem hrl⟩
    obtain ⟨g, o, rfl, hcy⟩ := HL1.out.open k y hy
    obtain ⟨y0, y1, y2, y3, y4, y5⟩ := hcy W3 HB.out
    have k0 : (0 : Int) ≤ (k : Int) := by omega
    have k1 : (k : Int) < (L.length : Int) := by omega
    go_upto_region 5 with fail
    have HSS := Lib.hid (fun w' (h : Below W3.heap.size W3 w') => show Below W3.heap.size W3 w' ∧ w'.cell? ⟨w.heap.size, 1, none⟩ = some (.slice (some ⟨g, o, none⟩) L.length lc) ∧ w'.cell? ⟨g, o + k * 6, none⟩ = some (.string y.l) ∧ w'.cell? ⟨g, o + k * 6 + 1, none⟩ = some (.string y.s) ∧ w'.cell? ⟨g, o + k * 6 + 2, none⟩ = some (.string y.r) ∧ w'.cell? ⟨g, o + k * 6 + 3, none⟩ = some (.string y.tl) ∧ w'.cell? ⟨g, o + k * 6 + 4, none⟩ = some (.string y.ts) ∧ w'.cell? ⟨g, o + k * 6 + 5, none⟩ = some (.string y.tr) from ⟨h, (h.cell (p := ⟨w.heap.size, 1, none⟩) (lt_cellT cc1)).trans cc1, (h.cell (p := ⟨g, o + k * 6, none⟩) (lt_cellT y0)).trans y0, (h.cell (p := ⟨g, o + k * 6 + 1, none⟩) (lt_cellT y1)).trans y1, (h.cell (p := ⟨g, o + k * 6 + 2, none⟩) (lt_cellT y2)).trans y2, (h.cell (p := ⟨g, o + k * 6 + 3, none⟩) (lt_cellT y3)).trans y3, (h.cell (p := ⟨g, o + k * 6 + 4, none⟩) (lt_cellT y4)).trans y4, (h.cell (p := ⟨g, o + k * 6 + 5, none⟩) (lt_cellT y5)).trans y5⟩)
    have HRR := Lib.hid (fun w' (h : Below W3.heap.size W3 w') => (HR.out w').mono (R' := fun e w'' => e = .returned (.int .i64 (k : Int)) ∧ Below W3.heap.size W3 w'') fun e w'' ⟨p, q⟩ => ⟨p, by rw [← q]; exact h⟩)
    have hdr : Below W3.heap.size W3 W3.drew := Below.drew (Below.refl _ _)
    have HDA := Lib.hid (hdr.alloc hdr.size (.cells #[.string y.l, .string y.s, .string y.r, .string y.tl, .string y.ts, .string y.tr] 61))
    go_region_held3 (fun w' => Below W3.heap.size W3 w' ∧ w'.cell? ⟨w.heap.size, 1, none⟩ = some (.slice (some ⟨g, o, none⟩) L.length lc) ∧ w'.cell? ⟨g, o + k * 6, none⟩ = some (.string y.l) ∧ w'.cell? ⟨g, o + k * 6 + 1, none⟩ = some (.string y.s) ∧ w'.cell? ⟨g, o + k * 6 + 2, none⟩ = some (.string y.r) ∧ w'.cell? ⟨g, o + k * 6 + 3, none⟩ = some (.string y.tl) ∧ w'.cell? ⟨g, o + k * 6 + 4, none⟩ = some (.string y.ts) ∧ w'.cell? ⟨g, o + k * 6 + 5, none⟩ = some (.string y.tr))
      (exact HSS.out _ (by first | assumption | exact hdr.alloc hdr.size _ | exact HDA.out))
      (first | (go_at_call 39; (with_reducible refine (HR.out _).mono ?_); rintro e u1 ⟨rfl, rfl⟩))
    all_goals
      have hb4 : Below W3.heap.size W3 (W3.alloc (.cells #[.string y.l, .string y.s, .string y.r, .string y.tl, .string y.ts, .string y.tr] 61)).drew := Below.drew ((Below.refl _ W3).alloc (Nat.le_refl _) _)
      have HY4 := Lib.hid (show (W3.alloc (.cells #[.string y.l, .string y.s, .string y.r, .string y.tl, .string y.ts, .string y.tr] 61)).drew.heap[W3.heap.size]? = some (.cells #[.string y.l, .string y.s, .string y.r, .string y.tl, .string y.ts, .string y.tr] 61 (0, 0)) from World.alloc_heap_new W3 _)
      obtain ⟨W4, hW4⟩ : ∃ W4, (W3.alloc (.cells #[.string y.l, .string y.s, .string y.r, .string y.tl, .string y.ts, .string y.tr] 61)).drew = W4 := ⟨_, rfl⟩
      rw [hW4]
      rw [hW4] at hb4 HY4
      have HB4 := Lib.hid hb4
      have hy4 := HY4.out
      obtain ⟨z0, z1, z2, z3, z4, z5⟩ := cells6 hy4
      have fz := frozenY hy4 4
      clear hW4 hb4 hy4 HSS HRR hdr HDA HR cc1 c0 c2 cc3 cc4 c5 y0 y1 y2 y3 y4 y5
      go_upto_region 7 with fail
      have HY5 := Lib.hid (show (W4.setCell ⟨W3.heap.size, 4, none⟩ (.string { data := #[113, 113, 113, 113] })).heap[W3.heap.size]? = some (.cells #[.string y.l, .string y.s, .string y.r, .string y.tl, .string { data := #[113, 113, 113, 113] }, .string y.tr] 61 (0, 0)) from setY HY4.out (k := 4) (.string { data := #[113, 113, 113, 113] }))
      have HB5 := Lib.hid (HB4.out.setCell (p := ⟨W3.heap.size, 4, none⟩) (Nat.le_refl _) (.string { data := #[113, 113, 113, 113] }))
      generalize W4.setCell ⟨W3.heap.size, 4, none⟩ (.string { data := #[113, 113, 113, 113] }) = W5 at *
      clear z0 z1 z2 z3 z4 z5 fz HY4 HB4
      have hy5 := HY5.out
      obtain ⟨z0, z1, z2, z3, z4, z5⟩ := cells6 hy5
      have hx5 := (HB5.out.block _ (lt_blockT HX.out)).trans HX.out
      obtain ⟨q0, q1, q2, q3, q4, q5⟩ := cells6 hx5
      have HX5 := Lib.hid hx5
      have HO5 := Lib.hid (own_belowW HO.out (HB5.out.alloc HB5.out.size (.cells #[.string y.l, .string y.s, .string y.r, .string y.tl, .string { data := #[113, 113, 113, 113] }, .string y.tr] 61)))
      have HBA := Lib.hid ((HB.out.trans (HB5.out.mono HB.out.size)).alloc (Nat.le_trans HB.out.size HB5.out.size) (.cells #[.string y.l, .string y.s, .string y.r, .string y.tl, .string { data := #[113, 113, 113, 113] }, .string y.tr] 61))
      clear hy5 hx5
      go_upto_region 8 with (at_builtin; refine wpList_append_own _ rfl _ _ 31 rfl (W1.heap.size + 1) 61 i0 (.agg #[.string ByteArray.empty, .string ByteArray.empty, .string ByteArray.empty, .string ByteArray.empty, .string ByteArray.empty, .string ByteArray.empty]) 6 96 Try.underlying31 hi hz0' hz1 hz2 rfl (by decide) _ _ _ rfl HO5.out ⟨_, 0, none⟩ 1 1 [.string y.l, .string y.s, .string y.r, .string y.tl, .string { data := #[113, 113, 113, 113] }, .string y.tr] rfl rfl (cell_newsZ _ [.string y.l, .string y.s, .string y.r, .string y.tl, .string { data := #[113, 113, 113, 113] }, .string y.tr] _) (fun u hu => List.all_eq_true.1 (show ([.string y.l, .string y.s, .string y.r, .string y.tl, .string { data := #[113, 113, 113, 113] }, .string y.tr] : List Value).all (·.oneCell') = true from rfl) u hu) (by have := HLL.out; unfold maxLen; omega) (by have := HLL.out; omega) (by have := lt_blockT HX5.out; rw [World.size_alloc]; omega) ?_; intro v10 w10 hown10 hgrow10 _; have hb10 := HBA.out.grown hgrow10 HBA.out.size (fun r e => by have := own_lowL HO5.out r e; omega); have hx10 := (hgrow10.block W1.heap.size (by have := lt_blockT HX5.out; rw [World.size_alloc]; omega) (fun e => by have := own_lowL HO5.out _ e.symm; omega)).trans ((Below.heap_alloc _ _ _ (by have := lt_blockT HX5.out; omega)).trans HX5.out); obtain ⟨r0, r1, r2, r3, r4, r5⟩ := cells6 hx10; have f3 := frozenY hx10 1; have HX10 := Lib.hid hx10; have HB10 := Lib.hid hb10; have HO10 := Lib.hid hown10; obtain ⟨a9, n9, c9, rfl⟩ := own_sliceT hown10; clear hown10 hgrow10 hx10 hb10)
      have HO' := Lib.hid (own_setZ HO10.out 1 (.slice a9 n9 c9))
      have HX' := Lib.hid (show (w10.setCell ⟨W1.heap.size, 1, none⟩ (.slice a9 n9 c9)).heap[W1.heap.size]? = some (.cells #[.slice a1 n1 c1, .slice a9 n9 c9, .slice a3 n3 c3, .slice a4 n4 c4, .int .i64 th, .int .i64 de] 35 (0, 0)) from setY HX10.out (k := 1) (.slice a9 n9 c9))
      have HB' := Lib.hid (HB10.out.setCell (p := ⟨W1.heap.size, 1, none⟩) (Nat.le_refl _) (.slice a9 n9 c9))
      clear HX HB HO
      generalize w10.setCell ⟨W1.heap.size, 1, none⟩ (.slice a9 n9 c9) = WZ at *
      have HX := HX'
      have HB := HB'
      clear HX' HB'
      have HRX := Lib.hid (own_rowL (L := qR :: L ++ [(⟨y.l, y.s, y.r, y.tl, ⟨#[113, 113, 113, 113]⟩, y.tr⟩ : Lr)]) (own_snocL (L := qR :: L) HO'.out) (by rw [List.length_append, List.length_cons, List.length_singleton]; omega))
      have HSX := Lib.hid (show RowS (qR :: L ++ [(⟨y.l, y.s, y.r, y.tl, ⟨#[113, 113, 113, 113]⟩, y.tr⟩ : Lr)]) from fun x hx => by
        rcases List.mem_append.1 hx with hx | hx
        · rcases List.mem_cons.1 hx with rfl | hx
          · exact ⟨by decide, by decide, by decide⟩
          · exact HS.out x hx
        · rw [List.mem_singleton] at hx
          subst hx
          exact HS.out y (List.mem_of_getElem? hy))
      have HYM := Lib.hid (List.mem_of_getElem? hy)
      clear z0 z1 z2 z3 z4 z5 q0 q1 q2 q3 q4 q5 r0 r1 r2 r3 r4 r5 f3 HX5 HO5 HBA HX10 HB10 HO10 HY5 HB5
      have hx8 := HX.out
      obtain ⟨x0, x1, x2, x3, x4, x5⟩ := cells6 hx8
      have ht8 := (HB.out.block _ (by have := HLT.out; omega)).trans HT1.out
      obtain ⟨t0, t1, t2, t3, t4, t5, t6, t7⟩ := tag_cells ht8
      have HMX := Lib.hid (max_flat a1 a3 a4 n1 c1 n3 c3 n4 c4 th de _ (qR :: L ++ [(⟨y.l, y.s, y.r, y.tl, ⟨#[113, 113, 113, 113]⟩, y.tr⟩ : Lr)]) l s r l' s' r' bb WZ HRX.out (by rw [List.length_append, List.length_cons, List.length_singleton]; have := HLL.out; omega) HSX.out HK.out ((more_max2 (x := y) (y := (⟨y.l, y.s, y.r, y.tl, ⟨#[113, 113, 113, 113]⟩, y.tr⟩ : Lr)) HQ.out HYM.out rfl).trans HM.out))
      clear hx8 ht8
      go_upto_region 9 with (go_at_call 14; (with_reducible refine HMX.out.mono ?_); rintro e w5 ⟨e1, f1, e2, f2, e3, f3, e4, f4, rfl, hb5⟩; have HB5 := Lib.hid hb5; clear hb5)
      obtain ⟨W8, hW8⟩ : ∃ W8, w5.alloc (.cells #[.string l', .slice e1 0 f1, .string s', .string r', .slice e2 0 f2, .slice e3 0 f3, .slice e4 0 f4, .string ⟨#[]⟩] 40) = W8 := ⟨_, rfl⟩
      rw [hW8]
      have hb8 : Below WZ.heap.size WZ W8 := by rw [← hW8]; exact HB5.out.alloc HB5.out.size _
      have hbZ := HB.out.trans (hb8.mono HB.out.size)
      have hB8 : W8.heap[w5.heap.size]? = some (.cells #[.string l', .slice e1 0 f1, .string s', .string r', .slice e2 0 f2, .slice e3 0 f3, .slice e4 0 f4, .string ⟨#[]⟩] 40 (0, 0)) := by rw [← hW8]; exact World.alloc_heap_new w5 _
      have hA8 := (hbZ.block _ (by have := HLT.out; omega)).trans HA1.out
      have HE := Lib.hid (HBW.out.trans (hbZ.mono HBW.out.size))
      obtain ⟨p0, p1, p2, p3, p4, p5, p6, p7⟩ := tag_cells hA8
      obtain ⟨u0, u1, u2, u3, u4, u5, u6, u7⟩ := tag_cells hB8
      have HSM := Lib.hid ((same_ref _ _ (plainM l' s' r') (plainM l' s' r') W8 (plain_is0 W8 l' s' r' ⟨#[]⟩ b1 b2 b3 b4 d1 d2 d3 d4) (plain_is0 W8 l' s' r' ⟨#[]⟩ e1 e2 e3 e4 f1 f2 f3 f4) (plain_fits l' s' r')).mono (R' := fun e w' => e = .returned (.bool true) ∧ Below W8.heap.size W8 w') fun e w' ⟨p, q⟩ => ⟨by rw [p, sameT_selfL], q⟩)
      clear x0 x1 x2 x3 x4 x5 t0 t1 t2 t3 t4 t5 t6 t7 hW8 hb8 hbZ hB8 hA8
      go_upto_region 10 with (go_at_call 33; (with_reducible refine HSM.out.mono ?_); rintro e w6 ⟨rfl, hb6⟩; have HE2 := Lib.hid (HE.out.trans (hb6.mono HE.out.size)); clear hb6)
      have hbb : (bb == bb) = true := beq_self_eq_true bb
      go_wp2_with fail
      go_ret
      exact ⟨rfl, HE2.out⟩
end Go.Proofs.Ythjfcfhibdpbnaa

namespace Go.Proofs.Ythjfcfhibdpbnaa
open Go Go.RowKit
attribute [local go_sem] Oper.semAt_some

def toLr (x : Lk) : Lr := ⟨x.l, x.s, x.r, x.tl, x.ts, x.tr⟩
theorem flat_toLr (l : List Lk) : ((l.map toLr).map lrC).flatMap id = (l.map lkC).flatMap id := by
  rw [List.map_map]
  rfl
theorem own4_row {W : World} {b : Nat} {im : Im} {va vl vr vm : Value} (h : Own4 W b im va vl vr vm) (hl : im.lks.length ≤ 1000) : ∃ lo lc L, vl = .slice lo (List.length L) lc ∧ RowL W vl L ∧ (lo = none → lc = 0 ∧ L.length = 0) ∧ L.length ≤ 1000 ∧ RowS L := by
  have ho : W.ownsRow b 61 6 vl (im.lks.map toLr).length (((im.lks.map toLr).map lrC).flatMap id) := by
    rw [flat_toLr, List.length_map]
    exact h.l
  have hr := own_rowL ho rfl
  obtain ⟨lo, lc, rfl⟩ := hr.shape
  refine ⟨lo, lc, _, rfl, hr, fun e => ?_, by rw [List.length_map]; exact hl, fun x hx => ?_⟩
  · subst e
    rcases ho.2 with ⟨e, h0⟩ | ⟨g, cap, cur, e, _⟩
    · injection e with e1 e2 e3
      exact ⟨e3, h0⟩
    · injection e with e1
      cases e1
  · obtain ⟨y, hy, rfl⟩ := List.mem_map.1 hx
    have hs := h.s.lks y hy
    refine ⟨Nat.le_trans (hs y.l ?_) (by decide), Nat.le_trans (hs y.s ?_) (by decide), Nat.le_trans (hs y.r ?_) (by decide)⟩ <;> simp [lkT]
theorem lks_lenT {S : SeedZ} {im : Im} (h : BaseI S im) (k : Nat) : (spI im k).lks.length ≤ 1000 := by
  have h1 := h.l.len
  have h2 : 2 * min S.lks.length 8 ≤ 16 := by omega
  unfold spI
  split <;> (try simp only [List.length_append, List.length_cons, List.length_nil]) <;> omega
set_option maxRecDepth 100000 in
set_option maxHeartbeats 8000000 in
theorem likelyMore_law (S : SeedZ) (va vl vr vm : Value) (q0 q1 q2 n : Int) (w : World) (hS : SdR w va vl vr vm S) :
    Calls Try.prog 5 #[.agg #[va, vl, vr, vm, .int .i64 S.th, .int .i64 S.de, .int .i64 S.odd], .agg #[.int .i64 q0, .int .i64 q1, .int .i64 q2], .int .i64 n] w fun e w' => e = .returned (.bool true) ∧ Below w.heap.size w w' := by
  obtain ⟨xa, ca, rfl, -⟩ := hS.a.opened
  obtain ⟨xl, cl, rfl, -⟩ := hS.l.opened
  obtain ⟨xr, cr, rfl, -⟩ := hS.r.opened
  obtain ⟨xm, cm, rfl, -⟩ := hS.m.opened
  obtain ⟨W0, hW0⟩ : ∃ W0, (w.alloc (.cells #[.slice xa S.als.length ca, .slice xl S.lks.length cl, .slice xr S.rls.length cr, .slice xm S.mbs.length cm, .int .i64 S.th, .int .i64 S.de, .int .i64 S.odd] 25)).alloc (.cells #[.int .i64 q0, .int .i64 q1, .int .i64 q2] 28) = W0 := ⟨_, rfl⟩
  have hz0 : W0.heap.size = w.heap.size + 2 := by rw [← hW0]; simp
  have hb0 : Below w.heap.size w W0 := by rw [← hW0]; exact ((Below.refl _ w).alloc (Nat.le_refl _) _).alloc (by simp) _
  have hi0 : W0.heap[w.heap.size]? = some (.cells #[.slice xa S.als.length ca, .slice xl S.lks.length cl, .slice xr S.rls.length cr, .slice xm S.mbs.length cm, .int .i64 S.th, .int .i64 S.de, .int .i64 S.odd] 25 (0, 0)) := by rw [← hW0]; exact (Below.heap_alloc _ _ _ (by simp)).trans (World.alloc_heap_new w _)
  have ht0 : W0.heap[w.heap.size + 1]? = some (.cells #[.int .i64 q0, .int .i64 q1, .int .i64 q2] 28 (0, 0)) := by
    have h := World.alloc_heap_new (w.alloc (.cells #[.slice xa S.als.length ca, .slice xl S.lks.length cl, .slice xr S.rls.length cr, .slice xm S.mbs.length cm, .int .i64 S.th, .int .i64 S.de, .int .i64 S.odd] 25)) (.cells #[.int .i64 q0, .int .i64 q1, .int .i64 q2] 28)
    rw [World.size_alloc] at h
    rw [← hW0]
    exact h
  have HAW := Lib.hid (awake18_any W0)
  have HPL := Lib.hid (fun w5 => plain18_any q0 q1 q2 w5)
  have HK := Lib.hid (tag18_small q0 q1 q2)
  have HQQ := Lib.hid (pick18_qqq q0)
  have hlt18 : tag18 q0 q1 q2 = plainM (pickT langs18 q0) (pickT scripts18 q1) (pickT regions18 q2) := rfl
  rw [hlt18] at HK
  generalize pickT langs18 q0 = l at *
  generalize pickT scripts18 q1 = s at *
  generalize pickT regions18 q2 = r at *
  have HS := Lib.hid hS
  have HB0 := Lib.hid hb0
  have HI0 := Lib.hid hi0
  have HT0 := Lib.hid ht0
  have HZ0 := Lib.hid hz0
  have HW0 := Lib.hid hW0
  clear hlt18 hS hb0 hi0 ht0 hz0 hW0
  go_enter Try.func5, Try.ntmps5
  go_upto_region 2 with (rw [HW0.out]; go_at_call 6; (with_reducible refine HAW.out.mono ?_); rintro e w1 ⟨rfl, hb1⟩; have HB1 := Lib.hid hb1; clear hb1)
  have HBW1 := Lib.hid (HB0.out.trans (HB1.out.mono HB0.out.size))
  have hs1 := (HB1.out.block _ (lt_blockT HI0.out)).trans HI0.out
  have HT1 := Lib.hid ((HB1.out.block _ (lt_blockT HT0.out)).trans HT0.out)
  have s0 := cell_rowT 0 hs1 rfl
  have s1 := cell_rowT 1 hs1 rfl
  have s2 := cell_rowT 2 hs1 rfl
  have s3 := cell_rowT 3 hs1 rfl
  have s4 := cell_rowT 4 hs1 rfl
  have s5 := cell_rowT 5 hs1 rfl
  have s6 := cell_rowT 6 hs1 rfl
  have HMD := Lib.hid (made13_any S _ _ _ _ w1 (HS.out.below HBW1.out))
  clear hs1
  go_upto_region 3 with (go_at_call 7; (with_reducible refine HMD.out.mono ?_); rintro e w2 ⟨im0, hbi, va, vl, vr, vm, rfl, ho4, hb2⟩; obtain ⟨a1, n1, c1, rfl⟩ := own_sliceT ho4.a; obtain ⟨a3, n3, c3, rfl⟩ := own_sliceT ho4.r; obtain ⟨a4, n4, c4, rfl⟩ := own_sliceT ho4.m; obtain ⟨lo, lc, L, rfl, hRL, hlo, hlL, hRS⟩ := own4_row ho4 (lks_lenT hbi _); have HRL := Lib.hid hRL; have HLO := Lib.hid hlo; have HLL := Lib.hid hlL; have HRS := Lib.hid hRS; have HB2 := Lib.hid hb2; generalize (spI im0 (restV S.odd 12)).th = th at *; generalize (spI im0 (restV S.odd 12)).de = de at *; clear ho4 hRL hlo hlL hRS hb2 hbi)
  clear s0 s1 s2 s3 s4 s5 s6
  obtain ⟨W2, hW2⟩ : ∃ W2, w2.alloc (.cells #[.slice a1 n1 c1, .slice lo L.length lc, .slice a3 n3 c3, .slice a4 n4 c4, .int .i64 th, .int .i64 de] 35) = W2 := ⟨_, rfl⟩
  rw [hW2]
  have hb3 : Below w2.heap.size w2 W2 := by rw [← hW2]; exact (Below.refl _ _).alloc (Nat.le_refl _) _
  have HI2 := Lib.hid (show W2.heap[w2.heap.size]? = some (.cells #[.slice a1 n1 c1, .slice lo L.length lc, .slice a3 n3 c3, .slice a4 n4 c4, .int .i64 th, .int .i64 de] 35 (0, 0)) by rw [← hW2]; exact World.alloc_heap_new w2 _)
  have hb12 := HB2.out.trans (hb3.mono HB2.out.size)
  have HT2 := Lib.hid ((hb12.block _ (lt_blockT HT1.out)).trans HT1.out)
  have HBW := Lib.hid (HBW1.out.trans (hb12.mono HBW1.out.size))
  have HRL2 := Lib.hid (HRL.out.below hb3)
  clear hW2 hb3 hb12
  have HSS := Lib.hid (fun w' (h : Below W2.heap.size W2 w') => show Below W2.heap.size W2 w' ∧ w'.cell? ⟨w2.heap.size, 0, none⟩ = some (.slice a1 n1 c1) ∧ w'.cell? ⟨w2.heap.size, 1, none⟩ = some (.slice lo L.length lc) ∧ w'.cell? ⟨w2.heap.size, 2, none⟩ = some (.slice a3 n3 c3) ∧ w'.cell? ⟨w2.heap.size, 3, none⟩ = some (.slice a4 n4 c4) ∧ w'.cell? ⟨w2.heap.size, 4, none⟩ = some (.int .i64 th) ∧ w'.cell? ⟨w2.heap.size, 5, none⟩ = some (.int .i64 de) ∧ w'.cell? ⟨w.heap.size + 1, 0, none⟩ = some (.int .i64 q0) ∧ w'.cell? ⟨w.heap.size + 1, 1, none⟩ = some (.int .i64 q1) ∧ w'.cell? ⟨w.heap.size + 1, 2, none⟩ = some (.int .i64 q2) from by
    have h1 := (h.block _ (lt_blockT HI2.out)).trans HI2.out
    have h2 := (h.block _ (lt_blockT HT2.out)).trans HT2.out
    exact ⟨h, cell_rowT 0 h1 rfl, cell_rowT 1 h1 rfl, cell_rowT 2 h1 rfl, cell_rowT 3 h1 rfl, cell_rowT 4 h1 rfl, cell_rowT 5 h1 rfl, cell_rowT 0 h2 rfl, cell_rowT 1 h2 rfl, cell_rowT 2 h2 rfl⟩)
  have HP := Lib.hid (fun w5 (h : Below W2.heap.size W2 w5) => (HPL.out w5).mono (R' := fun e w' => e = .returned (.agg #[.string l, .slice none 0 0, .string s, .string r, .slice none 0 0, .slice none 0 0, .slice none 0 0, .string ⟨#[]⟩]) ∧ Below W2.heap.size W2 w' ∧ Below w5.heap.size w5 w') fun e w' ⟨p, q⟩ => ⟨p, h.trans (q.mono h.size), q⟩)
  have HMA := Lib.hid (fun w5 (h : Below W2.heap.size W2 w5) => (more_any a1 lo a3 a4 n1 c1 lc n3 c3 n4 c4 th de L l s r n w5 (HRL2.out.below h) HLO.out HLL.out HRS.out HK.out HQQ.out).mono (R' := fun e w' => e = .returned (.bool true) ∧ Below W2.heap.size W2 w') fun e w' ⟨p, q⟩ => ⟨p, h.trans (q.mono h.size)⟩)
  have HIM := Lib.hid (fun w5 (h : Below W2.heap.size W2 w5) => (image_15 w5).mono (R' := fun e w' => ∃ g1 g2 g3 g4, e = .returned (.agg #[.slice (some ⟨g1, 0, none⟩) 54 54, .slice (some ⟨g2, 0, none⟩) 32 32, .slice (some ⟨g3, 0, none⟩) 15 15, .slice (some ⟨g4, 0, none⟩) 7 7, .int .i64 40, .int .i64 5]) ∧ RowL w' (.slice (some ⟨g2, 0, none⟩) 32 32) L15 ∧ Below W2.heap.size W2 w') fun e w' ⟨g1, g2, g3, g4, p, q, r⟩ => ⟨g1, g2, g3, g4, p, rowL_15 q, h.trans (r.mono h.size)⟩)
  have HMB := Lib.hid (fun (g1 g2 g3 g4 : Nat) (u w5 : World) (hr : RowL u (.slice (some ⟨g2, 0, none⟩) 32 32) L15) (hu : Below u.heap.size u w5) (h : Below W2.heap.size W2 w5) => (more_any (some ⟨g1, 0, none⟩) (some ⟨g2, 0, none⟩) (some ⟨g3, 0, none⟩) (some ⟨g4, 0, none⟩) 54 54 32 15 15 7 7 40 5 L15 l s r n w5 (by rw [L15_len]; exact hr.below hu) (fun e => by cases e) (by rw [L15_len]; decide) L15_small HK.out HQQ.out).mono (R' := fun e w' => e = .returned (.bool true) ∧ Below W2.heap.size W2 w') fun e w' ⟨p, q⟩ => ⟨p, h.trans (q.mono h.size)⟩)
  rw [L15_len] at HMB
  have hdr : Below W2.heap.size W2 W2.drew := Below.drew (Below.refl _ _)
  clear HAW HPL HMD HS HI0 HT0 HB0 HB1 HBW1 HT1 HB2
  go_region_held3 (fun w' => Below W2.heap.size W2 w' ∧ w'.cell? ⟨w2.heap.size, 0, none⟩ = some (.slice a1 n1 c1) ∧ w'.cell? ⟨w2.heap.size, 1, none⟩ = some (.slice lo L.length lc) ∧ w'.cell? ⟨w2.heap.size, 2, none⟩ = some (.slice a3 n3 c3) ∧ w'.cell? ⟨w2.heap.size, 3, none⟩ = some (.slice a4 n4 c4) ∧ w'.cell? ⟨w2.heap.size, 4, none⟩ = some (.int .i64 th) ∧ w'.cell? ⟨w2.heap.size, 5, none⟩ = some (.int .i64 de) ∧ w'.cell? ⟨w.heap.size + 1, 0, none⟩ = some (.int .i64 q0) ∧ w'.cell? ⟨w.heap.size + 1, 1, none⟩ = some (.int .i64 q1) ∧ w'.cell? ⟨w.heap.size + 1, 2, none⟩ = some (.int .i64 q2))
    (exact HSS.out _ (by assumption))
    (first
      | (go_at_call 11; (with_reducible refine (HP.out _ (by assumption)).mono ?_); rintro e u1 ⟨rfl, hu1, hu2⟩)
      | (go_at_call 10; (with_reducible refine (HIM.out _ (by assumption)).mono ?_); rintro e u3 ⟨g1, g2, g3, g4, rfl, hI, hu3⟩)
      | (go_at_call 13; (with_reducible refine (HMA.out _ (by assumption)).mono ?_); rintro e u4 ⟨rfl, hu4⟩)
      | (go_at_call 13; (with_reducible refine (HMB.out _ _ _ _ _ _ hI hu2 (by assumption)).mono ?_); rintro e u4 ⟨rfl, hu4⟩))
  all_goals go_wp2_with fail
  all_goals go_ret
  all_goals exact ⟨rfl, HBW.out.trans (Below.mono (by assumption) HBW.out.size)⟩
end Go.Proofs.Ythjfcfhibdpbnaa

namespace Go.Proofs.Ythjfcfhibdpbnaa
open Go.ChangeShapes Go.WideShapes Go.RowKit

theorem cellsA3 : Try.prog.cellsOf 28 = 3 := by kernel_rfl
theorem cellsPA : Try.prog.cellsOf 3 = 1 := by kernel_rfl
set_option maxRecDepth 100000 in
theorem open_arr3 {H : Type} {enc : TypeId × Value → H} {w : World} {r : Reach} {b0 base : Nat} {sp : Nat → Bool} {held : Bool} {v : Value} {d : DataW H} {ps : List MemPlace}
    (hval : Value.okWide Try.prog w r b0 28 v) (hd : DataW.Trod enc Try.prog w base sp held 28 v d ps) :
    ∃ a b c : Int, v = .agg #[.int .i64 a, .int .i64 b, .int .i64 c] ∧ d = .agg [.lit (.int .i64 a), .lit (.int .i64 b), .lit (.int .i64 c)] ∧ ps = [] ∧ (Lit.int .i64 a).wf = true ∧ (Lit.int .i64 b).wf = true ∧ (Lit.int .i64 c).wf = true := by
  have ht := Try.underlying28
  obtain ⟨cs, rfl, hsz⟩ : ∃ cs, v = .agg cs ∧ cs.size = Try.prog.cellsOf 28 := by
    unfold Value.okWide at hval
    rw [ht] at hval
    obtain ⟨cs, h1, h2, _⟩ := hval
    exact ⟨cs, h1, h2⟩
  rw [cellsA3] at hsz
  obtain ⟨c0, c1, c2, rfl⟩ : ∃ c0 c1 c2, cs = #[c0, c1, c2] := by
    obtain ⟨l⟩ := cs
    match l, hsz with
    | [c0, c1, c2], _ => exact ⟨c0, c1, c2, rfl⟩
  obtain ⟨fuel, hf⟩ := hd
  have hf' : DataW.trod enc Try.prog w base sp held fuel 28 [c0, c1, c2] = some (d, ps) := hf
  obtain ⟨y0, y1, y2, n, hx, h0, h1, h2⟩ := trod_array3 ht cellsPA hf'
  obtain ⟨a, e0, rfl, w0⟩ := DataW.trod_int Try.underlying3 h0
  obtain ⟨b, e1, rfl, w1⟩ := DataW.trod_int Try.underlying3 h1
  obtain ⟨c, e2, rfl, w2⟩ := DataW.trod_int Try.underlying3 h2
  simp only [List.cons.injEq, and_true] at e0 e1 e2
  subst e0 e1 e2
  simp only [Prod.mk.injEq] at hx
  exact ⟨a, b, c, rfl, hx.1, hx.2, w0, w1, w2⟩
set_option maxRecDepth 100000 in
theorem shut_arr3 {H : Type} {enc : TypeId × Value → H} {w : World} {base : Nat} {sp : Nat → Bool} {held : Bool} {a b c : Int} (h0 : (Lit.int .i64 a).wf = true) (h1 : (Lit.int .i64 b).wf = true) (h2 : (Lit.int .i64 c).wf = true) :
    DataW.Trod enc Try.prog w base sp held 28 (.agg #[.int .i64 a, .int .i64 b, .int .i64 c]) (.agg [.lit (.int .i64 a), .lit (.int .i64 b), .lit (.int .i64 c)]) [] := by
  have ht := Try.underlying28
  have he := Try.underlying3
  refine ⟨2, ?_⟩
  show DataW.trod enc Try.prog w base sp held 2 28 [.int .i64 a, .int .i64 b, .int .i64 c] = _
  have r3 : List.range 3 = [0, 1, 2] := rfl
  have key : ∀ z, (Lit.int .i64 z).wf = true → DataW.trod enc Try.prog w base sp held 1 3 [.int .i64 z] = some (.lit (.int .i64 z), []) := fun z hz => trod_int_mk 0 he hz
  unfold DataW.trod
  rw [ht]
  simp [r3, cellsPA, cellsA3, key a h0, key b h1, key c h2]

end Go.Proofs.Ythjfcfhibdpbnaa

namespace Go.Proofs.Ythjfcfhibdpbnaa
open Go.ChangeShapes Go.WideShapes Go.ChangeAt Go.ChangeMaps Go.RowKit

theorem likelyMore_own : ownKnob Try.prog.godebug = none := by kernel_rfl

set_option maxRecDepth 100000 in
theorem likelyMore_lifted (os : Os) (started : os.Started) (H : Type) (enc : TypeId × Value → H) :
    ReturnsInHanded {} Try.checked os 5 .any (Rows.likelyMoreSpec.pre6 enc Try.prog Try.f5 Rows.likelyMoreRow.domain false) (Rows.likelyMoreSpec.post enc Try.prog Try.f5 false true false false) := by
  refine returnsInHanded_of_change (C := Try.checked) likelyMore_own started (by kernel_rfl) Try.func5
    (ChangeSpec.witness6 (enc := enc) (C := Try.checked) false ⟨#[], #[.agg #[.slice none 0 0, .slice none 0 0, .slice none 0 0, .slice none 0 0, .int .i64 0, .int .i64 0, .int .i64 0], .agg #[.int .i64 0, .int .i64 0, .int .i64 0], .int .i64 0], []⟩ 8 (by kernel_rfl) (by kernel_rfl) (by kernel_rfl) (by kernel_rfl)) ?_
  intro W base args ds gs before hval0 hW _ _
  have hval : ∀ (j : Nat) t v, Try.f5.params[j]? = some t → args[j]? = some v → Value.okWide Try.prog W .any base t v := hval0
  have hW' := hW
  obtain ⟨p, q, hA0, hV, rfl, hfz, hnd⟩ := hW
  have hA : DataW.TrodAll enc Try.prog W 0 (fun _ => true) true Try.f5.params.toList args.toList ds p := hA0
  rw [Try.params5] at hA hval
  obtain ⟨v0, vs0, d0, ds0, p0, q0, hargs, rfl, rfl, h0, r0⟩ := trodAll_cons hA
  obtain ⟨v1, vs1, d1, ds1, p1, q1, rfl, rfl, rfl, h1, r1⟩ := trodAll_cons r0
  obtain ⟨v2, vs2, d2, ds2, p2, q2, rfl, rfl, rfl, h2, r2⟩ := trodAll_cons r1
  obtain ⟨rfl, rfl, rfl⟩ := trodAll_nil r2
  obtain rfl : args = #[v0, v1, v2] := by cases args; simp_all
  obtain ⟨rfl, rfl⟩ := trodVars_none hV
  have k0 := h0
  have lt0 : ∀ x ∈ p0, x.block < W.heap.size := by obtain ⟨m, hm⟩ := k0; exact DataW.trod_lt m _ _ _ hm
  obtain ⟨S0, va0, vl0, vr0, vm0, rfl, w0⟩ := open_seed13 (hval 0 25 v0 rfl rfl) h0
  obtain ⟨a1, b1, c1, rfl, rfl, rfl, w1, x1, y1⟩ := open_arr3 (hval 1 28 v1 rfl rfl) h1
  obtain ⟨a2, rfl, rfl, rfl, w2⟩ := open_int Try.underlying3 (hval 2 3 v2 rfl rfl) h2
  clear hA0 hval0
  refine (likelyMore_law S0 va0 vl0 vr0 vm0 a1 b1 c1 a2 W w0).mono fun e W' ⟨he, bel⟩ => ?_
  subst he
  exact ⟨_, rfl, _, _, _, [], _, [], hW', trodAll_mk1 (shut_bool Try.underlying4 _), (trodAll_cons_mk (Below.trod laidOut6 (by kernel_rfl) (of_decide_eq_true (by kernel_rfl)) k0 bel lt0) (trodAll_cons_mk (shut_arr3 w1 x1 y1) (trodAll_cons_mk (shut_int Try.underlying3 w2) trodAll_mk0))), rfl, bel.frame _, fun h => by cases h⟩

/-- The statement. -/
theorem likelyMore_holds : Rows.LikelyMoreSaid :=
  OpenClaim.holds_of_wide 5 Try.f5 rfl rfl rfl rfl rfl rfl rfl ⟨rfl, rfl, rfl, rfl, rfl⟩ rfl rfl rfl rfl rfl (by kernel_rfl) Try.func5 (by kernel_rfl)
    (of_decide_eq_true (by kernel_rfl)) (by unfold Func.isWrapper; rw [if_neg (of_decide_eq_false (by kernel_rfl))]; exact ⟨rfl, rfl⟩)
    (fun os started H enc _ => likelyMore_lifted os started H enc)
end Go.Proofs.Ythjfcfhibdpbnaa
