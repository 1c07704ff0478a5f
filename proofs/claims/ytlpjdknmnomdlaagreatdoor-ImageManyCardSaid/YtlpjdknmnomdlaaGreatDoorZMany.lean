/-
  ImageMany: what its law needs, and its walk.
-/
import Derived.Test.YtlpjdknmnomdlaaGreatDoorZEnc
import Derived.Test.YtlpjdknmnomdlaaGreatDoorEKit
namespace Go.Proofs.YtlpjdknmnomdlaaGreatDoor
open Go Go.RowKit

/-! Images with rules alone. -/
theorem sortW_nil : sortW [] = [] := List.eq_nil_of_length_eq_zero (by rw [sortW_len]; rfl)
def imR (l : List Rl) (th de : Int) : Im := ⟨[], [], l, [], th, de⟩
theorem imR_dup (l : List Rl) (th de : Int) (k : Nat) : dupN (imR l th de) k = false := by
  rcases k with _ | _ | _ | k
  · show (badW 17 (sortW [])).isSome = false; rw [sortW_nil]; rfl
  · show (badW 24 (sortW [])).isSome = false; rw [sortW_nil]; rfl
  · rfl
  · show (badW 16 (sortW [])).isSome = false; rw [sortW_nil]; rfl
theorem imR_bad {l : List Rl} (th de : Int) (h : ∀ x ∈ l, rightRl x = true) (k : Nat) : badN (imR l th de) k = none := by
  rcases k with _ | _ | _ | k
  · rfl
  · rfl
  · show badL rightRl l = none
    unfold badL
    rw [List.findIdx?_eq_none_iff]
    intro x hx
    rw [h x hx]; rfl
  · rfl
theorem imR_enc {l : List Rl} {th de : Int} (h : ∀ x ∈ l, rightRl x = true) (hl : l.length ≤ 4000) (ht : 0 ≤ th ∧ th ≤ 255) (hd : 0 ≤ de ∧ de ≤ 255) : encE (imR l th de) = none := by
  have h1 : manyB (imR l th de) = false := manyB_none (fun k hk => by
    rcases four k hk with rfl | rfl | rfl | rfl
    · exact Nat.zero_le _
    · exact Nat.zero_le _
    · exact hl
    · exact Nat.zero_le _)
  have h2 : argB (imR l th de) = false := by
    unfold argB
    rw [decide_eq_false_iff_not]
    show ¬ (th < 0 ∨ de < 0 ∨ 255 < th ∨ 255 < de)
    omega
  rw [encE_rest h1 h2, wrongZ_none (fun j _ => imR_bad th de h j), dupZ_none (fun j _ => imR_dup l th de j)]
  rfl
theorem imR_size (l : List Rl) (th de : Int) : (outN (imR l th de) 4).size = 14 + 51 * l.length := by
  rw [outN_size]
  show 14 + 0 * 41 + 0 * 48 + l.length * 51 + 0 * 16 = _
  omega
theorem imR_many {l : List Rl} (th de : Int) (hl : 4000 < l.length) : encE (imR l th de) = some (16, 0, IMAGE) := encE_many (manyB_true (k := 2) (by decide) hl)

/-! The chapter's example. -/
def AWAKE : ByteArray := ⟨#[105, 115, 111, 103, 0, 0, 0, 0, 0, 0, 0, 0, 40, 5]⟩
theorem awake_bytes : encB (imR [] 40 5) = AWAKE := by
  rw [encB_none (imR_enc (fun x hx => by simp at hx) (by decide) (by decide) (by decide))]
  show headB (imR [] 40 5) ++ catW (sortW []) ++ catW (sortW []) ++ catW [] ++ catW (sortW []) = AWAKE
  rw [sortW_nil]
  decide +kernel
theorem imS_nil (th de : Int) : ImS (imR [] th de) := ⟨fun x hx => by simp [imR] at hx, fun x hx => by simp [imR] at hx, fun x hx => by simp [imR] at hx, fun x hx => by simp [imR] at hx⟩
set_option maxRecDepth 100000 in
set_option maxHeartbeats 2000000 in
theorem awake13_any (w : World) (hg : GL w) :
    Calls Tryz.prog 10 #[] w fun e w' => e = .returned (.bool true) ∧ Below w.heap.size w w' := by
  have HE := Lib.hid (show Calls Tryz.prog 23 #[.agg #[.slice none 0 0, .slice none 0 0, .slice none 0 0, .slice none 0 0, .int .i64 40, .int .i64 5]] w fun e w'' => e = .returned (.tuple #[.string AWAKE, .nilIface]) ∧ Below w.heap.size w w'' from
    (encode_im none none none none 0 0 0 0 (imR [] 40 5) w ⟨RowC.nil _ _ _, RowC.nil _ _ _, RowC.nil _ _ _, RowC.nil _ _ _⟩ (imS_nil 40 5) hg).mono fun e w' ⟨v, h1, h2, h3⟩ => by
      rw [imR_enc (fun x hx => by simp at hx) (by decide) (by decide) (by decide)] at h2
      rw [awake_bytes] at h1
      obtain rfl : v = .nilIface := h2
      exact ⟨h1, h3⟩)
  have h14 : (AWAKE.toList == ({ data := #[105, 115, 111, 103, 0, 0, 0, 0, 0, 0, 0, 0, 40, 5] } : ByteArray).toList) = true := beq_self_eq_true _
  have h15 : (AWAKE.toList == [105, 115, 111, 103, 0, 0, 0, 0, 0, 0, 0, 0, 40, 5]) = true := by
    rw [show (({ data := #[105, 115, 111, 103, 0, 0, 0, 0, 0, 0, 0, 0, 40, 5] } : ByteArray).toList) = [105, 115, 111, 103, 0, 0, 0, 0, 0, 0, 0, 0, 40, 5] from by rw [ByteArray.toList_eq]] at h14
    exact h14
  generalize AWAKE = aw at *
  clear hg
  go_enter Tryz.func10, Tryz.ntmps10
  go_wp2_with (go_at_call 23; (with_reducible refine HE.out.mono ?_); rintro e w5 ⟨rfl, hb5⟩)
  go_ret
  exact ⟨rfl, by assumption⟩
set_option maxRecDepth 100000 in
theorem rest13_any (x : Int) (n : Nat) (w : World) (hn : 1 ≤ n) (hn2 : n ≤ 100) :
    Calls Tryz.prog 12 #[.int .i64 x, .int .i64 (n : Int)] w fun e w' => e = .returned (.int .i64 (restV x n : Int)) ∧ w = w' := by
  have HE := Lib.hid (rest_num x n hn hn2)
  have h0 : ((n : Int) == 0) = false := by rw [beq_eq_false_iff_ne]; omega
  have h1 : (n : Int) ≠ 0 := by omega
  clear hn hn2
  generalize (n : Int) = m at *
  go_enter Tryz.func12, Tryz.ntmps12
  go_wp2
  go_ret
  exact ⟨ret_int HE.out, rfl⟩
theorem rest13_8 (x : Int) (w : World) : Calls Tryz.prog 12 #[.int .i64 x, .int .i64 8] w fun e w' => e = .returned (.int .i64 (restV x 8 : Int)) ∧ w = w' := rest13_any x 8 w (by decide) (by decide)

/-! Rows of the call's own. -/
theorem flat_getZ {sz : Nat} : ∀ {L : List (List Value)} {i k : Nat} {c : List Value} {x : Value}, (∀ c ∈ L, c.length = sz) → L[i]? = some c → c[k]? = some x → (L.flatMap id)[i * sz + k]? = some x
  | [], i, k, c, x, _, h, _ => by simp at h
  | a :: t, 0, k, c, x, hs, h, hk => by
    simp at h; subst h
    rw [Nat.zero_mul, Nat.zero_add, List.flatMap_cons, List.getElem?_append_left (show k < (id a).length from (List.getElem?_eq_some_iff.1 hk).1)]
    exact hk
  | a :: t, i + 1, k, c, x, hs, h, hk => by
    have ha := hs a List.mem_cons_self
    rw [List.flatMap_cons, List.getElem?_append_right (by show a.length ≤ _; rw [ha, Nat.succ_mul]; omega)]
    have e : (i + 1) * sz + k - (id a).length = i * sz + k := by show (i + 1) * sz + k - a.length = _; rw [ha, Nat.succ_mul]; omega
    rw [e]
    exact flat_getZ (fun c hc => hs c (List.mem_cons_of_mem _ hc)) (by simpa using h) hk
theorem rowC_own {W : World} {base sz : Nat} {e : TypeId} {v : Value} {L : List (List Value)} (h : W.ownsRow base e sz v L.length (L.flatMap id)) (hs : ∀ c ∈ L, c.length = sz) : RowC W v sz L := by
  rcases owned_casesW h with ⟨rfl, h0⟩ | ⟨g, cap, rfl⟩
  · obtain rfl : L = [] := List.eq_nil_of_length_eq_zero h0
    exact RowC.nil _ _ _
  · refine ⟨_, _, rfl, fun i c hc => ⟨g, 0, rfl, fun k x hk => ?_⟩⟩
    have := h.cells rfl _ _ (flat_getZ hs hc hk)
    rw [Addr.add_lit, Nat.zero_add] at this
    rw [Nat.zero_add]
    exact this
theorem cell_newsZ (W : World) (vs : List Value) (t : TypeId) : ∀ j u, vs[j]? = some u → (W.alloc (.cells vs.toArray t)).cell? ((⟨W.heap.size, 0, none⟩ : Addr).add j) = some u := by
  intro j u h
  rw [Addr.add_lit, Nat.zero_add]
  have hn : (W.alloc (.cells vs.toArray t)).heap[W.heap.size]? = some (.cells vs.toArray t (0, 0)) := World.alloc_heap_new W _
  exact cellAtY hn j u (by simp [h])

/-! The law. -/
theorem wf_fewZ {k : Int} (h : 0 ≤ k ∧ k ≤ 1000) : (Lit.int .i64 k).wf = true := by
  unfold Lit.wf
  rw [Bool.and_eq_true, decide_eq_true_iff, decide_eq_true_iff]
  have h1 : IntKind.min .i64 = -9223372036854775808 := by decide
  have h2 : IntKind.max .i64 = 9223372036854775807 := by decide
  omega
def ruleM (i : Nat) : Rl := ⟨1, (i : Int) % 100, false, STAR, ⟨#[]⟩, ⟨#[]⟩, ⟨#[101, 110]⟩, ⟨#[]⟩, ⟨#[]⟩⟩
theorem ruleM_right (i : Nat) : rightRl (ruleM i) = true := by
  have h : ∀ k : Fin 100, rightRl ⟨1, ((k.val : Nat) : Int), false, STAR, ⟨#[]⟩, ⟨#[]⟩, ⟨#[101, 110]⟩, ⟨#[]⟩, ⟨#[]⟩⟩ = true := by decide +kernel
  have e : (i : Int) % 100 = ((i % 100 : Nat) : Int) := by omega
  unfold ruleM
  rw [e]
  exact h ⟨i % 100, Nat.mod_lt _ (by decide)⟩
def rulesM (n : Nat) : List Rl := (List.range n).map ruleM
theorem rulesM_len (n : Nat) : (rulesM n).length = n := by simp [rulesM]
theorem rulesM_succ (n : Nat) : rulesM (n + 1) = rulesM n ++ [ruleM n] := by simp [rulesM, List.range_succ]
theorem ruleM_small (i : Nat) : RlS (ruleM i) := by
  refine ⟨by show (Lit.int .i64 1).wf = true; decide, ?_, ?_⟩
  · exact wf_fewZ ⟨by show (0 : Int) ≤ (i : Int) % 100; omega, by show (i : Int) % 100 ≤ 1000; omega⟩
  · intro t ht
    simp only [rlT, ruleM, List.mem_cons, List.not_mem_nil, or_false] at ht
    rcases ht with rfl | rfl | rfl | rfl | rfl | rfl <;> decide
def cellsM (n : Nat) : List Value := ((rulesM n).map rlC).flatMap id
theorem cellsM_succ (n : Nat) : cellsM (n + 1) = cellsM n ++ rlC (ruleM n) := by
  unfold cellsM
  rw [rulesM_succ, List.map_append, List.flatMap_append]
  simp
theorem rlC_all (l : List Rl) : ∀ c ∈ l.map rlC, c.length = 9 := by
  intro c hc
  obtain ⟨x, -, rfl⟩ := List.mem_map.1 hc
  rfl
theorem rlC_one (x : Rl) : ∀ u ∈ rlC x, u.oneCell' = true := by
  intro u hu
  simp only [rlC, List.mem_cons, List.not_mem_nil, or_false] at hu
  rcases hu with rfl | rfl | rfl | rfl | rfl | rfl | rfl | rfl | rfl <;> rfl
theorem rlInfo : (Tryz.prog.info? 26).map (fun i => (i.zero, i.size, i.bytes)) = some (some (.agg #[.int .i64 0, .int .i64 0, .bool false, .string ByteArray.empty, .string ByteArray.empty, .string ByteArray.empty, .string ByteArray.empty, .string ByteArray.empty, .string ByteArray.empty]), 9, 120) := by kernel_rfl
/-- What the loop has made. -/
structure MaI (w wr : World) (B : Nat) (v : Value) (k : Nat) : Prop where
  blk : wr.heap[B]? = some (.cells #[.slice none 0 0, .slice none 0 0, v, .slice none 0 0, .int .i64 0, .int .i64 0] 44 (0, 0))
  own : wr.ownsRow (B + 1) 26 9 v k (cellsM k)
  bel : Below w.heap.size w wr
  low : w.heap.size ≤ B
theorem MaI.grown {w wr w2 : World} {B : Nat} {v : Value} {k : Nat} {o : Obj} (h : MaI w wr B v k) (hg : (wr.alloc o).grownBy w2 v.ownBlock) :
    w2.heap[B]? = some (.cells #[.slice none 0 0, .slice none 0 0, v, .slice none 0 0, .int .i64 0, .int .i64 0] 44 (0, 0)) ∧ Below w.heap.size w w2 := by
  have hl := lt_of_block h.blk
  have hlow := h.low
  refine ⟨(hg.block _ (by simp; omega) (fun e => by have := (h.own.lt B e.symm).1; omega)).trans ((Below.heap_alloc _ _ _ hl).trans h.blk), ?_⟩
  exact (h.bel.alloc h.bel.size o).grown hg (by simp; omega) (fun r e => by have := (h.own.lt r e).1; omega)
theorem MaI.push {w wr w2 : World} {B : Nat} {v v' : Value} {k : Nat} {o : Obj} (h : MaI w wr B v k) (hg : (wr.alloc o).grownBy w2 v.ownBlock) (h1 : w2.ownsRow (B + 1) 26 9 v' (k + 1) (cellsM k ++ rlC (ruleM k))) : MaI w (w2.setCell ⟨B, 2, none⟩ v') B v' (k + 1) := by
  obtain ⟨g1, g2⟩ := h.grown hg
  refine ⟨setY g1 v', ?_, g2.setCell (p := ⟨B, 2, none⟩) h.low v', h.low⟩
  rw [cellsM_succ]
  exact ownsRow_setCell_other h1 (fun e => by have := (h1.lt _ e).1; simp at this; omega) v'
theorem chainZ {W : World} {b : Nat} {k p : Int} {s : ByteArray} (h : W.heap[b]? = some (faultObj p s (.iface 50 (.int .i64 k)))) : Chain W (b + 1) (.iface 114 (.pointer (some ⟨b, 0, none⟩))) [.fault b p s, .num k] := ⟨rfl, Nat.lt_succ_self _, _, h, rfl, rfl⟩

set_option maxRecDepth 1000000 in
set_option maxHeartbeats 8000000 in
theorem imageMany_law (a0 : Int) (w : World) (_h0 : (Lit.int .i64 a0).wf = true) (hL : TypeLaid w ∧ GL w) :
    Calls Tryz.prog 8 #[.int .i64 a0] w fun e w' => e = .returned (.bool true) ∧ Below w.heap.size w w' := by
  obtain ⟨hT, hg⟩ := hL
  obtain ⟨i0, hi, hz0, hz1, hz2⟩ := info_parts rlInfo
  have AW := Lib.hid (awake13_any w hg)
  have RS := Lib.hid (fun w' => rest13_8 a0 w')
  have hr8 := restV_lt a0 8 (by decide)
  generalize restV a0 8 = r at *
  obtain ⟨n, hn⟩ : ∃ n : Nat, 3997 + r = n := ⟨_, rfl⟩
  have hw1 : IntKind.i64.wrap (3997 + (r : Int)) = (n : Int) := by rw [IntWalk.i64_in _ ⟨by omega, by omega⟩]; omega
  have hn1 : n ≤ 4004 := by omega
  have hn0 : 3997 ≤ n := by omega
  have hw2 : IntKind.i64.wrap (51 * (n : Int)) = 51 * (n : Int) := IntWalk.i64_in _ ⟨by omega, by omega⟩
  have hw3 : IntKind.i64.wrap (14 + 51 * (n : Int)) = 14 + 51 * (n : Int) := IntWalk.i64_in _ ⟨by omega, by omega⟩
  have HL := Lib.hid (⟨hT, hg⟩ : TypeLaid w ∧ GL w)
  clear hT hg hr8 hn _h0
  go_enter Tryz.func8, Tryz.ntmps8
  go_upto_region 4 with (first
    | (go_at_call 10; (with_reducible refine AW.out.mono ?_); rintro e w2 ⟨rfl, hb2⟩)
    | (go_at_call 12; (with_reducible refine (RS.out _).mono ?_); rintro e w3 ⟨rfl, rfl⟩))
  have HS : MaI w (w2.alloc (.cells #[.slice none 0 0, .slice none 0 0, .slice none 0 0, .slice none 0 0, .int .i64 0, .int .i64 0] 44)) w2.heap.size (.slice none 0 0) 0 :=
    ⟨World.alloc_heap_new _ _, World.ownsRow_nil _ _ _ _, hb2.alloc hb2.size _, hb2.size⟩
  generalize w2.alloc (.cells #[.slice none 0 0, .slice none 0 0, .slice none 0 0, .slice none 0 0, .int .i64 0, .int .i64 0] 44) = W3 at *
  generalize w2.heap.size = B at *
  clear hb2 AW RS
  go_wp2_with fail
  go_loopw [6] (fun i wr => ∃ (k : Nat) (v : Value), k ≤ n ∧ i = .int .i64 (k : Int) ∧ MaI w wr B v k) (fun i _ => n - (intOf i).toNat)
  case atStart => exact ⟨0, _, Nat.zero_le _, rfl, HS⟩
  case round =>
    obtain ⟨k, v, hk, rfl, hM⟩ := hrel
    clear HS
    obtain ⟨v1, v2, v3, rfl⟩ := own_sliceZ hM.own
    by_cases hlt : k < n
    · have hlt' : (k : Int) < (n : Int) := by omega
      have hk0 : (0 : Int) ≤ (k : Int) := by omega
      obtain ⟨c0, c1, c2, c3, c4, c5⟩ := cells6 hM.blk
      have hlow := hM.low
      have hsz := lt_of_block hM.blk
      have HM := Lib.hid hM
      clear hM
      go_wp2_with (at_builtin; refine wpList_append_own _ rfl _ _ 41 rfl (B + 1) 26 i0 (.agg #[.int .i64 0, .int .i64 0, .bool false, .string ByteArray.empty, .string ByteArray.empty, .string ByteArray.empty, .string ByteArray.empty, .string ByteArray.empty, .string ByteArray.empty]) 9 120 Tryz.underlying41 hi hz0 hz1 hz2 rfl (by decide) _ k _ rfl (HM.out.own.alloc _) ⟨_, 0, none⟩ 1 1 [.int .i64 1, .int .i64 ((k : Int) % 100), .bool false, .string (⟨#[42]⟩ : ByteArray), .string (⟨#[]⟩ : ByteArray), .string (⟨#[]⟩ : ByteArray), .string (⟨#[101, 110]⟩ : ByteArray), .string (⟨#[]⟩ : ByteArray), .string (⟨#[]⟩ : ByteArray)] rfl rfl (cell_newsZ _ [.int .i64 1, .int .i64 ((k : Int) % 100), .bool false, .string (⟨#[42]⟩ : ByteArray), .string (⟨#[]⟩ : ByteArray), .string (⟨#[]⟩ : ByteArray), .string (⟨#[101, 110]⟩ : ByteArray), .string (⟨#[]⟩ : ByteArray), .string (⟨#[]⟩ : ByteArray)] _) (rlC_one (ruleM k)) (by unfold maxLen; omega) (by omega) (by simp; omega) ?_; intro v' w7 hown7 hgrow7 _; have HP7 := Lib.hid (HM.out.push hgrow7 hown7); obtain ⟨h70, -⟩ := HM.out.grown hgrow7; obtain ⟨q0, q1, q2, q3, q4, q5⟩ := cells6 h70; have f2 := frozenY h70 2; obtain ⟨va, vn, vc, rfl⟩ := own_sliceZ hown7)
      go_roundw
      case rel => exact ⟨k + 1, _, by omega, by go_num, HP7.out⟩
      case measure => simp [intOf]; omega
    · obtain rfl : k = n := by omega
      clear hlt hk
      have HR := Lib.hid (show RowC wr (.slice v1 v2 v3) 9 ((rulesM k).map rlC) from rowC_own (by rw [List.length_map, rulesM_len]; exact hM.own) (rlC_all _))
      obtain ⟨b1, cp, hsl⟩ := HR.out.slice
      rw [List.length_map, rulesM_len] at hsl
      injection hsl with h1 h2 h3
      subst h2
      have HE := Lib.hid (encode_im none none v1 none 0 0 v3 0 (imR (rulesM v2) 0 0) wr ⟨RowC.nil _ _ _, RowC.nil _ _ _, by rw [show cntN (imR (rulesM v2) 0 0) 2 = v2 from rulesM_len v2]; exact HR.out, RowC.nil _ _ _⟩ ⟨fun x hx => by simp [imR] at hx, fun x hx => by simp [imR] at hx, fun x hx => by obtain ⟨i, -, rfl⟩ := List.mem_map.1 hx; exact ruleM_small i, fun x hx => by simp [imR] at hx⟩ (HL.out.2.below hM.bel HL.out.2.size))
      have HBL := Lib.hid hM.bel
      have HTL := Lib.hid (HL.out.1.below hM.bel HL.out.1.size)
      obtain ⟨c0, c1, c2, c3, c4, c5⟩ := cells6 hM.blk
      have hall : ∀ x ∈ rulesM v2, rightRl x = true := fun x hx => by obtain ⟨i, -, rfl⟩ := List.mem_map.1 hx; exact ruleM_right i
      by_cases hm : 4000 < v2
      · have hm' : (4000 : Int) < (v2 : Int) := by omega
        have he := imR_many (l := rulesM v2) 0 0 (by rw [rulesM_len]; exact hm)
        have HE2 := Lib.hid (show Calls Tryz.prog 23 #[.agg #[.slice none 0 0, .slice none 0 0, .slice v1 v2 v3, .slice none 0 0, .int .i64 0, .int .i64 0]] wr fun e w' => ∃ bf, e = .returned (.tuple #[.string ⟨#[]⟩, .iface 114 (.pointer (some ⟨bf, 0, none⟩))]) ∧ w'.heap[bf]? = some (faultObj 0 IMAGE (.iface 50 (.int .i64 16))) ∧ Below wr.heap.size wr w' from by
          have h := HE.out
          rw [show cntN (imR (rulesM v2) 0 0) 2 = v2 from rulesM_len v2] at h
          exact h.mono fun e w' ⟨v, p, q, r⟩ => by
            rw [he] at q
            rw [encB_some he] at p
            obtain ⟨bf, rfl, hbf⟩ := q
            exact ⟨bf, p, hbf, r⟩)
        clear he hall HE HR hM h1 h3 cp b1
        go_wp2_with (first
          | (go_at_call 23; (with_reducible refine HE2.out.mono ?_); rintro e w5 ⟨bf, rfl, hbf, hb5⟩; have HK := Lib.hid (kind_chain w5 (by simp) (lt_of_block hbf) (chainZ hbf) (HTL.out.below hb5 (Nat.lt_of_lt_of_le HL.out.1.size HBL.out.size))); have HPL := Lib.hid (fun w' (hb : Below w5.heap.size w5 w') => place_chain w' (by simp) (Nat.le_trans (lt_of_block hbf) hb.size) (chainZ ((hb.block _ (lt_of_block hbf)).trans hbf))); clear hbf)
          | (go_at_call 25; refine HK.out.mono ?_; rintro e w6 ⟨rfl, hb6⟩)
          | (go_at_call 26; refine (HPL.out _ hb6).mono ?_; rintro e w7 ⟨rfl, hb7⟩))
        go_ret
        have b5 := HBL.out.trans (hb5.mono HBL.out.size)
        have b6 := b5.trans (hb6.mono b5.size)
        exact ⟨rfl, b6.trans (hb7.mono b6.size)⟩
      · have hm' : decide ((4000 : Int) < (v2 : Int)) = false := decide_eq_false (by omega)
        have he := imR_enc (th := 0) (de := 0) hall (by rw [rulesM_len]; omega) (by decide) (by decide)
        have hsz := imR_size (rulesM v2) 0 0
        rw [rulesM_len] at hsz
        have HE2 := Lib.hid (show Calls Tryz.prog 23 #[.agg #[.slice none 0 0, .slice none 0 0, .slice v1 v2 v3, .slice none 0 0, .int .i64 0, .int .i64 0]] wr fun e w' => e = .returned (.tuple #[.string (outN (imR (rulesM v2) 0 0) 4), .nilIface]) ∧ Below wr.heap.size wr w' from by
          have h := HE.out
          rw [show cntN (imR (rulesM v2) 0 0) 2 = v2 from rulesM_len v2] at h
          exact h.mono fun e w' ⟨v, p, q, r⟩ => by
            rw [he] at q
            rw [encB_none he] at p
            obtain rfl : v = .nilIface := q
            exact ⟨p, r⟩)
        generalize outN (imR (rulesM v2) 0 0) 4 = out at *
        have hq : ((out.size : Int) == 14 + 51 * (v2 : Int)) = true := by rw [beq_iff_eq]; omega
        clear he hall HE HR hM h1 h3 cp b1 hsz
        go_wp2_with (go_at_call 23; (with_reducible refine HE2.out.mono ?_); rintro e w5 ⟨rfl, hb5⟩)
        go_ret
        exact ⟨rfl, HBL.out.trans (hb5.mono HBL.out.size)⟩
end Go.Proofs.YtlpjdknmnomdlaaGreatDoor
