/-
  ImageMany: what its law needs, and its walk.
-/
import Derived.Test.YtaoggmfedocfeaaGreatDoorZEnc
import Derived.Test.YtaoggmfedocfeaaGreatDoorEKit
namespace Go.Proofs.YtaoggmfedocfeaaGreatDoor
open Go Go.RowKit

/-! Images with rules alone. -/
theorem sortW_nil : sortW [] = [] := List.eq_nil_of_length_eq_zero (by rw [sortW_len]; rfl)
def imR (l : List Rl) (th de : Int) : Im := ⟨[], [], l, [], th, de⟩
theorem imR_dup (l : List Rl) (th de : Int) (k : Nat) : dupN (imR l th de) k = false := by
  rcases k with _ | _ | _ | k
  · show (badW 17 (sortW [])).isSome = false; rw [sortW_nil]; rfl
  · show (badW 24 (sortW [])).isSome = false; rw [sortW_nil]; rfl
  · rfl
  · show (badW 16 (sortW [])).isSome = false; rw [sortW_nil]; rfl
theorem imR_bad {l : List Rl} (th de : Int) (h : ∀ x ∈ l, rightRl x = true) (k : Nat) : badN (imR l th de) k = none := by
  rcases k with _ | _ | _ | k
  · rfl
  · rfl
  · show badL rightRl l = none
    unfold badL
    rw [List.findIdx?_eq_none_iff]
    intro x hx
    rw [h x hx]; rfl
  · rfl
theorem imR_enc {l : List Rl} {th de : Int} (h : ∀ x ∈ l, rightRl x = true) (hl : l.length ≤ 4000) (ht : 0 ≤ th ∧ th ≤ 255) (hd : 0 ≤ de ∧ de ≤ 255) : encE (imR l th de) = none := by
  have h1 : manyB (imR l th de) = false := manyB_none (fun k hk => by
    rcases four k hk with rfl | rfl | rfl | rfl
    · exact Nat.zero_le _
    · exact Nat.zero_le _
    · exact hl
    · exact Nat.zero_le _)
  have h2 : argB (imR l th de) = false := by
    unfold argB
    rw [decide_eq_false_iff_not]
    show ¬ (th < 0 ∨ de < 0 ∨ 255 < th ∨ 255 < de)
    omega
  rw [encE_rest h1 h2, wrongZ_none (fun j _ => imR_bad th de h j), dupZ_none (fun j _ => imR_dup l th de j)]
  rfl
/-! The chapter's example. -/
def AWAKE : ByteArray := ⟨#[105, 115, 111, 103, 0, 0, 0, 0, 0, 0, 0, 0, 40, 5]⟩
theorem awake_bytes : encB (imR [] 40 5) = AWAKE := by
  rw [encB_none (imR_enc (fun x hx => by simp at hx) (by decide) (by decide) (by decide))]
  show headB (imR [] 40 5) ++ catW (sortW []) ++ catW (sortW []) ++ catW [] ++ catW (sortW []) = AWAKE
  rw [sortW_nil]
  decide +kernel
theorem imS_nil (th de : Int) : ImS (imR [] th de) := ⟨fun x hx => by simp [imR] at hx, fun x hx => by simp [imR] at hx, fun x hx => by simp [imR] at hx, fun x hx => by simp [imR] at hx⟩
set_option maxRecDepth 100000 in
set_option maxHeartbeats 2000000 in
theorem awake13_any (w : World) (hg : GL w) :
    Calls Tryz.prog 5 #[] w fun e w' => e = .returned (.bool true) ∧ Below w.heap.size w w' := by
  have HE := Lib.hid (show Calls Tryz.prog 7 #[.agg #[.slice none 0 0, .slice none 0 0, .slice none 0 0, .slice none 0 0, .int .i64 40, .int .i64 5]] w fun e w'' => e = .returned (.tuple #[.string AWAKE, .nilIface]) ∧ Below w.heap.size w w'' from
    (encode_im none none none none 0 0 0 0 (imR [] 40 5) w ⟨RowC.nil _ _ _, RowC.nil _ _ _, RowC.nil _ _ _, RowC.nil _ _ _⟩ (imS_nil 40 5) hg).mono fun e w' ⟨v, h1, h2, h3⟩ => by
      rw [imR_enc (fun x hx => by simp at hx) (by decide) (by decide) (by decide)] at h2
      rw [awake_bytes] at h1
      obtain rfl : v = .nilIface := h2
      exact ⟨h1, h3⟩)
  have h14 : (AWAKE.toList == ({ data := #[105, 115, 111, 103, 0, 0, 0, 0, 0, 0, 0, 0, 40, 5] } : ByteArray).toList) = true := beq_self_eq_true _
  have h15 : (AWAKE.toList == [105, 115, 111, 103, 0, 0, 0, 0, 0, 0, 0, 0, 40, 5]) = true := by
    rw [show (({ data := #[105, 115, 111, 103, 0, 0, 0, 0, 0, 0, 0, 0, 40, 5] } : ByteArray).toList) = [105, 115, 111, 103, 0, 0, 0, 0, 0, 0, 0, 0, 40, 5] from by rw [ByteArray.toList_eq]] at h14
    exact h14
  generalize AWAKE = aw at *
  clear hg
  go_enter Tryz.func5, Tryz.ntmps5
  go_wp2_with (go_at_call 7; (with_reducible refine HE.out.mono ?_); rintro e w5 ⟨rfl, hb5⟩)
  go_ret
  exact ⟨rfl, by assumption⟩
/-! Rows of the call's own. -/
theorem flat_getZ {sz : Nat} : ∀ {L : List (List Value)} {i k : Nat} {c : List Value} {x : Value}, (∀ c ∈ L, c.length = sz) → L[i]? = some c → c[k]? = some x → (L.flatMap id)[i * sz + k]? = some x
  | [], i, k, c, x, _, h, _ => by simp at h
  | a :: t, 0, k, c, x, hs, h, hk => by
    simp at h; subst h
    rw [Nat.zero_mul, Nat.zero_add, List.flatMap_cons, List.getElem?_append_left (show k < (id a).length from (List.getElem?_eq_some_iff.1 hk).1)]
    exact hk
  | a :: t, i + 1, k, c, x, hs, h, hk => by
    have ha := hs a List.mem_cons_self
    rw [List.flatMap_cons, List.getElem?_append_right (by show a.length ≤ _; rw [ha, Nat.succ_mul]; omega)]
    have e : (i + 1) * sz + k - (id a).length = i * sz + k := by show (i + 1) * sz + k - a.length = _; rw [ha, Nat.succ_mul]; omega
    rw [e]
    exact flat_getZ (fun c hc => hs c (List.mem_cons_of_mem _ hc)) (by simpa using h) hk
theorem rowC_own {W : World} {base sz : Nat} {e : TypeId} {v : Value} {L : List (List Value)} (h : W.ownsRow base e sz v L.length (L.flatMap id)) (hs : ∀ c ∈ L, c.length = sz) : RowC W v sz L := by
  rcases owned_casesW h with ⟨rfl, h0⟩ | ⟨g, cap, rfl⟩
  · obtain rfl : L = [] := List.eq_nil_of_length_eq_zero h0
    exact RowC.nil _ _ _
  · refine ⟨_, _, rfl, fun i c hc => ⟨g, 0, rfl, fun k x hk => ?_⟩⟩
    have := h.cells rfl _ _ (flat_getZ hs hc hk)
    rw [Addr.add_lit, Nat.zero_add] at this
    rw [Nat.zero_add]
    exact this
theorem cell_newsZ (W : World) (vs : List Value) (t : TypeId) : ∀ j u, vs[j]? = some u → (W.alloc (.cells vs.toArray t)).cell? ((⟨W.heap.size, 0, none⟩ : Addr).add j) = some u := by
  intro j u h
  rw [Addr.add_lit, Nat.zero_add]
  have hn : (W.alloc (.cells vs.toArray t)).heap[W.heap.size]? = some (.cells vs.toArray t (0, 0)) := World.alloc_heap_new W _
  exact cellAtY hn j u (by simp [h])

/-! The law. -/
theorem wf_fewZ {k : Int} (h : 0 ≤ k ∧ k ≤ 1000) : (Lit.int .i64 k).wf = true := by
  unfold Lit.wf
  rw [Bool.and_eq_true, decide_eq_true_iff, decide_eq_true_iff]
  have h1 : IntKind.min .i64 = -9223372036854775808 := by decide
  have h2 : IntKind.max .i64 = 9223372036854775807 := by decide
  omega
def ruleM (i : Nat) : Rl := ⟨1, (i : Int) % 100, false, STAR, ⟨#[]⟩, ⟨#[]⟩, ⟨#[101, 110]⟩, ⟨#[]⟩, ⟨#[]⟩⟩
def rulesM (n : Nat) : List Rl := (List.range n).map ruleM
theorem rulesM_succ (n : Nat) : rulesM (n + 1) = rulesM n ++ [ruleM n] := by simp [rulesM, List.range_succ]
def cellsM (n : Nat) : List Value := ((rulesM n).map rlC).flatMap id
theorem cellsM_succ (n : Nat) : cellsM (n + 1) = cellsM n ++ rlC (ruleM n) := by
  unfold cellsM
  rw [rulesM_succ, List.map_append, List.flatMap_append]
  simp
theorem rlC_all (l : List Rl) : ∀ c ∈ l.map rlC, c.length = 9 := by
  intro c hc
  obtain ⟨x, -, rfl⟩ := List.mem_map.1 hc
  rfl
theorem rlInfo : (Tryz.prog.info? 43).map (fun i => (i.zero, i.size, i.bytes)) = some (some (.agg #[.int .i64 0, .int .i64 0, .bool false, .string ByteArray.empty, .string ByteArray.empty, .string ByteArray.empty, .string ByteArray.empty, .string ByteArray.empty, .string ByteArray.empty]), 9, 120) := by kernel_rfl
end Go.Proofs.YtaoggmfedocfeaaGreatDoor
