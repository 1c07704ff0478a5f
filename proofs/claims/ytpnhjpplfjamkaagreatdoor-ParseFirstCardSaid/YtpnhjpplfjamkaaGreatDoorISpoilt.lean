/-
  Tags by numbers: spoilt.
-/
import Derived.Test.YtpnhjpplfjamkaaGreatDoorIPick
import Derived.Test.YtpnhjpplfjamkaaGreatDoorRFree
import Derived.Test.YtpnhjpplfjamkaaGreatDoorHFew
namespace Go.Proofs.YtpnhjpplfjamkaaGreatDoor
open Go Go.RowKit

theorem own_not_tagX {w : World} {base B : Nat} {v : Value} {n : Nat} {xs : List Value} {cs : Array Value} (h : w.ownsRow base 51 2 v n xs) (hB : w.heap[B]? = some (.cells cs 31 (0, 0))) : v.ownBlock ≠ some B := by
  rcases h.2 with ⟨rfl, _⟩ | ⟨g, c, cur, rfl, _, hg, _⟩
  · simp [Value.ownBlock]
  · intro e
    have e : g = B := by simpa [Value.ownBlock] using e
    subst e
    rw [hB] at hg
    simp at hg
/-- A row of extensions whose rows lie below a bound. -/
def ExtOB (W : World) (base hi : Nat) (v : Value) (L : List (ByteArray × List ByteArray)) : Prop :=
  ∃ us : List Value, us.length = L.length ∧ W.ownsRow base 51 2 v L.length (extCells L us) ∧ (∀ (i : Nat) (u : Value) (x : ByteArray × List ByteArray), us[i]? = some u → L[i]? = some x → W.ownsRow base 9 1 u x.2.length (strs x.2)) ∧ (∀ u ∈ v :: us, ∀ g, u.ownBlock = some g → g < hi)
theorem ExtOB.of {W : World} {base : Nat} {v : Value} {L : List (ByteArray × List ByteArray)} (h : ExtO W base v L) : ExtOB W base W.heap.size v L := by
  obtain ⟨us, h1, h2, h3⟩ := h
  refine ⟨us, h1, h2, h3, fun u hu g hg => ?_⟩
  rcases List.mem_cons.1 hu with rfl | hu
  · exact (h2.lt g hg).2
  · obtain ⟨i, hi⟩ := List.getElem?_of_mem hu
    have hlt : i < us.length := (List.getElem?_eq_some_iff.1 hi).1
    exact ((h3 i u _ hi (List.getElem?_eq_getElem (by omega))).lt g hg).2
theorem ExtOB.ext {W : World} {base hi : Nat} {v : Value} {L : List (ByteArray × List ByteArray)} (h : ExtOB W base hi v L) : ExtO W base v L := by
  obtain ⟨us, h1, h2, h3, _⟩ := h
  exact ⟨us, h1, h2, h3⟩
theorem ExtOB.kept {W W' : World} {base hi : Nat} {v : Value} {L : List (ByteArray × List ByteArray)} {row : Option Nat} (h : ExtOB W base hi v L) (hg : W.grownBy W' row) (hr : ∀ g, row = some g → g < base ∨ hi ≤ g ∨ ∃ cs, W.heap[g]? = some (.cells cs 31 (0, 0))) : ExtOB W' base hi v L := by
  obtain ⟨us, h1, h2, h3, h4⟩ := h
  have ne : ∀ {e : TypeId} {s n : Nat} {u : Value} {xs : List Value}, e ≠ 31 → W.ownsRow base e s u n xs → (∀ g, u.ownBlock = some g → g < hi) → u.ownBlock = none ∨ u.ownBlock ≠ row := by
    intro e s n u xs hne ho hlt
    cases hb : u.ownBlock with
    | none => exact .inl rfl
    | some g =>
      right
      intro hrow
      rcases hr g hrow.symm with hl | hl | ⟨cs, hcs⟩
      · have := (ho.lt g hb).1
        omega
      · have := hlt g hb
        omega
      · rcases ho.2 with ⟨rfl, _⟩ | ⟨g', c, cur, rfl, _, hg', _⟩
        · simp [Value.ownBlock] at hb
        · have e : g' = g := by simpa [Value.ownBlock] using hb
          subst e
          rw [hcs] at hg'
          simp at hg'
          exact hne hg'.2.symm
  exact ⟨us, h1, h2.kept hg (ne (by decide) h2 (h4 v (List.mem_cons_self ..))), fun i u x hu hx => (h3 i u x hu hx).kept hg (ne (by decide) (h3 i u x hu hx) (h4 u (List.mem_cons_of_mem _ (List.mem_of_getElem? hu)))), h4⟩
/-- More extensions behind. -/
theorem ExtO.app {W : World} {base : Nat} {v' : Value} {L L2 : List (ByteArray × List ByteArray)} {us us2 : List Value} (h1 : us.length = L.length) (h2 : us2.length = L2.length)
    (h3 : ∀ (i : Nat) (u : Value) (x : ByteArray × List ByteArray), us[i]? = some u → L[i]? = some x → W.ownsRow base 9 1 u x.2.length (strs x.2))
    (h4 : ∀ (i : Nat) (u : Value) (x : ByteArray × List ByteArray), us2[i]? = some u → L2[i]? = some x → W.ownsRow base 9 1 u x.2.length (strs x.2))
    (ho : W.ownsRow base 51 2 v' (L.length + L2.length) (extCells L us ++ extCells L2 us2)) : ExtO W base v' (L ++ L2) := by
  refine ⟨us ++ us2, by simp [h1, h2], ?_, fun i u y hu hy => ?_⟩
  · have e : extCells (L ++ L2) (us ++ us2) = extCells L us ++ extCells L2 us2 := by
      unfold extCells
      rw [List.zip_append h1.symm, List.flatMap_append]
    rw [e, List.length_append]
    exact ho
  · rcases Nat.lt_or_ge i us.length with hi | hi
    · rw [List.getElem?_append_left hi] at hu
      rw [List.getElem?_append_left (by omega)] at hy
      exact h3 i u y hu hy
    · rw [List.getElem?_append_right hi] at hu
      rw [List.getElem?_append_right (by omega), ← h1] at hy
      exact h4 _ u y hu hy
theorem grown_below {W W' : World} {base : Nat} {row : Option Nat} (h : W.grownBy W' row) (hb : base ≤ W.heap.size) (hr : ∀ g, row = some g → base ≤ g) : Below base W W' :=
  (Below.refl base W).grown h hb hr
theorem own_ne_lt {w : World} {b1 b2 s1 s2 n1 n2 : Nat} {e1 e2 : TypeId} {v1 v2 : Value} {x1 x2 : List Value} (_ : w.ownsRow b1 e1 s1 v1 n1 x1) (h2 : w.ownsRow b2 e2 s2 v2 n2 x2) (hlt : ∀ g, v1.ownBlock = some g → g < b2) : v1.ownBlock = none ∨ v1.ownBlock ≠ v2.ownBlock := by
  cases hb : v1.ownBlock with
  | none => exact .inl rfl
  | some g =>
    right
    intro e
    have := (h2.lt g e.symm).1
    have := hlt g hb
    omega

/-- A tag spoilt by a number. -/
def spoiltT (T : TagM) (m : Nat) : TagM :=
  if m = 1 then { T with vars := T.vars ++ [(⟨#[102, 111, 110, 105, 112, 97]⟩ : ByteArray), (⟨#[102, 111, 110, 105, 112, 97]⟩ : ByteArray)] } else if m = 2 then { T with lang := titleS T.lang } else if m = 3 then { T with exts := T.exts ++ [((⟨#[98]⟩ : ByteArray), [])] } else if m = 4 then { T with script := (⟨#[108, 97, 116]⟩ : ByteArray) }
  else if m = 5 then { T with grand := (⟨#[105, 45, 97, 109, 105]⟩ : ByteArray) } else if m = 6 then { T with priv := T.priv ++ [(⟨#[97, 98, 99, 100, 101, 102, 103, 104, 105]⟩ : ByteArray)] } else if m = 7 then { T with exts := T.exts ++ [((⟨#[99]⟩ : ByteArray), [(⟨#[97, 98]⟩ : ByteArray)]), ((⟨#[99]⟩ : ByteArray), [(⟨#[99, 100]⟩ : ByteArray)])] } else if m = 8 then { T with lang := ByteArray.empty } else T

/-- A tag whose rows the call itself has made, one behind the other. -/
structure TagMade (w : World) (be bv bx bp : Nat) (ve vv vx vp : Value) (E V : List ByteArray) (X : List (ByteArray × List ByteArray)) (P : List ByteArray) : Prop where
  e : w.ownsRow be 9 1 ve E.length (strs E)
  v : w.ownsRow bv 9 1 vv V.length (strs V)
  x : ExtOB w bx bp vx X
  p : w.ownsRow bp 9 1 vp P.length (strs P)
  eb : ∀ g, ve.ownBlock = some g → g < bv
  vb : ∀ g, vv.ownBlock = some g → g < bx
  h1 : be ≤ bv
  h2 : bv ≤ bx
  h3 : bx ≤ bp
  h4 : bp ≤ w.heap.size
theorem TagMade.below {w w' : World} {be bv bx bp : Nat} {ve vv vx vp : Value} {E V : List ByteArray} {X : List (ByteArray × List ByteArray)} {P : List ByteArray} (h : TagMade w be bv bx bp ve vv vx vp E V X P) (hb : Below w.heap.size w w') : TagMade w' be bv bx bp ve vv vx vp E V X P :=
  ⟨ownsRow_belowF h.e hb, ownsRow_belowF h.v hb, h.x.kept (grownF_of (row := none) hb) (fun g hg => by cases hg), ownsRow_belowF h.p hb, h.eb, h.vb, h.h1, h.h2, h.h3, Nat.le_trans h.h4 hb.size⟩
theorem TagMade.keptTag {w w' : World} {be bv bx bp B : Nat} {ve vv vx vp : Value} {E V : List ByteArray} {X : List (ByteArray × List ByteArray)} {P : List ByteArray} {cs : Array Value} (h : TagMade w be bv bx bp ve vv vx vp E V X P) (hB : w.heap[B]? = some (.cells cs 31 (0, 0))) (hg : w.grownBy w' (some B)) : TagMade w' be bv bx bp ve vv vx vp E V X P :=
  ⟨h.e.kept hg (.inr (own_not_tag h.e hB)), h.v.kept hg (.inr (own_not_tag h.v hB)), h.x.kept hg (fun g hg => by cases hg; exact .inr (.inr ⟨_, hB⟩)), h.p.kept hg (.inr (own_not_tag h.p hB)), h.eb, h.vb, h.h1, h.h2, h.h3, Nat.le_trans h.h4 hg.size⟩
theorem TagMade.is {w : World} {be bv bx bp : Nat} {ve vv vx vp : Value} {E V : List ByteArray} {X : List (ByteArray × List ByteArray)} {P : List ByteArray} (h : TagMade w be bv bx bp ve vv vx vp E V X P) (l s r g : ByteArray) : TagIs w (.agg #[.string l, ve, .string s, .string r, vv, vx, vp, .string g]) ⟨l, E, s, r, V, X, P, g⟩ :=
  ⟨ve, vv, vx, vp, rfl, Row.of_own h.e, Row.of_own h.v, h.x.ext.row, Row.of_own h.p⟩

theorem own_ne_lt' {w : World} {b1 b2 s1 s2 n1 n2 : Nat} {e1 e2 : TypeId} {v1 v2 : Value} {x1 x2 : List Value} (h1 : w.ownsRow b1 e1 s1 v1 n1 x1) (_ : w.ownsRow b2 e2 s2 v2 n2 x2) (hlt : ∀ g, v2.ownBlock = some g → g < b1) : v1.ownBlock = none ∨ v1.ownBlock ≠ v2.ownBlock := by
  cases hb : v1.ownBlock with
  | none => exact .inl rfl
  | some g =>
    right
    intro e
    have := (h1.lt g hb).1
    have := hlt g e.symm
    omega
/-- Four rows that the call itself has made, wherever. -/
structure Made4 (w : World) (be bv bx bp : Nat) (ve vv vx vp : Value) (E V : List ByteArray) (X : List (ByteArray × List ByteArray)) (P : List ByteArray) : Prop where
  e : w.ownsRow be 9 1 ve E.length (strs E)
  v : w.ownsRow bv 9 1 vv V.length (strs V)
  x : ExtO w bx vx X
  p : w.ownsRow bp 9 1 vp P.length (strs P)
theorem Made4.keptTag {w w' : World} {be bv bx bp B : Nat} {ve vv vx vp : Value} {E V : List ByteArray} {X : List (ByteArray × List ByteArray)} {P : List ByteArray} {cs : Array Value} (h : Made4 w be bv bx bp ve vv vx vp E V X P) (hB : w.heap[B]? = some (.cells cs 31 (0, 0))) (hg : w.grownBy w' (some B)) : Made4 w' be bv bx bp ve vv vx vp E V X P :=
  ⟨h.e.kept hg (.inr (own_not_tag h.e hB)), h.v.kept hg (.inr (own_not_tag h.v hB)), h.x.kept hg (fun g hg => by cases hg; exact .inr ⟨_, hB⟩), h.p.kept hg (.inr (own_not_tag h.p hB))⟩
theorem TagMade.made {w : World} {be bv bx bp : Nat} {ve vv vx vp : Value} {E V : List ByteArray} {X : List (ByteArray × List ByteArray)} {P : List ByteArray} (h : TagMade w be bv bx bp ve vv vx vp E V X P) : Made4 w be bv bx bp ve vv vx vp E V X P :=
  ⟨h.e, h.v, h.x.ext, h.p⟩
theorem Made4.is {w : World} {be bv bx bp : Nat} {ve vv vx vp : Value} {E V : List ByteArray} {X : List (ByteArray × List ByteArray)} {P : List ByteArray} (h : Made4 w be bv bx bp ve vv vx vp E V X P) (l s r g : ByteArray) : TagIs w (.agg #[.string l, ve, .string s, .string r, vv, vx, vp, .string g]) ⟨l, E, s, r, V, X, P, g⟩ :=
  ⟨ve, vv, vx, vp, rfl, Row.of_own h.e, Row.of_own h.v, h.x.row, Row.of_own h.p⟩

set_option maxRecDepth 100000 in
set_option maxHeartbeats 4000000 in
theorem spoilt_0 (l s r g : ByteArray) (ve vv vx vp : Value) (E V : List ByteArray) (X : List (ByteArray × List ByteArray)) (P : List ByteArray) (be bv bx bp : Nat) (w : World) (hT : TagMade w be bv bx bp ve vv vx vp E V X P) :
    Calls Tryz.prog 27 #[.agg #[.string l, ve, .string s, .string r, vv, vx, vp, .string g], .int .i64 0] w fun e w' => ∃ ue uv ux up, e = .returned (.agg #[.string (TagM.lang ⟨l, E, s, r, V, X, P, g⟩), ue, .string (TagM.script ⟨l, E, s, r, V, X, P, g⟩), .string (TagM.region ⟨l, E, s, r, V, X, P, g⟩), uv, ux, up, .string (TagM.grand ⟨l, E, s, r, V, X, P, g⟩)]) ∧ (∃ b1 b2 b3 b4, Made4 w' b1 b2 b3 b4 ue uv ux up (TagM.extl ⟨l, E, s, r, V, X, P, g⟩) (TagM.vars ⟨l, E, s, r, V, X, P, g⟩) (TagM.exts ⟨l, E, s, r, V, X, P, g⟩) (TagM.priv ⟨l, E, s, r, V, X, P, g⟩)) ∧ Below be w w' := by
  obtain ⟨ea, en, ec, rfl⟩ := own_slice hT.e
  obtain ⟨va, vn, vc, rfl⟩ := own_slice hT.v
  obtain ⟨pa, pn, pc, rfl⟩ := own_slice hT.p
  obtain ⟨xa, xn, xc, rfl⟩ : ∃ ao n c, vx = .slice ao n c := by obtain ⟨us, _, h, _⟩ := hT.x; exact own_slice h
  obtain ⟨W1, hW1⟩ : ∃ W1, (w.alloc (.cells #[.string l, .slice ea en ec, .string s, .string r, .slice va vn vc, .slice xa xn xc, .slice pa pn pc, .string g] 31)).alloc (.cells #[.string ByteArray.empty, .slice none 0 0, .string ByteArray.empty, .string ByteArray.empty, .slice none 0 0, .slice none 0 0, .slice none 0 0, .string ByteArray.empty] 31) = W1 := ⟨_, rfl⟩
  have hb1 : Below w.heap.size w W1 := by rw [← hW1]; exact ((Below.refl _ w).alloc (Nat.le_refl _) _).alloc (by simp) _
  have hA1 : W1.heap[w.heap.size]? = some (.cells #[.string l, .slice ea en ec, .string s, .string r, .slice va vn vc, .slice xa xn xc, .slice pa pn pc, .string g] 31 (0, 0)) := by rw [← hW1]; exact (Below.heap_alloc _ _ _ (by simp)).trans (World.alloc_heap_new w _)
  have hR1 : W1.heap[w.heap.size + 1]? = some (.cells #[.string ByteArray.empty, .slice none 0 0, .string ByteArray.empty, .string ByteArray.empty, .slice none 0 0, .slice none 0 0, .slice none 0 0, .string ByteArray.empty] 31 (0, 0)) := by rw [← hW1]; exact heap_alloc2_new w _ _
  have hT1 := hT.below hb1
  have hbe : be ≤ w.heap.size := by have := hT.h1; have := hT.h2; have := hT.h3; have := hT.h4; omega
  have hs1 := hb1.size
  have hHB := Lib.hid hb1
  have HT := Lib.hid hT1
  clear hT hT1 hb1
  obtain ⟨d0, d1, d2, d3, d4, d5, d6, d7⟩ := tag_cells hA1; have df0 := cells_frozen 0 hA1; have df1 := cells_frozen 1 hA1; have df2 := cells_frozen 2 hA1; have df3 := cells_frozen 3 hA1; have df4 := cells_frozen 4 hA1; have df5 := cells_frozen 5 hA1; have df6 := cells_frozen 6 hA1; have df7 := cells_frozen 7 hA1
  obtain ⟨q0, q1, q2, q3, q4, q5, q6, q7⟩ := tag_cells hR1; have qf0 := cells_frozen 0 hR1; have qf1 := cells_frozen 1 hR1; have qf2 := cells_frozen 2 hR1; have qf3 := cells_frozen 3 hR1; have qf4 := cells_frozen 4 hR1; have qf5 := cells_frozen 5 hR1; have qf6 := cells_frozen 6 hR1; have qf7 := cells_frozen 7 hR1
  go_enter Tryz.func27, Tryz.ntmps27
  go_upto_region 1 with fail
  change Code.wp _ _ _ _ (World.alloc (World.alloc _ (.cells #[.string l, .slice ea en ec, .string s, .string r, .slice va vn vc, .slice xa xn xc, .slice pa pn pc, .string g] _)) (.cells #[.string ByteArray.empty, .slice none 0 0, .string ByteArray.empty, .string ByteArray.empty, .slice none 0 0, .slice none 0 0, .slice none 0 0, .string ByteArray.empty] _))
  rw [hW1]
  clear hW1
  go_wp2_with fail
  obtain ⟨hk1, hk2⟩ := tag_store hR1 (.string l) (.slice ea en ec) (.string s) (.string r) (.slice va vn vc) (.slice xa xn xc) (.slice pa pn pc) (.string g)
  refine bodyPost_ret (results_cell_row rfl _ _ (w.heap.size + 1) 31 _ (0, 0) _ rfl hk1 Tryz.underlying31 rfl tagSize) rfl ?_
  exact ⟨_, _, _, _, rfl, ⟨_, _, _, _, (HT.out.keptTag hR1 hk2).made⟩, (hHB.out.mono hbe).trans (grown_below hk2 (by omega) (fun g hg => by cases hg; omega))⟩


set_option maxRecDepth 100000 in
set_option maxHeartbeats 4000000 in
theorem spoilt_1 (l s r g : ByteArray) (ve vv vx vp : Value) (E V : List ByteArray) (X : List (ByteArray × List ByteArray)) (P : List ByteArray) (be bv bx bp : Nat) (w : World) (hT : TagMade w be bv bx bp ve vv vx vp E V X P) (hV : V.length ≤ 1000) :
    Calls Tryz.prog 27 #[.agg #[.string l, ve, .string s, .string r, vv, vx, vp, .string g], .int .i64 1] w fun e w' => ∃ ue uv ux up, e = .returned (.agg #[.string (TagM.lang ⟨l, E, s, r, V ++ [(⟨#[102, 111, 110, 105, 112, 97]⟩ : ByteArray), (⟨#[102, 111, 110, 105, 112, 97]⟩ : ByteArray)], X, P, g⟩), ue, .string (TagM.script ⟨l, E, s, r, V ++ [(⟨#[102, 111, 110, 105, 112, 97]⟩ : ByteArray), (⟨#[102, 111, 110, 105, 112, 97]⟩ : ByteArray)], X, P, g⟩), .string (TagM.region ⟨l, E, s, r, V ++ [(⟨#[102, 111, 110, 105, 112, 97]⟩ : ByteArray), (⟨#[102, 111, 110, 105, 112, 97]⟩ : ByteArray)], X, P, g⟩), uv, ux, up, .string (TagM.grand ⟨l, E, s, r, V ++ [(⟨#[102, 111, 110, 105, 112, 97]⟩ : ByteArray), (⟨#[102, 111, 110, 105, 112, 97]⟩ : ByteArray)], X, P, g⟩)]) ∧ (∃ b1 b2 b3 b4, Made4 w' b1 b2 b3 b4 ue uv ux up (TagM.extl ⟨l, E, s, r, V ++ [(⟨#[102, 111, 110, 105, 112, 97]⟩ : ByteArray), (⟨#[102, 111, 110, 105, 112, 97]⟩ : ByteArray)], X, P, g⟩) (TagM.vars ⟨l, E, s, r, V ++ [(⟨#[102, 111, 110, 105, 112, 97]⟩ : ByteArray), (⟨#[102, 111, 110, 105, 112, 97]⟩ : ByteArray)], X, P, g⟩) (TagM.exts ⟨l, E, s, r, V ++ [(⟨#[102, 111, 110, 105, 112, 97]⟩ : ByteArray), (⟨#[102, 111, 110, 105, 112, 97]⟩ : ByteArray)], X, P, g⟩) (TagM.priv ⟨l, E, s, r, V ++ [(⟨#[102, 111, 110, 105, 112, 97]⟩ : ByteArray), (⟨#[102, 111, 110, 105, 112, 97]⟩ : ByteArray)], X, P, g⟩)) ∧ Below be w w' := by
  obtain ⟨ea, en, ec, rfl⟩ := own_slice hT.e
  obtain ⟨va, vn, vc, rfl⟩ := own_slice hT.v
  obtain ⟨pa, pn, pc, rfl⟩ := own_slice hT.p
  obtain ⟨xa, xn, xc, rfl⟩ : ∃ ao n c, vx = .slice ao n c := by obtain ⟨us, _, h, _⟩ := hT.x; exact own_slice h
  obtain ⟨W1, hW1⟩ : ∃ W1, (w.alloc (.cells #[.string l, .slice ea en ec, .string s, .string r, .slice va vn vc, .slice xa xn xc, .slice pa pn pc, .string g] 31)).alloc (.cells #[.string ByteArray.empty, .slice none 0 0, .string ByteArray.empty, .string ByteArray.empty, .slice none 0 0, .slice none 0 0, .slice none 0 0, .string ByteArray.empty] 31) = W1 := ⟨_, rfl⟩
  have hb1 : Below w.heap.size w W1 := by rw [← hW1]; exact ((Below.refl _ w).alloc (Nat.le_refl _) _).alloc (by simp) _
  have hA1 : W1.heap[w.heap.size]? = some (.cells #[.string l, .slice ea en ec, .string s, .string r, .slice va vn vc, .slice xa xn xc, .slice pa pn pc, .string g] 31 (0, 0)) := by rw [← hW1]; exact (Below.heap_alloc _ _ _ (by simp)).trans (World.alloc_heap_new w _)
  have hR1 : W1.heap[w.heap.size + 1]? = some (.cells #[.string ByteArray.empty, .slice none 0 0, .string ByteArray.empty, .string ByteArray.empty, .slice none 0 0, .slice none 0 0, .slice none 0 0, .string ByteArray.empty] 31 (0, 0)) := by rw [← hW1]; exact heap_alloc2_new w _ _
  have hT1 := hT.below hb1
  have hbe : be ≤ w.heap.size := by have := hT.h1; have := hT.h2; have := hT.h3; have := hT.h4; omega
  have hs1 := hb1.size
  have hHB := Lib.hid hb1
  have HT := Lib.hid hT1
  clear hT hT1 hb1
  obtain ⟨d0, d1, d2, d3, d4, d5, d6, d7⟩ := tag_cells hA1; have df0 := cells_frozen 0 hA1; have df1 := cells_frozen 1 hA1; have df2 := cells_frozen 2 hA1; have df3 := cells_frozen 3 hA1; have df4 := cells_frozen 4 hA1; have df5 := cells_frozen 5 hA1; have df6 := cells_frozen 6 hA1; have df7 := cells_frozen 7 hA1
  obtain ⟨q0, q1, q2, q3, q4, q5, q6, q7⟩ := tag_cells hR1; have qf0 := cells_frozen 0 hR1; have qf1 := cells_frozen 1 hR1; have qf2 := cells_frozen 2 hR1; have qf3 := cells_frozen 3 hR1; have qf4 := cells_frozen 4 hR1; have qf5 := cells_frozen 5 hR1; have qf6 := cells_frozen 6 hR1; have qf7 := cells_frozen 7 hR1
  have hlA : w.heap.size < W1.heap.size := lt_of_heap hA1
  have hlR : w.heap.size + 1 < W1.heap.size := lt_of_heap hR1
  have hh1 := HT.out.h1
  have hh2 := HT.out.h2
  have hh3 := HT.out.h3
  have hh4 := HT.out.h4
  obtain ⟨i0, hii, iz0, iz1, iz2⟩ := info_parts stringInfo
  have nA := own_not_tag HT.out.v hA1
  have nR := own_not_tag HT.out.v hR1
  go_enter Tryz.func27, Tryz.ntmps27
  go_upto_region 1 with fail
  change Code.wp _ _ _ _ (World.alloc (World.alloc _ (.cells #[.string l, .slice ea en ec, .string s, .string r, .slice va vn vc, .slice xa xn xc, .slice pa pn pc, .string g] _)) (.cells #[.string ByteArray.empty, .slice none 0 0, .string ByteArray.empty, .string ByteArray.empty, .slice none 0 0, .slice none 0 0, .slice none 0 0, .string ByteArray.empty] _))
  rw [hW1]
  clear hW1
  go_wp2_with (at_builtin; refine wpList_append_own _ rfl _ _ 28 rfl bv 9 i0 (.string ByteArray.empty) 1 16 Tryz.underlying28 hii iz0 iz1 iz2 rfl (by decide) _ _ _ rfl (HT.out.v.alloc _) ⟨_, 0, none⟩ 2 2 [.string (⟨#[102, 111, 110, 105, 112, 97]⟩ : ByteArray), .string (⟨#[102, 111, 110, 105, 112, 97]⟩ : ByteArray)] rfl rfl (cell_two_new _ _ _ _) (by intro u hu; simp at hu; subst hu; rfl) (by unfold maxLen; omega) (by omega) (by simp; omega) ?_; intro v' w7 hown7 hgrow7 _; have hA7 := (hgrow7.block w.heap.size (by simp; omega) (fun e => nA e.symm)).trans ((Below.heap_alloc _ _ _ hlA).trans hA1); have hR7 := (hgrow7.block (w.heap.size + 1) (by simp; omega) (fun e => nR e.symm)).trans ((Below.heap_alloc _ _ _ hlR).trans hR1); obtain ⟨a0, a1, a2, a3, a4, a5, a6, a7⟩ := tag_cells hA7; have af0 := cells_frozen 0 hA7; have af1 := cells_frozen 1 hA7; have af2 := cells_frozen 2 hA7; have af3 := cells_frozen 3 hA7; have af4 := cells_frozen 4 hA7; have af5 := cells_frozen 5 hA7; have af6 := cells_frozen 6 hA7; have af7 := cells_frozen 7 hA7; obtain ⟨b0, b1, b2, b3, b4, b5, b6, b7⟩ := tag_cells hR7; have bf0 := cells_frozen 0 hR7; have bf1 := cells_frozen 1 hR7; have bf2 := cells_frozen 2 hR7; have bf3 := cells_frozen 3 hR7; have bf4 := cells_frozen 4 hR7; have bf5 := cells_frozen 5 hR7; have bf6 := cells_frozen 6 hR7; have bf7 := cells_frozen 7 hR7; obtain ⟨wa, wn, wc, rfl⟩ := own_slice hown7)
  have hRX : (w7.setCell ⟨w.heap.size, 4, none⟩ (.slice wa wn wc)).heap[w.heap.size + 1]? = _ := (Below.heap_setCell w7 ⟨w.heap.size, 4, none⟩ _ _ (by simp)).trans hR7
  obtain ⟨hk1, hk2⟩ := tag_store hRX (.string l) (.slice ea en ec) (.string s) (.string r) (.slice wa wn wc) (.slice xa xn xc) (.slice pa pn pc) (.string g)
  refine bodyPost_ret (results_cell_row rfl _ _ (w.heap.size + 1) 31 _ (0, 0) _ rfl hk1 Tryz.underlying31 rfl tagSize) rfl ?_
  have T1 := HT.out
  have hN : w7.ownsRow bv 9 1 (.slice wa wn wc) (V ++ [(⟨#[102, 111, 110, 105, 112, 97]⟩ : ByteArray), (⟨#[102, 111, 110, 105, 112, 97]⟩ : ByteArray)]).length (strs (V ++ [(⟨#[102, 111, 110, 105, 112, 97]⟩ : ByteArray), (⟨#[102, 111, 110, 105, 112, 97]⟩ : ByteArray)])) := by rw [List.length_append, strs_append]; exact hown7
  have M4 : Made4 w7 be bv bx bp (.slice ea en ec) (.slice wa wn wc) (.slice xa xn xc) (.slice pa pn pc) E (V ++ [(⟨#[102, 111, 110, 105, 112, 97]⟩ : ByteArray), (⟨#[102, 111, 110, 105, 112, 97]⟩ : ByteArray)]) X P := ⟨(T1.e.alloc _).kept hgrow7 (own_ne_lt T1.e T1.v T1.eb), hN, ((T1.x.kept (World.grownBy_alloc _ _ none) (fun g hg => by cases hg)).kept hgrow7 (fun g hg => .inl (T1.vb g hg))).ext, (T1.p.alloc _).kept hgrow7 (own_ne_lt' T1.p T1.v (fun g hg => by have := T1.vb g hg; omega))⟩
  have hb7 : Below be W1 w7 := ((Below.refl be W1).alloc (by omega) _).grown hgrow7 (by simp; omega) (fun g hg => by have := (T1.v.lt g hg).1; omega)
  have hs7 := hb7.size
  exact ⟨_, _, _, _, rfl, ⟨_, _, _, _, (M4.keptTag hA7 (grown_setF (World.grownBy.refl _ _) 4 _)).keptTag hRX hk2⟩, (((hHB.out.mono hbe).trans hb7).trans (grown_below (grown_setF (World.grownBy.refl w7 (some w.heap.size)) 4 _) (by omega) (fun g hg => by cases hg; omega))).trans (grown_below hk2 (by simp [World.setCell]; omega) (fun g hg => by cases hg; omega))⟩


set_option maxRecDepth 100000 in
set_option maxHeartbeats 4000000 in
theorem spoilt_2 (l s r g : ByteArray) (ve vv vx vp : Value) (E V : List ByteArray) (X : List (ByteArray × List ByteArray)) (P : List ByteArray) (be bv bx bp : Nat) (w : World) (hT : TagMade w be bv bx bp ve vv vx vp E V X P) (hl : l.size ≤ 1000) :
    Calls Tryz.prog 27 #[.agg #[.string l, ve, .string s, .string r, vv, vx, vp, .string g], .int .i64 2] w fun e w' => ∃ ue uv ux up, e = .returned (.agg #[.string (TagM.lang ⟨titleS l, E, s, r, V, X, P, g⟩), ue, .string (TagM.script ⟨titleS l, E, s, r, V, X, P, g⟩), .string (TagM.region ⟨titleS l, E, s, r, V, X, P, g⟩), uv, ux, up, .string (TagM.grand ⟨titleS l, E, s, r, V, X, P, g⟩)]) ∧ (∃ b1 b2 b3 b4, Made4 w' b1 b2 b3 b4 ue uv ux up (TagM.extl ⟨titleS l, E, s, r, V, X, P, g⟩) (TagM.vars ⟨titleS l, E, s, r, V, X, P, g⟩) (TagM.exts ⟨titleS l, E, s, r, V, X, P, g⟩) (TagM.priv ⟨titleS l, E, s, r, V, X, P, g⟩)) ∧ Below be w w' := by
  obtain ⟨ea, en, ec, rfl⟩ := own_slice hT.e
  obtain ⟨va, vn, vc, rfl⟩ := own_slice hT.v
  obtain ⟨pa, pn, pc, rfl⟩ := own_slice hT.p
  obtain ⟨xa, xn, xc, rfl⟩ : ∃ ao n c, vx = .slice ao n c := by obtain ⟨us, _, h, _⟩ := hT.x; exact own_slice h
  obtain ⟨W1, hW1⟩ : ∃ W1, (w.alloc (.cells #[.string l, .slice ea en ec, .string s, .string r, .slice va vn vc, .slice xa xn xc, .slice pa pn pc, .string g] 31)).alloc (.cells #[.string ByteArray.empty, .slice none 0 0, .string ByteArray.empty, .string ByteArray.empty, .slice none 0 0, .slice none 0 0, .slice none 0 0, .string ByteArray.empty] 31) = W1 := ⟨_, rfl⟩
  have hb1 : Below w.heap.size w W1 := by rw [← hW1]; exact ((Below.refl _ w).alloc (Nat.le_refl _) _).alloc (by simp) _
  have hA1 : W1.heap[w.heap.size]? = some (.cells #[.string l, .slice ea en ec, .string s, .string r, .slice va vn vc, .slice xa xn xc, .slice pa pn pc, .string g] 31 (0, 0)) := by rw [← hW1]; exact (Below.heap_alloc _ _ _ (by simp)).trans (World.alloc_heap_new w _)
  have hR1 : W1.heap[w.heap.size + 1]? = some (.cells #[.string ByteArray.empty, .slice none 0 0, .string ByteArray.empty, .string ByteArray.empty, .slice none 0 0, .slice none 0 0, .slice none 0 0, .string ByteArray.empty] 31 (0, 0)) := by rw [← hW1]; exact heap_alloc2_new w _ _
  have hT1 := hT.below hb1
  have hbe : be ≤ w.heap.size := by have := hT.h1; have := hT.h2; have := hT.h3; have := hT.h4; omega
  have hs1 := hb1.size
  have hHB := Lib.hid hb1
  have HT := Lib.hid hT1
  clear hT hT1 hb1
  obtain ⟨d0, d1, d2, d3, d4, d5, d6, d7⟩ := tag_cells hA1; have df0 := cells_frozen 0 hA1; have df1 := cells_frozen 1 hA1; have df2 := cells_frozen 2 hA1; have df3 := cells_frozen 3 hA1; have df4 := cells_frozen 4 hA1; have df5 := cells_frozen 5 hA1; have df6 := cells_frozen 6 hA1; have df7 := cells_frozen 7 hA1
  obtain ⟨q0, q1, q2, q3, q4, q5, q6, q7⟩ := tag_cells hR1; have qf0 := cells_frozen 0 hR1; have qf1 := cells_frozen 1 hR1; have qf2 := cells_frozen 2 hR1; have qf3 := cells_frozen 3 hR1; have qf4 := cells_frozen 4 hR1; have qf5 := cells_frozen 5 hR1; have qf6 := cells_frozen 6 hR1; have qf7 := cells_frozen 7 hR1
  have hlA : w.heap.size < W1.heap.size := lt_of_heap hA1
  have hlR : w.heap.size + 1 < W1.heap.size := lt_of_heap hR1
  go_enter Tryz.func27, Tryz.ntmps27
  go_upto_region 1 with fail
  change Code.wp _ _ _ _ (World.alloc (World.alloc _ (.cells #[.string l, .slice ea en ec, .string s, .string r, .slice va vn vc, .slice xa xn xc, .slice pa pn pc, .string g] _)) (.cells #[.string ByteArray.empty, .slice none 0 0, .string ByteArray.empty, .string ByteArray.empty, .slice none 0 0, .slice none 0 0, .slice none 0 0, .string ByteArray.empty] _))
  rw [hW1]
  clear hW1
  go_wp2_with (go_at_call 42; (with_reducible refine (title_ref l _ (by omega)).mono ?_); rintro e w5 ⟨rfl, hb5⟩; have hA5 := (hb5.block _ hlA).trans hA1; have hR5 := (hb5.block _ hlR).trans hR1; obtain ⟨a0, a1, a2, a3, a4, a5, a6, a7⟩ := tag_cells hA5; have af0 := cells_frozen 0 hA5; have af1 := cells_frozen 1 hA5; have af2 := cells_frozen 2 hA5; have af3 := cells_frozen 3 hA5; have af4 := cells_frozen 4 hA5; have af5 := cells_frozen 5 hA5; have af6 := cells_frozen 6 hA5; have af7 := cells_frozen 7 hA5; obtain ⟨b0, b1, b2, b3, b4, b5, b6, b7⟩ := tag_cells hR5; have bf0 := cells_frozen 0 hR5; have bf1 := cells_frozen 1 hR5; have bf2 := cells_frozen 2 hR5; have bf3 := cells_frozen 3 hR5; have bf4 := cells_frozen 4 hR5; have bf5 := cells_frozen 5 hR5; have bf6 := cells_frozen 6 hR5; have bf7 := cells_frozen 7 hR5)
  have hRX : (w5.setCell ⟨w.heap.size, 0, none⟩ (.string (titleS l))).heap[w.heap.size + 1]? = _ := (Below.heap_setCell w5 ⟨w.heap.size, 0, none⟩ _ _ (by simp)).trans hR5
  obtain ⟨hk1, hk2⟩ := tag_store hRX (.string (titleS l)) (.slice ea en ec) (.string s) (.string r) (.slice va vn vc) (.slice xa xn xc) (.slice pa pn pc) (.string g)
  refine bodyPost_ret (results_cell_row rfl _ _ (w.heap.size + 1) 31 _ (0, 0) _ rfl hk1 Tryz.underlying31 rfl tagSize) rfl ?_
  have hs5 := hb5.size
  exact ⟨_, _, _, _, rfl, ⟨_, _, _, _, (((HT.out.below hb5).keptTag hA5 (grown_setF (World.grownBy.refl _ _) 0 _)).keptTag hRX hk2).made⟩, (((hHB.out.mono hbe).trans (hb5.mono (by omega))).trans (grown_below (grown_setF (World.grownBy.refl w5 (some w.heap.size)) 0 _) (by omega) (fun g hg => by cases hg; omega))).trans (grown_below hk2 (by simp [World.setCell]; omega) (fun g hg => by cases hg; omega))⟩


set_option maxRecDepth 100000 in
set_option maxHeartbeats 4000000 in
theorem spoilt_3 (l s r g : ByteArray) (ve vv vx vp : Value) (E V : List ByteArray) (X : List (ByteArray × List ByteArray)) (P : List ByteArray) (be bv bx bp : Nat) (w : World) (hT : TagMade w be bv bx bp ve vv vx vp E V X P) (hX : X.length ≤ 1000) :
    Calls Tryz.prog 27 #[.agg #[.string l, ve, .string s, .string r, vv, vx, vp, .string g], .int .i64 3] w fun e w' => ∃ ue uv ux up, e = .returned (.agg #[.string (TagM.lang ⟨l, E, s, r, V, X ++ [((⟨#[98]⟩ : ByteArray), [])], P, g⟩), ue, .string (TagM.script ⟨l, E, s, r, V, X ++ [((⟨#[98]⟩ : ByteArray), [])], P, g⟩), .string (TagM.region ⟨l, E, s, r, V, X ++ [((⟨#[98]⟩ : ByteArray), [])], P, g⟩), uv, ux, up, .string (TagM.grand ⟨l, E, s, r, V, X ++ [((⟨#[98]⟩ : ByteArray), [])], P, g⟩)]) ∧ (∃ b1 b2 b3 b4, Made4 w' b1 b2 b3 b4 ue uv ux up (TagM.extl ⟨l, E, s, r, V, X ++ [((⟨#[98]⟩ : ByteArray), [])], P, g⟩) (TagM.vars ⟨l, E, s, r, V, X ++ [((⟨#[98]⟩ : ByteArray), [])], P, g⟩) (TagM.exts ⟨l, E, s, r, V, X ++ [((⟨#[98]⟩ : ByteArray), [])], P, g⟩) (TagM.priv ⟨l, E, s, r, V, X ++ [((⟨#[98]⟩ : ByteArray), [])], P, g⟩)) ∧ Below be w w' := by
  obtain ⟨ea, en, ec, rfl⟩ := own_slice hT.e
  obtain ⟨va, vn, vc, rfl⟩ := own_slice hT.v
  obtain ⟨pa, pn, pc, rfl⟩ := own_slice hT.p
  obtain ⟨xa, xn, xc, rfl⟩ : ∃ ao n c, vx = .slice ao n c := by obtain ⟨us, _, h, _⟩ := hT.x; exact own_slice h
  obtain ⟨W1, hW1⟩ : ∃ W1, (w.alloc (.cells #[.string l, .slice ea en ec, .string s, .string r, .slice va vn vc, .slice xa xn xc, .slice pa pn pc, .string g] 31)).alloc (.cells #[.string ByteArray.empty, .slice none 0 0, .string ByteArray.empty, .string ByteArray.empty, .slice none 0 0, .slice none 0 0, .slice none 0 0, .string ByteArray.empty] 31) = W1 := ⟨_, rfl⟩
  have hb1 : Below w.heap.size w W1 := by rw [← hW1]; exact ((Below.refl _ w).alloc (Nat.le_refl _) _).alloc (by simp) _
  have hA1 : W1.heap[w.heap.size]? = some (.cells #[.string l, .slice ea en ec, .string s, .string r, .slice va vn vc, .slice xa xn xc, .slice pa pn pc, .string g] 31 (0, 0)) := by rw [← hW1]; exact (Below.heap_alloc _ _ _ (by simp)).trans (World.alloc_heap_new w _)
  have hR1 : W1.heap[w.heap.size + 1]? = some (.cells #[.string ByteArray.empty, .slice none 0 0, .string ByteArray.empty, .string ByteArray.empty, .slice none 0 0, .slice none 0 0, .slice none 0 0, .string ByteArray.empty] 31 (0, 0)) := by rw [← hW1]; exact heap_alloc2_new w _ _
  have hT1 := hT.below hb1
  have hbe : be ≤ w.heap.size := by have := hT.h1; have := hT.h2; have := hT.h3; have := hT.h4; omega
  have hs1 := hb1.size
  have hHB := Lib.hid hb1
  have HT := Lib.hid hT1
  clear hT hT1 hb1
  obtain ⟨d0, d1, d2, d3, d4, d5, d6, d7⟩ := tag_cells hA1; have df0 := cells_frozen 0 hA1; have df1 := cells_frozen 1 hA1; have df2 := cells_frozen 2 hA1; have df3 := cells_frozen 3 hA1; have df4 := cells_frozen 4 hA1; have df5 := cells_frozen 5 hA1; have df6 := cells_frozen 6 hA1; have df7 := cells_frozen 7 hA1
  obtain ⟨q0, q1, q2, q3, q4, q5, q6, q7⟩ := tag_cells hR1; have qf0 := cells_frozen 0 hR1; have qf1 := cells_frozen 1 hR1; have qf2 := cells_frozen 2 hR1; have qf3 := cells_frozen 3 hR1; have qf4 := cells_frozen 4 hR1; have qf5 := cells_frozen 5 hR1; have qf6 := cells_frozen 6 hR1; have qf7 := cells_frozen 7 hR1
  have hlA : w.heap.size < W1.heap.size := lt_of_heap hA1
  have hlR : w.heap.size + 1 < W1.heap.size := lt_of_heap hR1
  have hh1 := HT.out.h1
  have hh2 := HT.out.h2
  have hh3 := HT.out.h3
  have hh4 := HT.out.h4
  obtain ⟨us, hul, hown, hus, hubd⟩ := HT.out.x
  obtain ⟨i0, hii, iz0, iz1, iz2⟩ := info_parts extInfo
  have nA := own_not_tagX hown hA1
  have nR := own_not_tagX hown hR1
  have HO := Lib.hid hown
  have HUS := Lib.hid (And.intro hul (And.intro hus hubd))
  clear hown hul hus hubd
  go_enter Tryz.func27, Tryz.ntmps27
  go_upto_region 1 with fail
  change Code.wp _ _ _ _ (World.alloc (World.alloc _ (.cells #[.string l, .slice ea en ec, .string s, .string r, .slice va vn vc, .slice xa xn xc, .slice pa pn pc, .string g] _)) (.cells #[.string ByteArray.empty, .slice none 0 0, .string ByteArray.empty, .string ByteArray.empty, .slice none 0 0, .slice none 0 0, .slice none 0 0, .string ByteArray.empty] _))
  rw [hW1]
  clear hW1
  go_wp2_with (at_builtin; refine wpList_append_own _ rfl _ _ 29 rfl bx 51 i0 (.agg #[.string ByteArray.empty, .slice none 0 0]) 2 40 Tryz.underlying29 hii iz0 iz1 iz2 rfl (by decide) _ _ _ rfl (HO.out.alloc _) ⟨_, 0, none⟩ 1 1 [.string (⟨#[98]⟩ : ByteArray), .slice none 0 0] rfl rfl (cell_two_new _ _ _ _) (by intro u hu; simp at hu; rcases hu with rfl | rfl <;> rfl) (by unfold maxLen; omega) (by omega) (by simp; omega) ?_; intro v' w7 hown7 hgrow7 _; have hA7 := (hgrow7.block w.heap.size (by simp; omega) (fun e => nA e.symm)).trans ((Below.heap_alloc _ _ _ hlA).trans hA1); have hR7 := (hgrow7.block (w.heap.size + 1) (by simp; omega) (fun e => nR e.symm)).trans ((Below.heap_alloc _ _ _ hlR).trans hR1); obtain ⟨a0, a1, a2, a3, a4, a5, a6, a7⟩ := tag_cells hA7; have af0 := cells_frozen 0 hA7; have af1 := cells_frozen 1 hA7; have af2 := cells_frozen 2 hA7; have af3 := cells_frozen 3 hA7; have af4 := cells_frozen 4 hA7; have af5 := cells_frozen 5 hA7; have af6 := cells_frozen 6 hA7; have af7 := cells_frozen 7 hA7; obtain ⟨b0, b1, b2, b3, b4, b5, b6, b7⟩ := tag_cells hR7; have bf0 := cells_frozen 0 hR7; have bf1 := cells_frozen 1 hR7; have bf2 := cells_frozen 2 hR7; have bf3 := cells_frozen 3 hR7; have bf4 := cells_frozen 4 hR7; have bf5 := cells_frozen 5 hR7; have bf6 := cells_frozen 6 hR7; have bf7 := cells_frozen 7 hR7; obtain ⟨wa, wn, wc, rfl⟩ := own_slice hown7)
  have hRX : (w7.setCell ⟨w.heap.size, 5, none⟩ (.slice wa wn wc)).heap[w.heap.size + 1]? = _ := (Below.heap_setCell w7 ⟨w.heap.size, 5, none⟩ _ _ (by simp)).trans hR7
  obtain ⟨hk1, hk2⟩ := tag_store hRX (.string l) (.slice ea en ec) (.string s) (.string r) (.slice va vn vc) (.slice wa wn wc) (.slice pa pn pc) (.string g)
  refine bodyPost_ret (results_cell_row rfl _ _ (w.heap.size + 1) 31 _ (0, 0) _ rfl hk1 Tryz.underlying31 rfl tagSize) rfl ?_
  have T1 := HT.out
  obtain ⟨hul, hus, hubd⟩ := HUS.out
  have hN : ExtO w7 bx (.slice wa wn wc) (X ++ [((⟨#[98]⟩ : ByteArray), [])]) := ExtO.snoc (x := ((⟨#[98]⟩ : ByteArray), [])) hul (fun i u x hu hx => ((hus i u x hu hx).alloc _).kept hgrow7 (own_types_ne (hus i u x hu hx) HO.out (by decide))) (World.ownsRow_nil _ _ _ _) hown7
  have M4 : Made4 w7 be bv bx bp (.slice ea en ec) (.slice va vn vc) (.slice wa wn wc) (.slice pa pn pc) E V (X ++ [((⟨#[98]⟩ : ByteArray), [])]) P := ⟨(T1.e.alloc _).kept hgrow7 (own_types_ne T1.e HO.out (by decide)), (T1.v.alloc _).kept hgrow7 (own_types_ne T1.v HO.out (by decide)), hN, (T1.p.alloc _).kept hgrow7 (own_types_ne T1.p HO.out (by decide))⟩
  have hb7 : Below be W1 w7 := ((Below.refl be W1).alloc (by omega) _).grown hgrow7 (by simp; omega) (fun g hg => by have := (HO.out.lt g hg).1; omega)
  have hs7 := hb7.size
  exact ⟨_, _, _, _, rfl, ⟨_, _, _, _, (M4.keptTag hA7 (grown_setF (World.grownBy.refl _ _) 5 _)).keptTag hRX hk2⟩, (((hHB.out.mono hbe).trans hb7).trans (grown_below (grown_setF (World.grownBy.refl w7 (some w.heap.size)) 5 _) (by omega) (fun g hg => by cases hg; omega))).trans (grown_below hk2 (by simp [World.setCell]; omega) (fun g hg => by cases hg; omega))⟩


set_option maxRecDepth 100000 in
set_option maxHeartbeats 4000000 in
theorem spoilt_4 (l s r g : ByteArray) (ve vv vx vp : Value) (E V : List ByteArray) (X : List (ByteArray × List ByteArray)) (P : List ByteArray) (be bv bx bp : Nat) (w : World) (hT : TagMade w be bv bx bp ve vv vx vp E V X P) :
    Calls Tryz.prog 27 #[.agg #[.string l, ve, .string s, .string r, vv, vx, vp, .string g], .int .i64 4] w fun e w' => ∃ ue uv ux up, e = .returned (.agg #[.string (TagM.lang ⟨l, E, (⟨#[108, 97, 116]⟩ : ByteArray), r, V, X, P, g⟩), ue, .string (TagM.script ⟨l, E, (⟨#[108, 97, 116]⟩ : ByteArray), r, V, X, P, g⟩), .string (TagM.region ⟨l, E, (⟨#[108, 97, 116]⟩ : ByteArray), r, V, X, P, g⟩), uv, ux, up, .string (TagM.grand ⟨l, E, (⟨#[108, 97, 116]⟩ : ByteArray), r, V, X, P, g⟩)]) ∧ (∃ b1 b2 b3 b4, Made4 w' b1 b2 b3 b4 ue uv ux up (TagM.extl ⟨l, E, (⟨#[108, 97, 116]⟩ : ByteArray), r, V, X, P, g⟩) (TagM.vars ⟨l, E, (⟨#[108, 97, 116]⟩ : ByteArray), r, V, X, P, g⟩) (TagM.exts ⟨l, E, (⟨#[108, 97, 116]⟩ : ByteArray), r, V, X, P, g⟩) (TagM.priv ⟨l, E, (⟨#[108, 97, 116]⟩ : ByteArray), r, V, X, P, g⟩)) ∧ Below be w w' := by
  obtain ⟨ea, en, ec, rfl⟩ := own_slice hT.e
  obtain ⟨va, vn, vc, rfl⟩ := own_slice hT.v
  obtain ⟨pa, pn, pc, rfl⟩ := own_slice hT.p
  obtain ⟨xa, xn, xc, rfl⟩ : ∃ ao n c, vx = .slice ao n c := by obtain ⟨us, _, h, _⟩ := hT.x; exact own_slice h
  obtain ⟨W1, hW1⟩ : ∃ W1, (w.alloc (.cells #[.string l, .slice ea en ec, .string s, .string r, .slice va vn vc, .slice xa xn xc, .slice pa pn pc, .string g] 31)).alloc (.cells #[.string ByteArray.empty, .slice none 0 0, .string ByteArray.empty, .string ByteArray.empty, .slice none 0 0, .slice none 0 0, .slice none 0 0, .string ByteArray.empty] 31) = W1 := ⟨_, rfl⟩
  have hb1 : Below w.heap.size w W1 := by rw [← hW1]; exact ((Below.refl _ w).alloc (Nat.le_refl _) _).alloc (by simp) _
  have hA1 : W1.heap[w.heap.size]? = some (.cells #[.string l, .slice ea en ec, .string s, .string r, .slice va vn vc, .slice xa xn xc, .slice pa pn pc, .string g] 31 (0, 0)) := by rw [← hW1]; exact (Below.heap_alloc _ _ _ (by simp)).trans (World.alloc_heap_new w _)
  have hR1 : W1.heap[w.heap.size + 1]? = some (.cells #[.string ByteArray.empty, .slice none 0 0, .string ByteArray.empty, .string ByteArray.empty, .slice none 0 0, .slice none 0 0, .slice none 0 0, .string ByteArray.empty] 31 (0, 0)) := by rw [← hW1]; exact heap_alloc2_new w _ _
  have hT1 := hT.below hb1
  have hbe : be ≤ w.heap.size := by have := hT.h1; have := hT.h2; have := hT.h3; have := hT.h4; omega
  have hs1 := hb1.size
  have hHB := Lib.hid hb1
  have HT := Lib.hid hT1
  clear hT hT1 hb1
  obtain ⟨d0, d1, d2, d3, d4, d5, d6, d7⟩ := tag_cells hA1; have df0 := cells_frozen 0 hA1; have df1 := cells_frozen 1 hA1; have df2 := cells_frozen 2 hA1; have df3 := cells_frozen 3 hA1; have df4 := cells_frozen 4 hA1; have df5 := cells_frozen 5 hA1; have df6 := cells_frozen 6 hA1; have df7 := cells_frozen 7 hA1
  obtain ⟨q0, q1, q2, q3, q4, q5, q6, q7⟩ := tag_cells hR1; have qf0 := cells_frozen 0 hR1; have qf1 := cells_frozen 1 hR1; have qf2 := cells_frozen 2 hR1; have qf3 := cells_frozen 3 hR1; have qf4 := cells_frozen 4 hR1; have qf5 := cells_frozen 5 hR1; have qf6 := cells_frozen 6 hR1; have qf7 := cells_frozen 7 hR1
  have hAX := cells_set (k := 2) hA1 (.string (⟨#[108, 97, 116]⟩ : ByteArray))
  have hRX : (W1.setCell ⟨w.heap.size, 2, none⟩ (.string (⟨#[108, 97, 116]⟩ : ByteArray))).heap[w.heap.size + 1]? = _ := (Below.heap_setCell W1 ⟨w.heap.size, 2, none⟩ _ _ (by simp)).trans hR1
  go_enter Tryz.func27, Tryz.ntmps27
  go_upto_region 1 with fail
  change Code.wp _ _ _ _ (World.alloc (World.alloc _ (.cells #[.string l, .slice ea en ec, .string s, .string r, .slice va vn vc, .slice xa xn xc, .slice pa pn pc, .string g] _)) (.cells #[.string ByteArray.empty, .slice none 0 0, .string ByteArray.empty, .string ByteArray.empty, .slice none 0 0, .slice none 0 0, .slice none 0 0, .string ByteArray.empty] _))
  rw [hW1]
  clear hW1
  go_wp2_with fail
  obtain ⟨hk1, hk2⟩ := tag_store hRX (.string l) (.slice ea en ec) (.string (⟨#[108, 97, 116]⟩ : ByteArray)) (.string r) (.slice va vn vc) (.slice xa xn xc) (.slice pa pn pc) (.string g)
  refine bodyPost_ret (results_cell_row rfl _ _ (w.heap.size + 1) 31 _ (0, 0) _ rfl hk1 Tryz.underlying31 rfl tagSize) rfl ?_
  exact ⟨_, _, _, _, rfl, ⟨_, _, _, _, ((HT.out.keptTag hA1 (grown_setF (World.grownBy.refl _ _) 2 _)).keptTag hRX hk2).made⟩, ((hHB.out.mono hbe).trans (grown_below (grown_setF (World.grownBy.refl W1 (some w.heap.size)) 2 _) (by omega) (fun g hg => by cases hg; omega))).trans (grown_below hk2 (by simp [World.setCell]; omega) (fun g hg => by cases hg; omega))⟩


set_option maxRecDepth 100000 in
set_option maxHeartbeats 4000000 in
theorem spoilt_5 (l s r g : ByteArray) (ve vv vx vp : Value) (E V : List ByteArray) (X : List (ByteArray × List ByteArray)) (P : List ByteArray) (be bv bx bp : Nat) (w : World) (hT : TagMade w be bv bx bp ve vv vx vp E V X P) :
    Calls Tryz.prog 27 #[.agg #[.string l, ve, .string s, .string r, vv, vx, vp, .string g], .int .i64 5] w fun e w' => ∃ ue uv ux up, e = .returned (.agg #[.string (TagM.lang ⟨l, E, s, r, V, X, P, (⟨#[105, 45, 97, 109, 105]⟩ : ByteArray)⟩), ue, .string (TagM.script ⟨l, E, s, r, V, X, P, (⟨#[105, 45, 97, 109, 105]⟩ : ByteArray)⟩), .string (TagM.region ⟨l, E, s, r, V, X, P, (⟨#[105, 45, 97, 109, 105]⟩ : ByteArray)⟩), uv, ux, up, .string (TagM.grand ⟨l, E, s, r, V, X, P, (⟨#[105, 45, 97, 109, 105]⟩ : ByteArray)⟩)]) ∧ (∃ b1 b2 b3 b4, Made4 w' b1 b2 b3 b4 ue uv ux up (TagM.extl ⟨l, E, s, r, V, X, P, (⟨#[105, 45, 97, 109, 105]⟩ : ByteArray)⟩) (TagM.vars ⟨l, E, s, r, V, X, P, (⟨#[105, 45, 97, 109, 105]⟩ : ByteArray)⟩) (TagM.exts ⟨l, E, s, r, V, X, P, (⟨#[105, 45, 97, 109, 105]⟩ : ByteArray)⟩) (TagM.priv ⟨l, E, s, r, V, X, P, (⟨#[105, 45, 97, 109, 105]⟩ : ByteArray)⟩)) ∧ Below be w w' := by
  obtain ⟨ea, en, ec, rfl⟩ := own_slice hT.e
  obtain ⟨va, vn, vc, rfl⟩ := own_slice hT.v
  obtain ⟨pa, pn, pc, rfl⟩ := own_slice hT.p
  obtain ⟨xa, xn, xc, rfl⟩ : ∃ ao n c, vx = .slice ao n c := by obtain ⟨us, _, h, _⟩ := hT.x; exact own_slice h
  obtain ⟨W1, hW1⟩ : ∃ W1, (w.alloc (.cells #[.string l, .slice ea en ec, .string s, .string r, .slice va vn vc, .slice xa xn xc, .slice pa pn pc, .string g] 31)).alloc (.cells #[.string ByteArray.empty, .slice none 0 0, .string ByteArray.empty, .string ByteArray.empty, .slice none 0 0, .slice none 0 0, .slice none 0 0, .string ByteArray.empty] 31) = W1 := ⟨_, rfl⟩
  have hb1 : Below w.heap.size w W1 := by rw [← hW1]; exact ((Below.refl _ w).alloc (Nat.le_refl _) _).alloc (by simp) _
  have hA1 : W1.heap[w.heap.size]? = some (.cells #[.string l, .slice ea en ec, .string s, .string r, .slice va vn vc, .slice xa xn xc, .slice pa pn pc, .string g] 31 (0, 0)) := by rw [← hW1]; exact (Below.heap_alloc _ _ _ (by simp)).trans (World.alloc_heap_new w _)
  have hR1 : W1.heap[w.heap.size + 1]? = some (.cells #[.string ByteArray.empty, .slice none 0 0, .string ByteArray.empty, .string ByteArray.empty, .slice none 0 0, .slice none 0 0, .slice none 0 0, .string ByteArray.empty] 31 (0, 0)) := by rw [← hW1]; exact heap_alloc2_new w _ _
  have hT1 := hT.below hb1
  have hbe : be ≤ w.heap.size := by have := hT.h1; have := hT.h2; have := hT.h3; have := hT.h4; omega
  have hs1 := hb1.size
  have hHB := Lib.hid hb1
  have HT := Lib.hid hT1
  clear hT hT1 hb1
  obtain ⟨d0, d1, d2, d3, d4, d5, d6, d7⟩ := tag_cells hA1; have df0 := cells_frozen 0 hA1; have df1 := cells_frozen 1 hA1; have df2 := cells_frozen 2 hA1; have df3 := cells_frozen 3 hA1; have df4 := cells_frozen 4 hA1; have df5 := cells_frozen 5 hA1; have df6 := cells_frozen 6 hA1; have df7 := cells_frozen 7 hA1
  obtain ⟨q0, q1, q2, q3, q4, q5, q6, q7⟩ := tag_cells hR1; have qf0 := cells_frozen 0 hR1; have qf1 := cells_frozen 1 hR1; have qf2 := cells_frozen 2 hR1; have qf3 := cells_frozen 3 hR1; have qf4 := cells_frozen 4 hR1; have qf5 := cells_frozen 5 hR1; have qf6 := cells_frozen 6 hR1; have qf7 := cells_frozen 7 hR1
  have hAX := cells_set (k := 7) hA1 (.string (⟨#[105, 45, 97, 109, 105]⟩ : ByteArray))
  have hRX : (W1.setCell ⟨w.heap.size, 7, none⟩ (.string (⟨#[105, 45, 97, 109, 105]⟩ : ByteArray))).heap[w.heap.size + 1]? = _ := (Below.heap_setCell W1 ⟨w.heap.size, 7, none⟩ _ _ (by simp)).trans hR1
  go_enter Tryz.func27, Tryz.ntmps27
  go_upto_region 1 with fail
  change Code.wp _ _ _ _ (World.alloc (World.alloc _ (.cells #[.string l, .slice ea en ec, .string s, .string r, .slice va vn vc, .slice xa xn xc, .slice pa pn pc, .string g] _)) (.cells #[.string ByteArray.empty, .slice none 0 0, .string ByteArray.empty, .string ByteArray.empty, .slice none 0 0, .slice none 0 0, .slice none 0 0, .string ByteArray.empty] _))
  rw [hW1]
  clear hW1
  go_wp2_with fail
  obtain ⟨hk1, hk2⟩ := tag_store hRX (.string l) (.slice ea en ec) (.string s) (.string r) (.slice va vn vc) (.slice xa xn xc) (.slice pa pn pc) (.string (⟨#[105, 45, 97, 109, 105]⟩ : ByteArray))
  refine bodyPost_ret (results_cell_row rfl _ _ (w.heap.size + 1) 31 _ (0, 0) _ rfl hk1 Tryz.underlying31 rfl tagSize) rfl ?_
  exact ⟨_, _, _, _, rfl, ⟨_, _, _, _, ((HT.out.keptTag hA1 (grown_setF (World.grownBy.refl _ _) 7 _)).keptTag hRX hk2).made⟩, ((hHB.out.mono hbe).trans (grown_below (grown_setF (World.grownBy.refl W1 (some w.heap.size)) 7 _) (by omega) (fun g hg => by cases hg; omega))).trans (grown_below hk2 (by simp [World.setCell]; omega) (fun g hg => by cases hg; omega))⟩


set_option maxRecDepth 100000 in
set_option maxHeartbeats 4000000 in
theorem spoilt_6 (l s r g : ByteArray) (ve vv vx vp : Value) (E V : List ByteArray) (X : List (ByteArray × List ByteArray)) (P : List ByteArray) (be bv bx bp : Nat) (w : World) (hT : TagMade w be bv bx bp ve vv vx vp E V X P) (hP : P.length ≤ 1000) :
    Calls Tryz.prog 27 #[.agg #[.string l, ve, .string s, .string r, vv, vx, vp, .string g], .int .i64 6] w fun e w' => ∃ ue uv ux up, e = .returned (.agg #[.string (TagM.lang ⟨l, E, s, r, V, X, P ++ [(⟨#[97, 98, 99, 100, 101, 102, 103, 104, 105]⟩ : ByteArray)], g⟩), ue, .string (TagM.script ⟨l, E, s, r, V, X, P ++ [(⟨#[97, 98, 99, 100, 101, 102, 103, 104, 105]⟩ : ByteArray)], g⟩), .string (TagM.region ⟨l, E, s, r, V, X, P ++ [(⟨#[97, 98, 99, 100, 101, 102, 103, 104, 105]⟩ : ByteArray)], g⟩), uv, ux, up, .string (TagM.grand ⟨l, E, s, r, V, X, P ++ [(⟨#[97, 98, 99, 100, 101, 102, 103, 104, 105]⟩ : ByteArray)], g⟩)]) ∧ (∃ b1 b2 b3 b4, Made4 w' b1 b2 b3 b4 ue uv ux up (TagM.extl ⟨l, E, s, r, V, X, P ++ [(⟨#[97, 98, 99, 100, 101, 102, 103, 104, 105]⟩ : ByteArray)], g⟩) (TagM.vars ⟨l, E, s, r, V, X, P ++ [(⟨#[97, 98, 99, 100, 101, 102, 103, 104, 105]⟩ : ByteArray)], g⟩) (TagM.exts ⟨l, E, s, r, V, X, P ++ [(⟨#[97, 98, 99, 100, 101, 102, 103, 104, 105]⟩ : ByteArray)], g⟩) (TagM.priv ⟨l, E, s, r, V, X, P ++ [(⟨#[97, 98, 99, 100, 101, 102, 103, 104, 105]⟩ : ByteArray)], g⟩)) ∧ Below be w w' := by
  obtain ⟨ea, en, ec, rfl⟩ := own_slice hT.e
  obtain ⟨va, vn, vc, rfl⟩ := own_slice hT.v
  obtain ⟨pa, pn, pc, rfl⟩ := own_slice hT.p
  obtain ⟨xa, xn, xc, rfl⟩ : ∃ ao n c, vx = .slice ao n c := by obtain ⟨us, _, h, _⟩ := hT.x; exact own_slice h
  obtain ⟨W1, hW1⟩ : ∃ W1, (w.alloc (.cells #[.string l, .slice ea en ec, .string s, .string r, .slice va vn vc, .slice xa xn xc, .slice pa pn pc, .string g] 31)).alloc (.cells #[.string ByteArray.empty, .slice none 0 0, .string ByteArray.empty, .string ByteArray.empty, .slice none 0 0, .slice none 0 0, .slice none 0 0, .string ByteArray.empty] 31) = W1 := ⟨_, rfl⟩
  have hb1 : Below w.heap.size w W1 := by rw [← hW1]; exact ((Below.refl _ w).alloc (Nat.le_refl _) _).alloc (by simp) _
  have hA1 : W1.heap[w.heap.size]? = some (.cells #[.string l, .slice ea en ec, .string s, .string r, .slice va vn vc, .slice xa xn xc, .slice pa pn pc, .string g] 31 (0, 0)) := by rw [← hW1]; exact (Below.heap_alloc _ _ _ (by simp)).trans (World.alloc_heap_new w _)
  have hR1 : W1.heap[w.heap.size + 1]? = some (.cells #[.string ByteArray.empty, .slice none 0 0, .string ByteArray.empty, .string ByteArray.empty, .slice none 0 0, .slice none 0 0, .slice none 0 0, .string ByteArray.empty] 31 (0, 0)) := by rw [← hW1]; exact heap_alloc2_new w _ _
  have hT1 := hT.below hb1
  have hbe : be ≤ w.heap.size := by have := hT.h1; have := hT.h2; have := hT.h3; have := hT.h4; omega
  have hs1 := hb1.size
  have hHB := Lib.hid hb1
  have HT := Lib.hid hT1
  clear hT hT1 hb1
  obtain ⟨d0, d1, d2, d3, d4, d5, d6, d7⟩ := tag_cells hA1; have df0 := cells_frozen 0 hA1; have df1 := cells_frozen 1 hA1; have df2 := cells_frozen 2 hA1; have df3 := cells_frozen 3 hA1; have df4 := cells_frozen 4 hA1; have df5 := cells_frozen 5 hA1; have df6 := cells_frozen 6 hA1; have df7 := cells_frozen 7 hA1
  obtain ⟨q0, q1, q2, q3, q4, q5, q6, q7⟩ := tag_cells hR1; have qf0 := cells_frozen 0 hR1; have qf1 := cells_frozen 1 hR1; have qf2 := cells_frozen 2 hR1; have qf3 := cells_frozen 3 hR1; have qf4 := cells_frozen 4 hR1; have qf5 := cells_frozen 5 hR1; have qf6 := cells_frozen 6 hR1; have qf7 := cells_frozen 7 hR1
  have hlA : w.heap.size < W1.heap.size := lt_of_heap hA1
  have hlR : w.heap.size + 1 < W1.heap.size := lt_of_heap hR1
  have hh1 := HT.out.h1
  have hh2 := HT.out.h2
  have hh3 := HT.out.h3
  have hh4 := HT.out.h4
  obtain ⟨i0, hii, iz0, iz1, iz2⟩ := info_parts stringInfo
  have nA := own_not_tag HT.out.p hA1
  have nR := own_not_tag HT.out.p hR1
  go_enter Tryz.func27, Tryz.ntmps27
  go_upto_region 1 with fail
  change Code.wp _ _ _ _ (World.alloc (World.alloc _ (.cells #[.string l, .slice ea en ec, .string s, .string r, .slice va vn vc, .slice xa xn xc, .slice pa pn pc, .string g] _)) (.cells #[.string ByteArray.empty, .slice none 0 0, .string ByteArray.empty, .string ByteArray.empty, .slice none 0 0, .slice none 0 0, .slice none 0 0, .string ByteArray.empty] _))
  rw [hW1]
  clear hW1
  go_wp2_with (at_builtin; refine wpList_append_own _ rfl _ _ 28 rfl bp 9 i0 (.string ByteArray.empty) 1 16 Tryz.underlying28 hii iz0 iz1 iz2 rfl (by decide) _ _ _ rfl (HT.out.p.alloc _) ⟨_, 0, none⟩ 1 1 [.string (⟨#[97, 98, 99, 100, 101, 102, 103, 104, 105]⟩ : ByteArray)] rfl rfl (cell_one_new _ _ _) (by intro u hu; simp at hu; subst hu; rfl) (by unfold maxLen; omega) (by omega) (by simp; omega) ?_; intro v' w7 hown7 hgrow7 _; have hA7 := (hgrow7.block w.heap.size (by simp; omega) (fun e => nA e.symm)).trans ((Below.heap_alloc _ _ _ hlA).trans hA1); have hR7 := (hgrow7.block (w.heap.size + 1) (by simp; omega) (fun e => nR e.symm)).trans ((Below.heap_alloc _ _ _ hlR).trans hR1); obtain ⟨a0, a1, a2, a3, a4, a5, a6, a7⟩ := tag_cells hA7; have af0 := cells_frozen 0 hA7; have af1 := cells_frozen 1 hA7; have af2 := cells_frozen 2 hA7; have af3 := cells_frozen 3 hA7; have af4 := cells_frozen 4 hA7; have af5 := cells_frozen 5 hA7; have af6 := cells_frozen 6 hA7; have af7 := cells_frozen 7 hA7; obtain ⟨b0, b1, b2, b3, b4, b5, b6, b7⟩ := tag_cells hR7; have bf0 := cells_frozen 0 hR7; have bf1 := cells_frozen 1 hR7; have bf2 := cells_frozen 2 hR7; have bf3 := cells_frozen 3 hR7; have bf4 := cells_frozen 4 hR7; have bf5 := cells_frozen 5 hR7; have bf6 := cells_frozen 6 hR7; have bf7 := cells_frozen 7 hR7; obtain ⟨wa, wn, wc, rfl⟩ := own_slice hown7)
  have hRX : (w7.setCell ⟨w.heap.size, 6, none⟩ (.slice wa wn wc)).heap[w.heap.size + 1]? = _ := (Below.heap_setCell w7 ⟨w.heap.size, 6, none⟩ _ _ (by simp)).trans hR7
  obtain ⟨hk1, hk2⟩ := tag_store hRX (.string l) (.slice ea en ec) (.string s) (.string r) (.slice va vn vc) (.slice xa xn xc) (.slice wa wn wc) (.string g)
  refine bodyPost_ret (results_cell_row rfl _ _ (w.heap.size + 1) 31 _ (0, 0) _ rfl hk1 Tryz.underlying31 rfl tagSize) rfl ?_
  have T1 := HT.out
  have hN : w7.ownsRow bp 9 1 (.slice wa wn wc) (P ++ [(⟨#[97, 98, 99, 100, 101, 102, 103, 104, 105]⟩ : ByteArray)]).length (strs (P ++ [(⟨#[97, 98, 99, 100, 101, 102, 103, 104, 105]⟩ : ByteArray)])) := by rw [List.length_append, strs_append]; exact hown7
  have M4 : Made4 w7 be bv bx bp (.slice ea en ec) (.slice va vn vc) (.slice xa xn xc) (.slice wa wn wc) E V X (P ++ [(⟨#[97, 98, 99, 100, 101, 102, 103, 104, 105]⟩ : ByteArray)]) := ⟨(T1.e.alloc _).kept hgrow7 (own_ne_lt T1.e T1.p (fun g hg => by have := T1.eb g hg; omega)), (T1.v.alloc _).kept hgrow7 (own_ne_lt T1.v T1.p (fun g hg => by have := T1.vb g hg; omega)), ((T1.x.kept (World.grownBy_alloc _ _ none) (fun g hg => by cases hg)).kept hgrow7 (fun g hg => .inr (.inl (T1.p.lt g hg).1))).ext, hN⟩
  have hb7 : Below be W1 w7 := ((Below.refl be W1).alloc (by omega) _).grown hgrow7 (by simp; omega) (fun g hg => by have := (T1.p.lt g hg).1; omega)
  have hs7 := hb7.size
  exact ⟨_, _, _, _, rfl, ⟨_, _, _, _, (M4.keptTag hA7 (grown_setF (World.grownBy.refl _ _) 6 _)).keptTag hRX hk2⟩, (((hHB.out.mono hbe).trans hb7).trans (grown_below (grown_setF (World.grownBy.refl w7 (some w.heap.size)) 6 _) (by omega) (fun g hg => by cases hg; omega))).trans (grown_below hk2 (by simp [World.setCell]; omega) (fun g hg => by cases hg; omega))⟩


set_option maxRecDepth 100000 in
set_option maxHeartbeats 4000000 in
theorem spoilt_7 (l s r g : ByteArray) (ve vv vx vp : Value) (E V : List ByteArray) (X : List (ByteArray × List ByteArray)) (P : List ByteArray) (be bv bx bp : Nat) (w : World) (hT : TagMade w be bv bx bp ve vv vx vp E V X P) (hX : X.length ≤ 1000) :
    Calls Tryz.prog 27 #[.agg #[.string l, ve, .string s, .string r, vv, vx, vp, .string g], .int .i64 7] w fun e w' => ∃ ue uv ux up, e = .returned (.agg #[.string (TagM.lang ⟨l, E, s, r, V, X ++ [((⟨#[99]⟩ : ByteArray), [(⟨#[97, 98]⟩ : ByteArray)]), ((⟨#[99]⟩ : ByteArray), [(⟨#[99, 100]⟩ : ByteArray)])], P, g⟩), ue, .string (TagM.script ⟨l, E, s, r, V, X ++ [((⟨#[99]⟩ : ByteArray), [(⟨#[97, 98]⟩ : ByteArray)]), ((⟨#[99]⟩ : ByteArray), [(⟨#[99, 100]⟩ : ByteArray)])], P, g⟩), .string (TagM.region ⟨l, E, s, r, V, X ++ [((⟨#[99]⟩ : ByteArray), [(⟨#[97, 98]⟩ : ByteArray)]), ((⟨#[99]⟩ : ByteArray), [(⟨#[99, 100]⟩ : ByteArray)])], P, g⟩), uv, ux, up, .string (TagM.grand ⟨l, E, s, r, V, X ++ [((⟨#[99]⟩ : ByteArray), [(⟨#[97, 98]⟩ : ByteArray)]), ((⟨#[99]⟩ : ByteArray), [(⟨#[99, 100]⟩ : ByteArray)])], P, g⟩)]) ∧ (∃ b1 b2 b3 b4, Made4 w' b1 b2 b3 b4 ue uv ux up (TagM.extl ⟨l, E, s, r, V, X ++ [((⟨#[99]⟩ : ByteArray), [(⟨#[97, 98]⟩ : ByteArray)]), ((⟨#[99]⟩ : ByteArray), [(⟨#[99, 100]⟩ : ByteArray)])], P, g⟩) (TagM.vars ⟨l, E, s, r, V, X ++ [((⟨#[99]⟩ : ByteArray), [(⟨#[97, 98]⟩ : ByteArray)]), ((⟨#[99]⟩ : ByteArray), [(⟨#[99, 100]⟩ : ByteArray)])], P, g⟩) (TagM.exts ⟨l, E, s, r, V, X ++ [((⟨#[99]⟩ : ByteArray), [(⟨#[97, 98]⟩ : ByteArray)]), ((⟨#[99]⟩ : ByteArray), [(⟨#[99, 100]⟩ : ByteArray)])], P, g⟩) (TagM.priv ⟨l, E, s, r, V, X ++ [((⟨#[99]⟩ : ByteArray), [(⟨#[97, 98]⟩ : ByteArray)]), ((⟨#[99]⟩ : ByteArray), [(⟨#[99, 100]⟩ : ByteArray)])], P, g⟩)) ∧ Below be w w' := by
  obtain ⟨ea, en, ec, rfl⟩ := own_slice hT.e
  obtain ⟨va, vn, vc, rfl⟩ := own_slice hT.v
  obtain ⟨pa, pn, pc, rfl⟩ := own_slice hT.p
  obtain ⟨xa, xn, xc, rfl⟩ : ∃ ao n c, vx = .slice ao n c := by obtain ⟨us, _, h, _⟩ := hT.x; exact own_slice h
  obtain ⟨W1, hW1⟩ : ∃ W1, (w.alloc (.cells #[.string l, .slice ea en ec, .string s, .string r, .slice va vn vc, .slice xa xn xc, .slice pa pn pc, .string g] 31)).alloc (.cells #[.string ByteArray.empty, .slice none 0 0, .string ByteArray.empty, .string ByteArray.empty, .slice none 0 0, .slice none 0 0, .slice none 0 0, .string ByteArray.empty] 31) = W1 := ⟨_, rfl⟩
  have hb1 : Below w.heap.size w W1 := by rw [← hW1]; exact ((Below.refl _ w).alloc (Nat.le_refl _) _).alloc (by simp) _
  have hA1 : W1.heap[w.heap.size]? = some (.cells #[.string l, .slice ea en ec, .string s, .string r, .slice va vn vc, .slice xa xn xc, .slice pa pn pc, .string g] 31 (0, 0)) := by rw [← hW1]; exact (Below.heap_alloc _ _ _ (by simp)).trans (World.alloc_heap_new w _)
  have hR1 : W1.heap[w.heap.size + 1]? = some (.cells #[.string ByteArray.empty, .slice none 0 0, .string ByteArray.empty, .string ByteArray.empty, .slice none 0 0, .slice none 0 0, .slice none 0 0, .string ByteArray.empty] 31 (0, 0)) := by rw [← hW1]; exact heap_alloc2_new w _ _
  have hT1 := hT.below hb1
  have hbe : be ≤ w.heap.size := by have := hT.h1; have := hT.h2; have := hT.h3; have := hT.h4; omega
  have hs1 := hb1.size
  have hHB := Lib.hid hb1
  have HT := Lib.hid hT1
  clear hT hT1 hb1
  obtain ⟨d0, d1, d2, d3, d4, d5, d6, d7⟩ := tag_cells hA1; have df0 := cells_frozen 0 hA1; have df1 := cells_frozen 1 hA1; have df2 := cells_frozen 2 hA1; have df3 := cells_frozen 3 hA1; have df4 := cells_frozen 4 hA1; have df5 := cells_frozen 5 hA1; have df6 := cells_frozen 6 hA1; have df7 := cells_frozen 7 hA1
  obtain ⟨q0, q1, q2, q3, q4, q5, q6, q7⟩ := tag_cells hR1; have qf0 := cells_frozen 0 hR1; have qf1 := cells_frozen 1 hR1; have qf2 := cells_frozen 2 hR1; have qf3 := cells_frozen 3 hR1; have qf4 := cells_frozen 4 hR1; have qf5 := cells_frozen 5 hR1; have qf6 := cells_frozen 6 hR1; have qf7 := cells_frozen 7 hR1
  have hlA : w.heap.size < W1.heap.size := lt_of_heap hA1
  have hlR : w.heap.size + 1 < W1.heap.size := lt_of_heap hR1
  have hh1 := HT.out.h1
  have hh2 := HT.out.h2
  have hh3 := HT.out.h3
  have hh4 := HT.out.h4
  obtain ⟨us, hul, hown, hus, hubd⟩ := HT.out.x
  obtain ⟨i0, hii, iz0, iz1, iz2⟩ := info_parts extInfo
  have nA := own_not_tagX hown hA1
  have nR := own_not_tagX hown hR1
  have HO := Lib.hid hown
  have HUS := Lib.hid (And.intro hul (And.intro hus hubd))
  clear hown hul hus hubd
  have h4n : (((W1.alloc (.cells #[.string (⟨#[97, 98]⟩ : ByteArray)] 9)).alloc (.cells #[.string (⟨#[99, 100]⟩ : ByteArray)] 9)).alloc (.cells #[.string (⟨#[99]⟩ : ByteArray), .slice (some ⟨W1.heap.size, 0, none⟩) 1 1, .string (⟨#[99]⟩ : ByteArray), .slice (some ⟨W1.heap.size + 1, 0, none⟩) 1 1] 51)).heap[W1.heap.size + 1 + 1]? = some (.cells #[.string (⟨#[99]⟩ : ByteArray), .slice (some ⟨W1.heap.size, 0, none⟩) 1 1, .string (⟨#[99]⟩ : ByteArray), .slice (some ⟨W1.heap.size + 1, 0, none⟩) 1 1] 51 (0, 0)) := by
    have := World.alloc_heap_new ((W1.alloc (.cells #[.string (⟨#[97, 98]⟩ : ByteArray)] 9)).alloc (.cells #[.string (⟨#[99, 100]⟩ : ByteArray)] 9)) (.cells #[.string (⟨#[99]⟩ : ByteArray), .slice (some ⟨W1.heap.size, 0, none⟩) 1 1, .string (⟨#[99]⟩ : ByteArray), .slice (some ⟨W1.heap.size + 1, 0, none⟩) 1 1] 51)
    simpa using this
  go_enter Tryz.func27, Tryz.ntmps27
  go_upto_region 1 with fail
  change Code.wp _ _ _ _ (World.alloc (World.alloc _ (.cells #[.string l, .slice ea en ec, .string s, .string r, .slice va vn vc, .slice xa xn xc, .slice pa pn pc, .string g] _)) (.cells #[.string ByteArray.empty, .slice none 0 0, .string ByteArray.empty, .string ByteArray.empty, .slice none 0 0, .slice none 0 0, .slice none 0 0, .string ByteArray.empty] _))
  rw [hW1]
  clear hW1
  go_wp2_with (at_builtin; refine wpList_append_own _ rfl _ _ 29 rfl bx 51 i0 (.agg #[.string ByteArray.empty, .slice none 0 0]) 2 40 Tryz.underlying29 hii iz0 iz1 iz2 rfl (by decide) _ _ _ rfl (((HO.out.alloc _).alloc _).alloc _) ⟨_, 0, none⟩ 2 2 [.string (⟨#[99]⟩ : ByteArray), .slice (some ⟨W1.heap.size, 0, none⟩) 1 1, .string (⟨#[99]⟩ : ByteArray), .slice (some ⟨W1.heap.size + 1, 0, none⟩) 1 1] rfl rfl (World.news_of_block h4n) (by intro u hu; simp at hu; rcases hu with rfl | rfl | rfl | rfl <;> rfl) (by unfold maxLen; omega) (by omega) (by simp; omega) ?_; intro v' w7 hown7 hgrow7 _; have hA7 := (hgrow7.block w.heap.size (by simp; omega) (fun e => nA e.symm)).trans (((Below.heap_alloc _ _ _ (by simp; omega)).trans ((Below.heap_alloc _ _ _ (by simp; omega)).trans ((Below.heap_alloc _ _ _ hlA).trans hA1)))); have hR7 := (hgrow7.block (w.heap.size + 1) (by simp; omega) (fun e => nR e.symm)).trans (((Below.heap_alloc _ _ _ (by simp; omega)).trans ((Below.heap_alloc _ _ _ (by simp; omega)).trans ((Below.heap_alloc _ _ _ hlR).trans hR1)))); obtain ⟨a0, a1, a2, a3, a4, a5, a6, a7⟩ := tag_cells hA7; have af0 := cells_frozen 0 hA7; have af1 := cells_frozen 1 hA7; have af2 := cells_frozen 2 hA7; have af3 := cells_frozen 3 hA7; have af4 := cells_frozen 4 hA7; have af5 := cells_frozen 5 hA7; have af6 := cells_frozen 6 hA7; have af7 := cells_frozen 7 hA7; obtain ⟨b0, b1, b2, b3, b4, b5, b6, b7⟩ := tag_cells hR7; have bf0 := cells_frozen 0 hR7; have bf1 := cells_frozen 1 hR7; have bf2 := cells_frozen 2 hR7; have bf3 := cells_frozen 3 hR7; have bf4 := cells_frozen 4 hR7; have bf5 := cells_frozen 5 hR7; have bf6 := cells_frozen 6 hR7; have bf7 := cells_frozen 7 hR7; obtain ⟨wa, wn, wc, rfl⟩ := own_slice hown7)
  have hRX : (w7.setCell ⟨w.heap.size, 5, none⟩ (.slice wa wn wc)).heap[w.heap.size + 1]? = _ := (Below.heap_setCell w7 ⟨w.heap.size, 5, none⟩ _ _ (by simp)).trans hR7
  obtain ⟨hk1, hk2⟩ := tag_store hRX (.string l) (.slice ea en ec) (.string s) (.string r) (.slice va vn vc) (.slice wa wn wc) (.slice pa pn pc) (.string g)
  refine bodyPost_ret (results_cell_row rfl _ _ (w.heap.size + 1) 31 _ (0, 0) _ rfl hk1 Tryz.underlying31 rfl tagSize) rfl ?_
  have T1 := HT.out
  obtain ⟨hul, hus, hubd⟩ := HUS.out
  have o1 : ((W1.alloc (.cells #[.string (⟨#[97, 98]⟩ : ByteArray)] 9)).alloc (.cells #[.string (⟨#[99, 100]⟩ : ByteArray)] 9)).ownsRow bx 9 1 (.slice (some ⟨W1.heap.size, 0, none⟩) 1 1) 1 [.string (⟨#[97, 98]⟩ : ByteArray)] := (World.ownsRow_lit (base := bx) (size := 1) W1 #[.string (⟨#[97, 98]⟩ : ByteArray)] 1 (by omega) (by decide) rfl).alloc _
  have o2 : ((W1.alloc (.cells #[.string (⟨#[97, 98]⟩ : ByteArray)] 9)).alloc (.cells #[.string (⟨#[99, 100]⟩ : ByteArray)] 9)).ownsRow bx 9 1 (.slice (some ⟨W1.heap.size + 1, 0, none⟩) 1 1) 1 [.string (⟨#[99, 100]⟩ : ByteArray)] := by
    have := World.ownsRow_lit (base := bx) (size := 1) (e := 9) (W1.alloc (.cells #[.string (⟨#[97, 98]⟩ : ByteArray)] 9)) #[.string (⟨#[99, 100]⟩ : ByteArray)] 1 (by simp; omega) (by decide) rfl
    simpa using this
  have hN : ExtO w7 bx (.slice wa wn wc) (X ++ [((⟨#[99]⟩ : ByteArray), [(⟨#[97, 98]⟩ : ByteArray)]), ((⟨#[99]⟩ : ByteArray), [(⟨#[99, 100]⟩ : ByteArray)])]) := by
    refine ExtO.app (us2 := [.slice (some ⟨W1.heap.size, 0, none⟩) 1 1, .slice (some ⟨W1.heap.size + 1, 0, none⟩) 1 1]) hul rfl (fun i u x hu hx => ((((hus i u x hu hx).alloc _).alloc _).alloc _).kept hgrow7 (own_types_ne (hus i u x hu hx) HO.out (by decide))) ?_ hown7
    intro i u x hu hx
    have hi : i = 0 ∨ i = 1 := by
      have := (List.getElem?_eq_some_iff.1 hu).1
      simp at this
      omega
    rcases hi with rfl | rfl
    · simp at hu hx
      subst hu hx
      exact (o1.alloc _).kept hgrow7 (own_types_ne o1 ((HO.out.alloc _).alloc _) (by decide))
    · simp at hu hx
      subst hu hx
      exact (o2.alloc _).kept hgrow7 (own_types_ne o2 ((HO.out.alloc _).alloc _) (by decide))
  have M4 : Made4 w7 be bv bx bp (.slice ea en ec) (.slice va vn vc) (.slice wa wn wc) (.slice pa pn pc) E V (X ++ [((⟨#[99]⟩ : ByteArray), [(⟨#[97, 98]⟩ : ByteArray)]), ((⟨#[99]⟩ : ByteArray), [(⟨#[99, 100]⟩ : ByteArray)])]) P := ⟨(((T1.e.alloc _).alloc _).alloc _).kept hgrow7 (own_types_ne T1.e HO.out (by decide)), (((T1.v.alloc _).alloc _).alloc _).kept hgrow7 (own_types_ne T1.v HO.out (by decide)), hN, (((T1.p.alloc _).alloc _).alloc _).kept hgrow7 (own_types_ne T1.p HO.out (by decide))⟩
  have hb7 : Below be W1 w7 := ((((Below.refl be W1).alloc (by omega) _).alloc (by simp; omega) _).alloc (by simp; omega) _).grown hgrow7 (by simp; omega) (fun g hg => by have := (HO.out.lt g hg).1; omega)
  have hs7 := hb7.size
  exact ⟨_, _, _, _, rfl, ⟨_, _, _, _, (M4.keptTag hA7 (grown_setF (World.grownBy.refl _ _) 5 _)).keptTag hRX hk2⟩, (((hHB.out.mono hbe).trans hb7).trans (grown_below (grown_setF (World.grownBy.refl w7 (some w.heap.size)) 5 _) (by omega) (fun g hg => by cases hg; omega))).trans (grown_below hk2 (by simp [World.setCell]; omega) (fun g hg => by cases hg; omega))⟩


set_option maxRecDepth 100000 in
set_option maxHeartbeats 4000000 in
theorem spoilt_8 (l s r g : ByteArray) (ve vv vx vp : Value) (E V : List ByteArray) (X : List (ByteArray × List ByteArray)) (P : List ByteArray) (be bv bx bp : Nat) (w : World) (hT : TagMade w be bv bx bp ve vv vx vp E V X P) :
    Calls Tryz.prog 27 #[.agg #[.string l, ve, .string s, .string r, vv, vx, vp, .string g], .int .i64 8] w fun e w' => ∃ ue uv ux up, e = .returned (.agg #[.string (TagM.lang ⟨ByteArray.empty, E, s, r, V, X, P, g⟩), ue, .string (TagM.script ⟨ByteArray.empty, E, s, r, V, X, P, g⟩), .string (TagM.region ⟨ByteArray.empty, E, s, r, V, X, P, g⟩), uv, ux, up, .string (TagM.grand ⟨ByteArray.empty, E, s, r, V, X, P, g⟩)]) ∧ (∃ b1 b2 b3 b4, Made4 w' b1 b2 b3 b4 ue uv ux up (TagM.extl ⟨ByteArray.empty, E, s, r, V, X, P, g⟩) (TagM.vars ⟨ByteArray.empty, E, s, r, V, X, P, g⟩) (TagM.exts ⟨ByteArray.empty, E, s, r, V, X, P, g⟩) (TagM.priv ⟨ByteArray.empty, E, s, r, V, X, P, g⟩)) ∧ Below be w w' := by
  obtain ⟨ea, en, ec, rfl⟩ := own_slice hT.e
  obtain ⟨va, vn, vc, rfl⟩ := own_slice hT.v
  obtain ⟨pa, pn, pc, rfl⟩ := own_slice hT.p
  obtain ⟨xa, xn, xc, rfl⟩ : ∃ ao n c, vx = .slice ao n c := by obtain ⟨us, _, h, _⟩ := hT.x; exact own_slice h
  obtain ⟨W1, hW1⟩ : ∃ W1, (w.alloc (.cells #[.string l, .slice ea en ec, .string s, .string r, .slice va vn vc, .slice xa xn xc, .slice pa pn pc, .string g] 31)).alloc (.cells #[.string ByteArray.empty, .slice none 0 0, .string ByteArray.empty, .string ByteArray.empty, .slice none 0 0, .slice none 0 0, .slice none 0 0, .string ByteArray.empty] 31) = W1 := ⟨_, rfl⟩
  have hb1 : Below w.heap.size w W1 := by rw [← hW1]; exact ((Below.refl _ w).alloc (Nat.le_refl _) _).alloc (by simp) _
  have hA1 : W1.heap[w.heap.size]? = some (.cells #[.string l, .slice ea en ec, .string s, .string r, .slice va vn vc, .slice xa xn xc, .slice pa pn pc, .string g] 31 (0, 0)) := by rw [← hW1]; exact (Below.heap_alloc _ _ _ (by simp)).trans (World.alloc_heap_new w _)
  have hR1 : W1.heap[w.heap.size + 1]? = some (.cells #[.string ByteArray.empty, .slice none 0 0, .string ByteArray.empty, .string ByteArray.empty, .slice none 0 0, .slice none 0 0, .slice none 0 0, .string ByteArray.empty] 31 (0, 0)) := by rw [← hW1]; exact heap_alloc2_new w _ _
  have hT1 := hT.below hb1
  have hbe : be ≤ w.heap.size := by have := hT.h1; have := hT.h2; have := hT.h3; have := hT.h4; omega
  have hs1 := hb1.size
  have hHB := Lib.hid hb1
  have HT := Lib.hid hT1
  clear hT hT1 hb1
  obtain ⟨d0, d1, d2, d3, d4, d5, d6, d7⟩ := tag_cells hA1; have df0 := cells_frozen 0 hA1; have df1 := cells_frozen 1 hA1; have df2 := cells_frozen 2 hA1; have df3 := cells_frozen 3 hA1; have df4 := cells_frozen 4 hA1; have df5 := cells_frozen 5 hA1; have df6 := cells_frozen 6 hA1; have df7 := cells_frozen 7 hA1
  obtain ⟨q0, q1, q2, q3, q4, q5, q6, q7⟩ := tag_cells hR1; have qf0 := cells_frozen 0 hR1; have qf1 := cells_frozen 1 hR1; have qf2 := cells_frozen 2 hR1; have qf3 := cells_frozen 3 hR1; have qf4 := cells_frozen 4 hR1; have qf5 := cells_frozen 5 hR1; have qf6 := cells_frozen 6 hR1; have qf7 := cells_frozen 7 hR1
  have hAX := cells_set (k := 0) hA1 (.string ByteArray.empty)
  have hRX : (W1.setCell ⟨w.heap.size, 0, none⟩ (.string ByteArray.empty)).heap[w.heap.size + 1]? = _ := (Below.heap_setCell W1 ⟨w.heap.size, 0, none⟩ _ _ (by simp)).trans hR1
  go_enter Tryz.func27, Tryz.ntmps27
  go_upto_region 1 with fail
  change Code.wp _ _ _ _ (World.alloc (World.alloc _ (.cells #[.string l, .slice ea en ec, .string s, .string r, .slice va vn vc, .slice xa xn xc, .slice pa pn pc, .string g] _)) (.cells #[.string ByteArray.empty, .slice none 0 0, .string ByteArray.empty, .string ByteArray.empty, .slice none 0 0, .slice none 0 0, .slice none 0 0, .string ByteArray.empty] _))
  rw [hW1]
  clear hW1
  go_wp2_with fail
  obtain ⟨hk1, hk2⟩ := tag_store hRX (.string ByteArray.empty) (.slice ea en ec) (.string s) (.string r) (.slice va vn vc) (.slice xa xn xc) (.slice pa pn pc) (.string g)
  refine bodyPost_ret (results_cell_row rfl _ _ (w.heap.size + 1) 31 _ (0, 0) _ rfl hk1 Tryz.underlying31 rfl tagSize) rfl ?_
  exact ⟨_, _, _, _, rfl, ⟨_, _, _, _, ((HT.out.keptTag hA1 (grown_setF (World.grownBy.refl _ _) 0 _)).keptTag hRX hk2).made⟩, ((hHB.out.mono hbe).trans (grown_below (grown_setF (World.grownBy.refl W1 (some w.heap.size)) 0 _) (by omega) (fun g hg => by cases hg; omega))).trans (grown_below hk2 (by simp [World.setCell]; omega) (fun g hg => by cases hg; omega))⟩


set_option maxRecDepth 100000 in
set_option maxHeartbeats 4000000 in
theorem spoilt_9 (l s r g : ByteArray) (ve vv vx vp : Value) (E V : List ByteArray) (X : List (ByteArray × List ByteArray)) (P : List ByteArray) (be bv bx bp : Nat) (w : World) (hT : TagMade w be bv bx bp ve vv vx vp E V X P) :
    Calls Tryz.prog 27 #[.agg #[.string l, ve, .string s, .string r, vv, vx, vp, .string g], .int .i64 9] w fun e w' => ∃ ue uv ux up, e = .returned (.agg #[.string (TagM.lang ⟨l, E, s, r, V, X, P, g⟩), ue, .string (TagM.script ⟨l, E, s, r, V, X, P, g⟩), .string (TagM.region ⟨l, E, s, r, V, X, P, g⟩), uv, ux, up, .string (TagM.grand ⟨l, E, s, r, V, X, P, g⟩)]) ∧ (∃ b1 b2 b3 b4, Made4 w' b1 b2 b3 b4 ue uv ux up (TagM.extl ⟨l, E, s, r, V, X, P, g⟩) (TagM.vars ⟨l, E, s, r, V, X, P, g⟩) (TagM.exts ⟨l, E, s, r, V, X, P, g⟩) (TagM.priv ⟨l, E, s, r, V, X, P, g⟩)) ∧ Below be w w' := by
  obtain ⟨ea, en, ec, rfl⟩ := own_slice hT.e
  obtain ⟨va, vn, vc, rfl⟩ := own_slice hT.v
  obtain ⟨pa, pn, pc, rfl⟩ := own_slice hT.p
  obtain ⟨xa, xn, xc, rfl⟩ : ∃ ao n c, vx = .slice ao n c := by obtain ⟨us, _, h, _⟩ := hT.x; exact own_slice h
  obtain ⟨W1, hW1⟩ : ∃ W1, (w.alloc (.cells #[.string l, .slice ea en ec, .string s, .string r, .slice va vn vc, .slice xa xn xc, .slice pa pn pc, .string g] 31)).alloc (.cells #[.string ByteArray.empty, .slice none 0 0, .string ByteArray.empty, .string ByteArray.empty, .slice none 0 0, .slice none 0 0, .slice none 0 0, .string ByteArray.empty] 31) = W1 := ⟨_, rfl⟩
  have hb1 : Below w.heap.size w W1 := by rw [← hW1]; exact ((Below.refl _ w).alloc (Nat.le_refl _) _).alloc (by simp) _
  have hA1 : W1.heap[w.heap.size]? = some (.cells #[.string l, .slice ea en ec, .string s, .string r, .slice va vn vc, .slice xa xn xc, .slice pa pn pc, .string g] 31 (0, 0)) := by rw [← hW1]; exact (Below.heap_alloc _ _ _ (by simp)).trans (World.alloc_heap_new w _)
  have hR1 : W1.heap[w.heap.size + 1]? = some (.cells #[.string ByteArray.empty, .slice none 0 0, .string ByteArray.empty, .string ByteArray.empty, .slice none 0 0, .slice none 0 0, .slice none 0 0, .string ByteArray.empty] 31 (0, 0)) := by rw [← hW1]; exact heap_alloc2_new w _ _
  have hT1 := hT.below hb1
  have hbe : be ≤ w.heap.size := by have := hT.h1; have := hT.h2; have := hT.h3; have := hT.h4; omega
  have hs1 := hb1.size
  have hHB := Lib.hid hb1
  have HT := Lib.hid hT1
  clear hT hT1 hb1
  obtain ⟨d0, d1, d2, d3, d4, d5, d6, d7⟩ := tag_cells hA1; have df0 := cells_frozen 0 hA1; have df1 := cells_frozen 1 hA1; have df2 := cells_frozen 2 hA1; have df3 := cells_frozen 3 hA1; have df4 := cells_frozen 4 hA1; have df5 := cells_frozen 5 hA1; have df6 := cells_frozen 6 hA1; have df7 := cells_frozen 7 hA1
  obtain ⟨q0, q1, q2, q3, q4, q5, q6, q7⟩ := tag_cells hR1; have qf0 := cells_frozen 0 hR1; have qf1 := cells_frozen 1 hR1; have qf2 := cells_frozen 2 hR1; have qf3 := cells_frozen 3 hR1; have qf4 := cells_frozen 4 hR1; have qf5 := cells_frozen 5 hR1; have qf6 := cells_frozen 6 hR1; have qf7 := cells_frozen 7 hR1
  go_enter Tryz.func27, Tryz.ntmps27
  go_upto_region 1 with fail
  change Code.wp _ _ _ _ (World.alloc (World.alloc _ (.cells #[.string l, .slice ea en ec, .string s, .string r, .slice va vn vc, .slice xa xn xc, .slice pa pn pc, .string g] _)) (.cells #[.string ByteArray.empty, .slice none 0 0, .string ByteArray.empty, .string ByteArray.empty, .slice none 0 0, .slice none 0 0, .slice none 0 0, .string ByteArray.empty] _))
  rw [hW1]
  clear hW1
  go_wp2_with fail
  obtain ⟨hk1, hk2⟩ := tag_store hR1 (.string l) (.slice ea en ec) (.string s) (.string r) (.slice va vn vc) (.slice xa xn xc) (.slice pa pn pc) (.string g)
  refine bodyPost_ret (results_cell_row rfl _ _ (w.heap.size + 1) 31 _ (0, 0) _ rfl hk1 Tryz.underlying31 rfl tagSize) rfl ?_
  exact ⟨_, _, _, _, rfl, ⟨_, _, _, _, (HT.out.keptTag hR1 hk2).made⟩, (hHB.out.mono hbe).trans (grown_below hk2 (by omega) (fun g hg => by cases hg; omega))⟩


set_option maxRecDepth 100000 in
set_option maxHeartbeats 4000000 in
theorem spoilt_10 (l s r g : ByteArray) (ve vv vx vp : Value) (E V : List ByteArray) (X : List (ByteArray × List ByteArray)) (P : List ByteArray) (be bv bx bp : Nat) (w : World) (hT : TagMade w be bv bx bp ve vv vx vp E V X P) :
    Calls Tryz.prog 27 #[.agg #[.string l, ve, .string s, .string r, vv, vx, vp, .string g], .int .i64 10] w fun e w' => ∃ ue uv ux up, e = .returned (.agg #[.string (TagM.lang ⟨l, E, s, r, V, X, P, g⟩), ue, .string (TagM.script ⟨l, E, s, r, V, X, P, g⟩), .string (TagM.region ⟨l, E, s, r, V, X, P, g⟩), uv, ux, up, .string (TagM.grand ⟨l, E, s, r, V, X, P, g⟩)]) ∧ (∃ b1 b2 b3 b4, Made4 w' b1 b2 b3 b4 ue uv ux up (TagM.extl ⟨l, E, s, r, V, X, P, g⟩) (TagM.vars ⟨l, E, s, r, V, X, P, g⟩) (TagM.exts ⟨l, E, s, r, V, X, P, g⟩) (TagM.priv ⟨l, E, s, r, V, X, P, g⟩)) ∧ Below be w w' := by
  obtain ⟨ea, en, ec, rfl⟩ := own_slice hT.e
  obtain ⟨va, vn, vc, rfl⟩ := own_slice hT.v
  obtain ⟨pa, pn, pc, rfl⟩ := own_slice hT.p
  obtain ⟨xa, xn, xc, rfl⟩ : ∃ ao n c, vx = .slice ao n c := by obtain ⟨us, _, h, _⟩ := hT.x; exact own_slice h
  obtain ⟨W1, hW1⟩ : ∃ W1, (w.alloc (.cells #[.string l, .slice ea en ec, .string s, .string r, .slice va vn vc, .slice xa xn xc, .slice pa pn pc, .string g] 31)).alloc (.cells #[.string ByteArray.empty, .slice none 0 0, .string ByteArray.empty, .string ByteArray.empty, .slice none 0 0, .slice none 0 0, .slice none 0 0, .string ByteArray.empty] 31) = W1 := ⟨_, rfl⟩
  have hb1 : Below w.heap.size w W1 := by rw [← hW1]; exact ((Below.refl _ w).alloc (Nat.le_refl _) _).alloc (by simp) _
  have hA1 : W1.heap[w.heap.size]? = some (.cells #[.string l, .slice ea en ec, .string s, .string r, .slice va vn vc, .slice xa xn xc, .slice pa pn pc, .string g] 31 (0, 0)) := by rw [← hW1]; exact (Below.heap_alloc _ _ _ (by simp)).trans (World.alloc_heap_new w _)
  have hR1 : W1.heap[w.heap.size + 1]? = some (.cells #[.string ByteArray.empty, .slice none 0 0, .string ByteArray.empty, .string ByteArray.empty, .slice none 0 0, .slice none 0 0, .slice none 0 0, .string ByteArray.empty] 31 (0, 0)) := by rw [← hW1]; exact heap_alloc2_new w _ _
  have hT1 := hT.below hb1
  have hbe : be ≤ w.heap.size := by have := hT.h1; have := hT.h2; have := hT.h3; have := hT.h4; omega
  have hs1 := hb1.size
  have hHB := Lib.hid hb1
  have HT := Lib.hid hT1
  clear hT hT1 hb1
  obtain ⟨d0, d1, d2, d3, d4, d5, d6, d7⟩ := tag_cells hA1; have df0 := cells_frozen 0 hA1; have df1 := cells_frozen 1 hA1; have df2 := cells_frozen 2 hA1; have df3 := cells_frozen 3 hA1; have df4 := cells_frozen 4 hA1; have df5 := cells_frozen 5 hA1; have df6 := cells_frozen 6 hA1; have df7 := cells_frozen 7 hA1
  obtain ⟨q0, q1, q2, q3, q4, q5, q6, q7⟩ := tag_cells hR1; have qf0 := cells_frozen 0 hR1; have qf1 := cells_frozen 1 hR1; have qf2 := cells_frozen 2 hR1; have qf3 := cells_frozen 3 hR1; have qf4 := cells_frozen 4 hR1; have qf5 := cells_frozen 5 hR1; have qf6 := cells_frozen 6 hR1; have qf7 := cells_frozen 7 hR1
  go_enter Tryz.func27, Tryz.ntmps27
  go_upto_region 1 with fail
  change Code.wp _ _ _ _ (World.alloc (World.alloc _ (.cells #[.string l, .slice ea en ec, .string s, .string r, .slice va vn vc, .slice xa xn xc, .slice pa pn pc, .string g] _)) (.cells #[.string ByteArray.empty, .slice none 0 0, .string ByteArray.empty, .string ByteArray.empty, .slice none 0 0, .slice none 0 0, .slice none 0 0, .string ByteArray.empty] _))
  rw [hW1]
  clear hW1
  go_wp2_with fail
  obtain ⟨hk1, hk2⟩ := tag_store hR1 (.string l) (.slice ea en ec) (.string s) (.string r) (.slice va vn vc) (.slice xa xn xc) (.slice pa pn pc) (.string g)
  refine bodyPost_ret (results_cell_row rfl _ _ (w.heap.size + 1) 31 _ (0, 0) _ rfl hk1 Tryz.underlying31 rfl tagSize) rfl ?_
  exact ⟨_, _, _, _, rfl, ⟨_, _, _, _, (HT.out.keptTag hR1 hk2).made⟩, (hHB.out.mono hbe).trans (grown_below hk2 (by omega) (fun g hg => by cases hg; omega))⟩


set_option maxRecDepth 100000 in
set_option maxHeartbeats 4000000 in
theorem spoilt_11 (l s r g : ByteArray) (ve vv vx vp : Value) (E V : List ByteArray) (X : List (ByteArray × List ByteArray)) (P : List ByteArray) (be bv bx bp : Nat) (w : World) (hT : TagMade w be bv bx bp ve vv vx vp E V X P) :
    Calls Tryz.prog 27 #[.agg #[.string l, ve, .string s, .string r, vv, vx, vp, .string g], .int .i64 11] w fun e w' => ∃ ue uv ux up, e = .returned (.agg #[.string (TagM.lang ⟨l, E, s, r, V, X, P, g⟩), ue, .string (TagM.script ⟨l, E, s, r, V, X, P, g⟩), .string (TagM.region ⟨l, E, s, r, V, X, P, g⟩), uv, ux, up, .string (TagM.grand ⟨l, E, s, r, V, X, P, g⟩)]) ∧ (∃ b1 b2 b3 b4, Made4 w' b1 b2 b3 b4 ue uv ux up (TagM.extl ⟨l, E, s, r, V, X, P, g⟩) (TagM.vars ⟨l, E, s, r, V, X, P, g⟩) (TagM.exts ⟨l, E, s, r, V, X, P, g⟩) (TagM.priv ⟨l, E, s, r, V, X, P, g⟩)) ∧ Below be w w' := by
  obtain ⟨ea, en, ec, rfl⟩ := own_slice hT.e
  obtain ⟨va, vn, vc, rfl⟩ := own_slice hT.v
  obtain ⟨pa, pn, pc, rfl⟩ := own_slice hT.p
  obtain ⟨xa, xn, xc, rfl⟩ : ∃ ao n c, vx = .slice ao n c := by obtain ⟨us, _, h, _⟩ := hT.x; exact own_slice h
  obtain ⟨W1, hW1⟩ : ∃ W1, (w.alloc (.cells #[.string l, .slice ea en ec, .string s, .string r, .slice va vn vc, .slice xa xn xc, .slice pa pn pc, .string g] 31)).alloc (.cells #[.string ByteArray.empty, .slice none 0 0, .string ByteArray.empty, .string ByteArray.empty, .slice none 0 0, .slice none 0 0, .slice none 0 0, .string ByteArray.empty] 31) = W1 := ⟨_, rfl⟩
  have hb1 : Below w.heap.size w W1 := by rw [← hW1]; exact ((Below.refl _ w).alloc (Nat.le_refl _) _).alloc (by simp) _
  have hA1 : W1.heap[w.heap.size]? = some (.cells #[.string l, .slice ea en ec, .string s, .string r, .slice va vn vc, .slice xa xn xc, .slice pa pn pc, .string g] 31 (0, 0)) := by rw [← hW1]; exact (Below.heap_alloc _ _ _ (by simp)).trans (World.alloc_heap_new w _)
  have hR1 : W1.heap[w.heap.size + 1]? = some (.cells #[.string ByteArray.empty, .slice none 0 0, .string ByteArray.empty, .string ByteArray.empty, .slice none 0 0, .slice none 0 0, .slice none 0 0, .string ByteArray.empty] 31 (0, 0)) := by rw [← hW1]; exact heap_alloc2_new w _ _
  have hT1 := hT.below hb1
  have hbe : be ≤ w.heap.size := by have := hT.h1; have := hT.h2; have := hT.h3; have := hT.h4; omega
  have hs1 := hb1.size
  have hHB := Lib.hid hb1
  have HT := Lib.hid hT1
  clear hT hT1 hb1
  obtain ⟨d0, d1, d2, d3, d4, d5, d6, d7⟩ := tag_cells hA1; have df0 := cells_frozen 0 hA1; have df1 := cells_frozen 1 hA1; have df2 := cells_frozen 2 hA1; have df3 := cells_frozen 3 hA1; have df4 := cells_frozen 4 hA1; have df5 := cells_frozen 5 hA1; have df6 := cells_frozen 6 hA1; have df7 := cells_frozen 7 hA1
  obtain ⟨q0, q1, q2, q3, q4, q5, q6, q7⟩ := tag_cells hR1; have qf0 := cells_frozen 0 hR1; have qf1 := cells_frozen 1 hR1; have qf2 := cells_frozen 2 hR1; have qf3 := cells_frozen 3 hR1; have qf4 := cells_frozen 4 hR1; have qf5 := cells_frozen 5 hR1; have qf6 := cells_frozen 6 hR1; have qf7 := cells_frozen 7 hR1
  go_enter Tryz.func27, Tryz.ntmps27
  go_upto_region 1 with fail
  change Code.wp _ _ _ _ (World.alloc (World.alloc _ (.cells #[.string l, .slice ea en ec, .string s, .string r, .slice va vn vc, .slice xa xn xc, .slice pa pn pc, .string g] _)) (.cells #[.string ByteArray.empty, .slice none 0 0, .string ByteArray.empty, .string ByteArray.empty, .slice none 0 0, .slice none 0 0, .slice none 0 0, .string ByteArray.empty] _))
  rw [hW1]
  clear hW1
  go_wp2_with fail
  obtain ⟨hk1, hk2⟩ := tag_store hR1 (.string l) (.slice ea en ec) (.string s) (.string r) (.slice va vn vc) (.slice xa xn xc) (.slice pa pn pc) (.string g)
  refine bodyPost_ret (results_cell_row rfl _ _ (w.heap.size + 1) 31 _ (0, 0) _ rfl hk1 Tryz.underlying31 rfl tagSize) rfl ?_
  exact ⟨_, _, _, _, rfl, ⟨_, _, _, _, (HT.out.keptTag hR1 hk2).made⟩, (hHB.out.mono hbe).trans (grown_below hk2 (by omega) (fun g hg => by cases hg; omega))⟩


theorem spoilt_ref (l s r g : ByteArray) (ve vv vx vp : Value) (E V : List ByteArray) (X : List (ByteArray × List ByteArray)) (P : List ByteArray) (be bv bx bp : Nat) (w : World) (hT : TagMade w be bv bx bp ve vv vx vp E V X P) (hl : l.size ≤ 1000) (hV : V.length ≤ 1000) (hX : X.length ≤ 1000) (hP : P.length ≤ 1000) (m : Nat) (hm : m < 12) :
    Calls Tryz.prog 27 #[.agg #[.string l, ve, .string s, .string r, vv, vx, vp, .string g], .int .i64 (m : Int)] w fun e w' => ∃ ue uv ux up, e = .returned (.agg #[.string (spoiltT ⟨l, E, s, r, V, X, P, g⟩ m).lang, ue, .string (spoiltT ⟨l, E, s, r, V, X, P, g⟩ m).script, .string (spoiltT ⟨l, E, s, r, V, X, P, g⟩ m).region, uv, ux, up, .string (spoiltT ⟨l, E, s, r, V, X, P, g⟩ m).grand]) ∧ (∃ b1 b2 b3 b4, Made4 w' b1 b2 b3 b4 ue uv ux up (spoiltT ⟨l, E, s, r, V, X, P, g⟩ m).extl (spoiltT ⟨l, E, s, r, V, X, P, g⟩ m).vars (spoiltT ⟨l, E, s, r, V, X, P, g⟩ m).exts (spoiltT ⟨l, E, s, r, V, X, P, g⟩ m).priv) ∧ Below be w w' := by
  have h12 : m = 0 ∨ m = 1 ∨ m = 2 ∨ m = 3 ∨ m = 4 ∨ m = 5 ∨ m = 6 ∨ m = 7 ∨ m = 8 ∨ m = 9 ∨ m = 10 ∨ m = 11 := by omega
  rcases h12 with rfl | rfl | rfl | rfl | rfl | rfl | rfl | rfl | rfl | rfl | rfl | rfl
  · exact spoilt_0 l s r g ve vv vx vp E V X P be bv bx bp w hT
  · exact spoilt_1 l s r g ve vv vx vp E V X P be bv bx bp w hT hV
  · exact spoilt_2 l s r g ve vv vx vp E V X P be bv bx bp w hT hl
  · exact spoilt_3 l s r g ve vv vx vp E V X P be bv bx bp w hT hX
  · exact spoilt_4 l s r g ve vv vx vp E V X P be bv bx bp w hT
  · exact spoilt_5 l s r g ve vv vx vp E V X P be bv bx bp w hT
  · exact spoilt_6 l s r g ve vv vx vp E V X P be bv bx bp w hT hP
  · exact spoilt_7 l s r g ve vv vx vp E V X P be bv bx bp w hT hX
  · exact spoilt_8 l s r g ve vv vx vp E V X P be bv bx bp w hT
  · exact spoilt_9 l s r g ve vv vx vp E V X P be bv bx bp w hT
  · exact spoilt_10 l s r g ve vv vx vp E V X P be bv bx bp w hT
  · exact spoilt_11 l s r g ve vv vx vp E V X P be bv bx bp w hT
end Go.Proofs.YtpnhjpplfjamkaaGreatDoor
