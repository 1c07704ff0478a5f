/-
  Package fault: the iterator that faults hands back: it ranges over row's.
-/
import Derived.Test.YtjajlfcmmgdfcaaDoorRow
import Derived.Shelf.Abstract
namespace Go.Proofs.YtjajlfcmmgdfcaaDoor
open Go Go.RowKit

attribute [local go_sem] Oper.semAt_some

/-- What the inner loop keeps between two rounds. -/
def FaI (J : List (Nat × Int × ByteArray) → World → Prop) (B l : Nat) (pre : List El) (W : World) : Prop := J (fsOf pre) W ∧ W.heap[B]? = some (.cells #[.func (.yield l) #[] #[]] 71 (0, 0))
def FaX (Jx : List (Nat × Int × ByteArray) → World → Prop) (c : Code) (pre : List El) (W : World) : Prop := c = .ret ∧ Jx (fsOf pre) W

set_option maxRecDepth 100000 in
set_option maxHeartbeats 2000000 in
theorem faults_in (n l n₀ Bn hi : Nat) (fr : Obj → Bool) (hfr : ∀ o, fr o = true → o.isCells = true) (hfr2 : ∀ cs mk, fr (.cells cs 71 mk) = false) (v : Value) (xs : List El) (hlen : xs.length < 1048576) (J Jx : List (Nat × Int × ByteArray) → World → Prop)
    (hJ : OwnFrom hi J) (hJx : OwnFrom hi Jx)
    (hY : ∀ pre x W, J pre W → pre ++ [x] <+: fsOf xs → YieldAt Fence.wide (n - 1) Tryd.prog l #[.pointer (some ⟨x.1, 0, none⟩)] W fun e W' =>
      (e = .returned (.bool true) ∧ J (pre ++ [x]) W' ∧ Keep n₀ hi fr W W') ∨ (e = .returned (.bool false) ∧ Jx (pre ++ [x]) W' ∧ Keep n₀ hi fr W W'))
    (W : World) (hhi : hi = W.heap.size) (hn₀ : n₀ ≤ W.heap.size) (hBn : W.cell? ⟨Bn, 0, none⟩ = some v) (hL : Chain W n₀ v xs) (h0 : J [] W) :
    CallsIn Fence.wide n Tryd.prog 41 #[.func (.yield l) #[] #[], .pointer (some ⟨Bn, 0, none⟩)] W fun e W' => (∃ v, e = .returned v) ∧
      ((∃ ys, ys = fsOf xs ∧ J ys W') ∨ (∃ pre, pre <+: fsOf xs ∧ Jx pre W')) := by
  refine callsIn_of_wp_marks Tryd.func41 rfl trivial ?_ rfl
  simp only [Tryd.ntmps41, List.size_toArray, List.length_cons, List.length_nil, Nat.reduceAdd, Nat.reduceSub, Array.replicate_succ, Array.replicate_zero, List.push_toArray, List.append_toArray, List.nil_append, List.cons_append]
  have hv : v = .nilIface ∨ ∃ t u, v = .iface t u := by
    cases xs with
    | nil => exact .inl hL
    | cons x r => cases x <;> exact .inr ⟨_, _, hL.head⟩
  have hBl := lt_of_cell hBn
  have hrow : ∀ w, Calls Tryd.prog 31 #[v] w fun e w' => e = .returned (.func (.func 42) #[] #[.pointer (some ⟨w.heap.size, 0, none⟩)]) ∧ w.alloc (.cells #[v] 35) = w' := by
    rcases hv with rfl | ⟨t, u, rfl⟩
    · exact row_make_nil
    · exact row_make t u
  have HR := Lib.hid hrow
  clear hrow
  gi_wp2_with fail
  refine ⟨trivial, fun h => (by simp [Fence.wide] at h), (callsIn_wide.2 (HR.out _)).mono ?_⟩
  rintro e w' ⟨rfl, rfl⟩
  gi_wp2_with fail
  have hbox : ((W.alloc (.cells #[.func (.yield l) #[] #[]] 71)).alloc (.cells #[v] 35)).heap[W.heap.size]? = some (.cells #[.func (.yield l) #[] #[]] 71 (0, 0)) := by
    rw [Below.heap_alloc _ _ _ (by simp)]; show (W.heap.push _)[W.heap.size]? = _; simp
  have hbox2 : ((W.alloc (.cells #[.func (.yield l) #[] #[]] 71)).alloc (.cells #[v] 35)).cell? ⟨W.heap.size + 1, 0, none⟩ = some v := by
    rw [World.cell?_alloc_at _ _ _ _ (by simp)]; rfl
  have hb2 : Below W.heap.size W ((W.alloc (.cells #[.func (.yield l) #[] #[]] 71)).alloc (.cells #[v] 35)) := ((Below.refl _ W).alloc (Nat.le_refl _) _).alloc (by simp) _
  have hs2 : ((W.alloc (.cells #[.func (.yield l) #[] #[]] 71)).alloc (.cells #[v] 35)).heap.size = W.heap.size + 2 := by simp
  have hJ2 := hJ _ _ _ none h0 (grown_of_below hb2) (fun r e => (by cases e))
  generalize ((W.alloc (.cells #[.func (.yield l) #[] #[]] 71)).alloc (.cells #[v] 35)) = W2 at *
  have hL2 : Chain W2 n₀ v xs := hL.below hb2 hn₀
  have hseq := row_seq (fr := fr) (w := W2) hlen (by omega) hbox2 hL2
  have hIown : OwnFrom W2.heap.size (FaI J W.heap.size l) := fun s A B row hs hg hr =>
    ⟨hJ _ A B row hs.1 hg (fun r e => ⟨by have := (hr r e).1; omega, (hr r e).2⟩), ownFrom_block (β := Unit) (by omega) () A B row hs.2 hg hr⟩
  have hXown : ∀ c, OwnFrom W2.heap.size (FaX Jx c) := fun c s A B row hs hg hr =>
    ⟨hs.1, hJx _ A B row hs.2 hg (fun r e => ⟨by have := (hr r e).1; omega, (hr r e).2⟩)⟩
  refine rangeZ (gf := 42) (lb := #[.pointer (some ⟨W.heap.size + 1, 0, none⟩)]) rfl (Go.Proofs.enters_of Tryd.func42 (by kernel_rfl) rfl) hseq hfr (by omega) (fun _ => rfl)
    (FaI J W.heap.size l) (FaX Jx) hIown hXown ⟨hJ2, hbox⟩
    (fun x => { tmps := #[.func (.yield l) #[] #[], .pointer (some ⟨Bn, 0, none⟩), .pointer (some ⟨W.heap.size, 0, none⟩), x.val, undef, undef, v,
          .func (.func 42) #[] #[.pointer (some ⟨W.heap.size + 1, 0, none⟩)], x.val, undef, undef, undef, undef, undef, undef, undef, undef, undef, undef, undef, undef, undef, undef, undef, undef], defers := [] })
    ?assign ?body ?done ?stop
  case assign =>
    intro l' x W3 K hK
    gi_wp2
    exact hK
  case body =>
    rintro l' pre x W3 ⟨hj3, hb3⟩ hpre hsz3
    have hc3 : W3.cell? ⟨W.heap.size, 0, none⟩ = some (.func (.yield l) #[] #[]) := by simp [World.cell?, hb3]
    have HB3 := Lib.hid hb3
    clear hb3
    cases x with
    | num k =>
      have ta := erNoFault
      simp only [El.val]
      gi_wp2
      refine ⟨fun _ h => (by cases h), ?_⟩
      gi_wp2
      exact ⟨Keep.refl _ _ _ _, by simpa [FaI, fsOf_append, fsOf] using ⟨hj3, HB3.out⟩⟩
    | fault b p s =>
      have ta := faFault
      have hfp : fsOf pre ++ [(b, p, s)] <+: fsOf xs := by have := fsOf_prefix hpre; rwa [fsOf_append] at this
      have hfe : fsOf (pre ++ [.fault b p s]) = fsOf pre ++ [(b, p, s)] := by rw [fsOf_append]; rfl
      obtain ⟨fn, tmps, assign, body, hy, hR⟩ := yield_any (k := n - 1 - 1 - 1) (hY (fsOf pre) (b, p, s) W3 hj3 hfp)
      dsimp only at hy
      have HE := Lib.hid hfe
      clear hfe
      simp only [El.val]
      gi_wp2
      refine ⟨fun h => (by simp [Fence.wide] at h), ?_⟩
      refine RoundIn.mono hR ?_
      rintro e W4 (⟨rfl, hJ4, hk4⟩ | ⟨rfl, hJx4, hk4⟩)
      · gi_wp2
        exact ⟨hk4.mono (Nat.le_refl _) (by omega), by rw [HE.out]; exact hJ4, hk4.blk _ _ HB3.out (.inr ⟨by omega, hfr2 _ _⟩)⟩
      · gi_wp2
        exact ⟨hk4.mono (Nat.le_refl _) (by omega), rfl, by rw [HE.out]; exact hJx4⟩
  case done =>
    rintro D ys W3 hD rfl ⟨hj3, hb3⟩ hK
    gi_wp2
    refine ⟨by simp, .inl ⟨_, _, rfl, run_takeDeferred hK, ?_⟩⟩
    refine ⟨_, results_none rfl _ _ _, ⟨_, rfl⟩, .inl ⟨_, rfl, hJ.putObj _ hj3 (by omega) hK rfl⟩⟩
  case stop =>
    rintro D c pre W3 hD hpre ⟨rfl, hj3⟩ hK
    gi_wp2
    refine ⟨by simp, .inl ⟨_, _, rfl, run_takeDeferred hK, ?_⟩⟩
    refine ⟨_, results_none rfl _ _ _, ⟨_, rfl⟩, .inr ⟨_, fsOf_prefix hpre, hJx.putObj _ hj3 (by omega) hK rfl⟩⟩

theorem faults_seq {fr : Obj → Bool} (hfr : ∀ o, fr o = true → o.isCells = true) (hfr2 : ∀ cs mk, fr (.cells cs 71 mk) = false) {n₀ Bn : Nat} {v : Value} {xs : List El} {w : World} (hlen : xs.length < 1048576) (hn₀ : n₀ ≤ w.heap.size) (hBn : w.cell? ⟨Bn, 0, none⟩ = some v) (hL : Chain w n₀ v xs) :
    SeqZ Tryd.prog 41 #[.pointer (some ⟨Bn, 0, none⟩)] (fun x : Nat × Int × ByteArray => #[.pointer (some ⟨x.1, 0, none⟩)]) n₀ fr (fun ys => ys = fsOf xs) (fun pre => pre <+: fsOf xs) w := fun n l J Jx W hW hJ hJx hY h0 =>
  faults_in n l n₀ Bn W.heap.size fr hfr hfr2 v xs hlen J Jx hJ hJx hY W rfl (Nat.le_trans hn₀ hW.size) ((hW.cell (p := ⟨Bn, 0, none⟩) (lt_of_cell hBn)).trans hBn) (hL.below hW hn₀) h0
end Go.Proofs.YtjajlfcmmgdfcaaDoor
