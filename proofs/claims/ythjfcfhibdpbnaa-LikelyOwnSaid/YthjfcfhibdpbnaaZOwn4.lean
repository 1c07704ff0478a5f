/-
  The document's spoilt of layer 13: what it gives, as far as memory and sizes go. (Printed by wip/gen_zspoilt.py.)
-/
import Derived.Test.YthjfcfhibdpbnaaZRule
namespace Go.Proofs.Ythjfcfhibdpbnaa
open Go Go.RowKit

theorem alInfo : (Try.prog.info? 54).map (fun i => (i.zero, i.size, i.bytes)) = some (some (.agg #[.int .i64 0, .string ByteArray.empty, .string ByteArray.empty, .string ByteArray.empty, .string ByteArray.empty, .string ByteArray.empty]), 6, 88) := by kernel_rfl
theorem lkInfo : (Try.prog.info? 61).map (fun i => (i.zero, i.size, i.bytes)) = some (some (.agg #[.string ByteArray.empty, .string ByteArray.empty, .string ByteArray.empty, .string ByteArray.empty, .string ByteArray.empty, .string ByteArray.empty]), 6, 96) := by kernel_rfl
theorem mbInfo : (Try.prog.info? 67).map (fun i => (i.zero, i.size, i.bytes)) = some (some (.agg #[.string ByteArray.empty, .string ByteArray.empty]), 2, 32) := by kernel_rfl
theorem sizeImg : (Try.prog.info? 35).map (·.size) = some 6 := by kernel_rfl
/-- An image's four rows, each the call's own. -/
structure Own4 (W : World) (b : Nat) (im : Im) (va vl vr vm : Value) : Prop where
  a : W.ownsRow b 54 6 va im.als.length ((im.als.map alC).flatMap id)
  l : W.ownsRow b 61 6 vl im.lks.length ((im.lks.map lkC).flatMap id)
  r : W.ownsRow b 64 9 vr im.rls.length ((im.rls.map rlC).flatMap id)
  m : W.ownsRow b 67 2 vm im.mbs.length ((im.mbs.map mbC).flatMap id)
  s : ImS im
theorem own_imgZ {W : World} {b P sz n : Nat} {e t : TypeId} {v : Value} {xs : List Value} {cs : Array Value} {fr : Nat × Nat} (h : W.ownsRow b e sz v n xs) (hP : W.heap[P]? = some (.cells cs t fr)) (he : e ≠ t) : v.ownBlock = none ∨ v.ownBlock ≠ some P := by
  rcases h.2 with ⟨rfl, _⟩ | ⟨g, c, cur, rfl, _, hg, _⟩
  · exact .inl rfl
  · refine .inr fun e' => ?_
    have e' : g = P := by simpa [Value.ownBlock] using e'
    subst e'
    rw [hg] at hP
    injection hP with hP
    injection hP with _ ht _
    exact he ht
theorem own_imgN {W : World} {b P sz n : Nat} {e t : TypeId} {v : Value} {xs : List Value} {cs : Array Value} {fr : Nat × Nat} (h : W.ownsRow b e sz v n xs) (hP : W.heap[P]? = some (.cells cs t fr)) (he : e ≠ t) : some P ≠ v.ownBlock := fun e' => by
  rcases own_imgZ h hP he with h1 | h1
  · rw [h1] at e'; cases e'
  · exact h1 e'.symm
theorem own_infoZ {W : World} {b sz n m c : Nat} {e : TypeId} {a : Option Addr} {xs : List Value} (h : W.ownsRow b e sz (.slice a n c) m xs) (hm : 1 ≤ m) : n = m ∧ n ≤ c ∧ ∃ g, a = some ⟨g, 0, none⟩ := by
  rcases h.2 with ⟨_, h0⟩ | ⟨g, cap, cur, he, _, _, hc, _⟩
  · omega
  · injection he with e1 e2 e3
    subst e1 e2 e3
    exact ⟨rfl, hc, g, rfl⟩
theorem flat_takeZ {sz : Nat} : ∀ {L : List (List Value)} (m : Nat), (∀ c ∈ L, c.length = sz) → (L.flatMap id).take (m * sz) = (L.take m).flatMap id
  | [], m, _ => by simp
  | a :: t, 0, _ => by simp
  | a :: t, m + 1, h => by
    have ha := h a List.mem_cons_self
    rw [List.flatMap_cons, List.take_succ_cons, List.flatMap_cons, List.take_append, show (m + 1) * sz - (id a).length = m * sz by show (m + 1) * sz - a.length = _; rw [ha, Nat.succ_mul]; omega, flat_takeZ m (fun c hc => h c (List.mem_cons_of_mem _ hc)), List.take_of_length_le (by show a.length ≤ _; rw [ha, Nat.succ_mul]; omega)]
theorem own_cutZ {W : World} {b m c : Nat} {g : Nat} {im : Im} {va vl vm : Value} (h : Own4 W b im va vl (.slice (some ⟨g, 0, none⟩) (m + 1) c) vm) (he : m + 1 = im.rls.length) : Own4 W b { im with rls := im.rls.take (im.rls.length - 1) } va vl (.slice (some ⟨g, 0, none⟩) m c) vm := by
  rw [show im.rls.length - 1 = m by omega]
  refine { a := h.a, l := h.l, m := h.m, r := ?_, s := { h.s with rls := fun x hx => h.s.rls x (List.mem_of_mem_take hx) } }
  have hl : (im.rls.take m).length = m := by rw [List.length_take]; omega
  show W.ownsRow b 64 9 _ (im.rls.take m).length (((im.rls.take m).map rlC).flatMap id)
  rw [hl, List.map_take, ← flat_takeZ m (rlC_all _)]
  have hr := h.r
  rw [← he] at hr
  refine ⟨by rw [List.length_take, hr.1]; omega, .inr ?_⟩
  rcases hr.2 with ⟨h0, _⟩ | ⟨g', cap, cur, he', k1, k2, k3, k4, k5, k6⟩
  · cases h0
  · injection he' with e1 e2 e3
    injection e1 with e1
    injection e1 with e1
    subst e1 e3
    refine ⟨g, c, cur, rfl, k1, k2, by omega, k4, k5, ?_⟩
    rw [← k6, List.take_take, Nat.min_eq_left (Nat.mul_le_mul_right 9 (Nat.le_succ m))]
theorem Own4.below {W W' : World} {b : Nat} {im : Im} {va vl vr vm : Value} (h : Own4 W b im va vl vr vm) (hb : Below W.heap.size W W') : Own4 W' b im va vl vr vm := ⟨own_belowW h.a hb, own_belowW h.l hb, own_belowW h.r hb, own_belowW h.m hb, h.s⟩
theorem Own4.kept {W W' : World} {b P : Nat} {im : Im} {va vl vr vm : Value} {cs : Array Value} {fr : Nat × Nat} (h : Own4 W b im va vl vr vm) (hg : W.grownBy W' (some P)) (hP : W.heap[P]? = some (.cells cs 35 fr)) : Own4 W' b im va vl vr vm :=
  ⟨h.a.kept hg (own_imgZ h.a hP (by decide)), h.l.kept hg (own_imgZ h.l hP (by decide)), h.r.kept hg (own_imgZ h.r hP (by decide)), h.m.kept hg (own_imgZ h.m hP (by decide)), h.s⟩
theorem Own4.rows {W : World} {b : Nat} {im : Im} {va vl vr vm : Value} (h : Own4 W b im va vl vr vm) : ImR W va vl vr vm im :=
  ⟨rowC_own (by rw [List.length_map]; exact h.a) (alC_all _), rowC_own (by rw [List.length_map]; exact h.l) (lkC_all _), rowC_own (by rw [List.length_map]; exact h.r) (rlC_all _), rowC_own (by rw [List.length_map]; exact h.m) (mbC_all _)⟩
theorem MkI.four {W0 wr : World} {B : Nat} {im : Im} {va vl vr vm : Value} (h : MkI W0 wr B im va vl vr vm) : Own4 wr (B + 1) im va vl vr vm := ⟨h.a, h.l, h.r, h.m, h.s⟩
theorem Own4.pushA {wr w2 : World} {b n : Nat} {im : Im} {va vl vr vm v' : Value} {o : Obj} {xs : List Al} (h : Own4 wr b im va vl vr vm) (hg : (wr.alloc o).grownBy w2 va.ownBlock)
    (h1 : w2.ownsRow b 54 6 v' n ((im.als.map alC).flatMap id ++ (xs.map alC).flatMap id)) (hn : n = im.als.length + xs.length) (hx : ∀ x ∈ xs, AlS x) : Own4 w2 b { im with als := im.als ++ xs } v' vl vr vm := by
  subst hn
  refine { a := ?_, l := (h.l.alloc o).kept hg (own_typesZ (h.l.alloc o) (h.a.alloc o) (by decide)), r := (h.r.alloc o).kept hg (own_typesZ (h.r.alloc o) (h.a.alloc o) (by decide)), m := (h.m.alloc o).kept hg (own_typesZ (h.m.alloc o) (h.a.alloc o) (by decide)), s := { h.s with als := fun x hm => ?_ } }
  · show w2.ownsRow b 54 6 v' (im.als ++ xs).length (((im.als ++ xs).map alC).flatMap id)
    rw [List.length_append, List.map_append, List.flatMap_append]
    exact h1
  · rcases List.mem_append.1 hm with hm | hm
    · exact h.s.als x hm
    · exact hx x hm
theorem Own4.pushL {wr w2 : World} {b n : Nat} {im : Im} {va vl vr vm v' : Value} {o : Obj} {xs : List Lk} (h : Own4 wr b im va vl vr vm) (hg : (wr.alloc o).grownBy w2 vl.ownBlock)
    (h1 : w2.ownsRow b 61 6 v' n ((im.lks.map lkC).flatMap id ++ (xs.map lkC).flatMap id)) (hn : n = im.lks.length + xs.length) (hx : ∀ x ∈ xs, LkS x) : Own4 w2 b { im with lks := im.lks ++ xs } va v' vr vm := by
  subst hn
  refine { l := ?_, a := (h.a.alloc o).kept hg (own_typesZ (h.a.alloc o) (h.l.alloc o) (by decide)), r := (h.r.alloc o).kept hg (own_typesZ (h.r.alloc o) (h.l.alloc o) (by decide)), m := (h.m.alloc o).kept hg (own_typesZ (h.m.alloc o) (h.l.alloc o) (by decide)), s := { h.s with lks := fun x hm => ?_ } }
  · show w2.ownsRow b 61 6 v' (im.lks ++ xs).length (((im.lks ++ xs).map lkC).flatMap id)
    rw [List.length_append, List.map_append, List.flatMap_append]
    exact h1
  · rcases List.mem_append.1 hm with hm | hm
    · exact h.s.lks x hm
    · exact hx x hm
theorem Own4.pushR {wr w2 : World} {b n : Nat} {im : Im} {va vl vr vm v' : Value} {o : Obj} {xs : List Rl} (h : Own4 wr b im va vl vr vm) (hg : (wr.alloc o).grownBy w2 vr.ownBlock)
    (h1 : w2.ownsRow b 64 9 v' n ((im.rls.map rlC).flatMap id ++ (xs.map rlC).flatMap id)) (hn : n = im.rls.length + xs.length) (hx : ∀ x ∈ xs, RlS x) : Own4 w2 b { im with rls := im.rls ++ xs } va vl v' vm := by
  subst hn
  refine { r := ?_, a := (h.a.alloc o).kept hg (own_typesZ (h.a.alloc o) (h.r.alloc o) (by decide)), l := (h.l.alloc o).kept hg (own_typesZ (h.l.alloc o) (h.r.alloc o) (by decide)), m := (h.m.alloc o).kept hg (own_typesZ (h.m.alloc o) (h.r.alloc o) (by decide)), s := { h.s with rls := fun x hm => ?_ } }
  · show w2.ownsRow b 64 9 v' (im.rls ++ xs).length (((im.rls ++ xs).map rlC).flatMap id)
    rw [List.length_append, List.map_append, List.flatMap_append]
    exact h1
  · rcases List.mem_append.1 hm with hm | hm
    · exact h.s.rls x hm
    · exact hx x hm
theorem Own4.pushM {wr w2 : World} {b n : Nat} {im : Im} {va vl vr vm v' : Value} {o : Obj} {xs : List Mb} (h : Own4 wr b im va vl vr vm) (hg : (wr.alloc o).grownBy w2 vm.ownBlock)
    (h1 : w2.ownsRow b 67 2 v' n ((im.mbs.map mbC).flatMap id ++ (xs.map mbC).flatMap id)) (hn : n = im.mbs.length + xs.length) (hx : ∀ x ∈ xs, MbS x) : Own4 w2 b { im with mbs := im.mbs ++ xs } va vl vr v' := by
  subst hn
  refine { m := ?_, a := (h.a.alloc o).kept hg (own_typesZ (h.a.alloc o) (h.m.alloc o) (by decide)), l := (h.l.alloc o).kept hg (own_typesZ (h.l.alloc o) (h.m.alloc o) (by decide)), r := (h.r.alloc o).kept hg (own_typesZ (h.r.alloc o) (h.m.alloc o) (by decide)), s := { h.s with mbs := fun x hm => ?_ } }
  · show w2.ownsRow b 67 2 v' (im.mbs ++ xs).length (((im.mbs ++ xs).map mbC).flatMap id)
    rw [List.length_append, List.map_append, List.flatMap_append]
    exact h1
  · rcases List.mem_append.1 hm with hm | hm
    · exact h.s.mbs x hm
    · exact hx x hm

/-- What spoilt makes of an image. -/
def spI (im : Im) (odd : Nat) : Im :=
  match odd with
  | 1 => { im with als := im.als ++ [⟨4, ⟨#[113, 113, 113, 113]⟩, ⟨#[]⟩, ⟨#[]⟩, ⟨#[108, 97, 116, 110]⟩, ⟨#[]⟩⟩, ⟨4, ⟨#[113, 113, 113, 113]⟩, ⟨#[]⟩, ⟨#[]⟩, ⟨#[97, 114, 97, 98]⟩, ⟨#[]⟩⟩] }
  | 2 => { im with lks := im.lks ++ [⟨⟨#[106, 97]⟩, ⟨#[]⟩, ⟨#[]⟩, ⟨#[106, 97]⟩, ⟨#[]⟩, ⟨#[106, 112]⟩⟩] }
  | 3 => { im with rls := im.rls ++ [⟨4, 0, false, ⟨#[]⟩, ⟨#[]⟩, ⟨#[]⟩, ⟨#[]⟩, ⟨#[]⟩, ⟨#[]⟩⟩] }
  | 4 => { im with mbs := im.mbs ++ [⟨⟨#[101, 117]⟩, ⟨#[]⟩⟩] }
  | 5 => { im with th := 256 }
  | 6 => { im with lks := im.lks ++ [⟨⟨#[106, 97]⟩, ⟨#[]⟩, ⟨#[]⟩, ⟨#[106, 98]⟩, ⟨#[106, 112, 97, 110]⟩, ⟨#[106, 112]⟩⟩] }
  | 7 => { im with rls := im.rls.take (im.rls.length - 1) }
  | 8 => { im with rls := ⟨3, 0, false, ⟨#[42]⟩, ⟨#[42]⟩, ⟨#[36, 97, 115]⟩, ⟨#[42]⟩, ⟨#[42]⟩, ⟨#[42]⟩⟩ :: im.rls }
  | _ => im
def SpE (W0 : World) (b : Nat) (im' : Im) (e : Ending) (w' : World) : Prop := ∃ va' vl' vr' vm', e = .returned (.agg #[va', vl', vr', vm', .int .i64 im'.th, .int .i64 im'.de]) ∧ Own4 w' b im' va' vl' vr' vm' ∧ Below W0.heap.size W0 w'
theorem flat_oneZ (l : List Rl) : ∀ u ∈ (l.map rlC).flatMap id, u.oneCell' = true := by
  intro u hu
  obtain ⟨c, hc, hu⟩ := List.mem_flatMap.1 hu
  obtain ⟨x, -, rfl⟩ := List.mem_map.1 hc
  simp only [rlC, id, List.mem_cons, List.not_mem_nil, or_false] at hu
  rcases hu with rfl | rfl | rfl | rfl | rfl | rfl | rfl | rfl | rfl <;> rfl
theorem own_news3 {W W' : World} {b g m c : Nat} {im : Im} {va vl vm : Value} (h : Own4 W b im va vl (.slice (some ⟨g, 0, none⟩) m c) vm) (_ : Below W.heap.size W W') : ∀ w', Below W.heap.size W w' → ∀ j u, ((im.rls.map rlC).flatMap id)[j]? = some u → w'.cell? ((⟨g, 0, none⟩ : Addr).add j) = some u :=
  fun _ hb j u hu => (own_belowW h.r hb).cells rfl j u hu
theorem own_topZ {w : World} {b sz n : Nat} {e : TypeId} {v : Value} {xs : List Value} (h : w.ownsRow b e sz v n xs) : v.ownBlock = none ∨ v.ownBlock ≠ some w.heap.size := by
  cases hv : v.ownBlock with
  | none => exact .inl rfl
  | some k => exact .inr (fun e => by injection e with e; have := (h.lt k hv).2; omega)
theorem Own4.front {W w7 : World} {b n3 : Nat} {im : Im} {va vl vr vm v' : Value} (h : Own4 W b im va vl vr vm) (hg : (W.alloc (.cells #[.int .i64 3, .int .i64 0, .bool false, .string { data := #[42] }, .string { data := #[42] }, .string { data := #[36, 97, 115] }, .string { data := #[42] }, .string { data := #[42] }, .string { data := #[42] }] 64)).grownBy w7 (some W.heap.size)) (h1 : w7.ownsRow b 64 9 v' (1 + n3) ((#[.int .i64 3, .int .i64 0, .bool false, .string { data := #[42] }, .string { data := #[42] }, .string { data := #[36, 97, 115] }, .string { data := #[42] }, .string { data := #[42] }, .string { data := #[42] }] : Array Value).toList ++ (im.rls.map rlC).flatMap id)) (hn : n3 = im.rls.length) : Own4 w7 b { im with rls := ⟨3, 0, false, ⟨#[42]⟩, ⟨#[42]⟩, ⟨#[36, 97, 115]⟩, ⟨#[42]⟩, ⟨#[42]⟩, ⟨#[42]⟩⟩ :: im.rls } va vl v' vm := by
  subst hn
  refine { a := (h.a.alloc _).kept hg (own_topZ h.a), l := (h.l.alloc _).kept hg (own_topZ h.l), m := (h.m.alloc _).kept hg (own_topZ h.m), r := ?_, s := { h.s with rls := fun x hm => ?_ } }
  · show w7.ownsRow b 64 9 v' (im.rls.length + 1) (rlC ⟨3, 0, false, ⟨#[42]⟩, ⟨#[42]⟩, ⟨#[36, 97, 115]⟩, ⟨#[42]⟩, ⟨#[42]⟩, ⟨#[42]⟩⟩ ++ (im.rls.map rlC).flatMap id)
    rw [Nat.add_comm im.rls.length 1]
    exact h1
  · rcases List.mem_cons.1 hm with rfl | hm
    · exact ⟨by decide, by decide, by intro t ht; simp only [rlT, List.mem_cons, List.not_mem_nil, or_false] at ht; rcases ht with rfl | rfl | rfl | rfl | rfl | rfl <;> decide⟩
    · exact h.s.rls x hm
end Go.Proofs.Ythjfcfhibdpbnaa
