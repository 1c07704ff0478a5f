/-
  The image that is handed out, as mathematics (im15), and its bytes.
-/
import Derived.Test.YtbafmnafhaoggaaGreatDoorADataM
import Derived.Test.YtbafmnafhaoggaaGreatDoorZMany
namespace Go.Proofs.YtbafmnafhaoggaaGreatDoor
open Go Go.RowKit

theorem rowC_block {W : World} {g sz n : Nat} {t : TypeId} {L : List (List Value)} (h : W.heap[g]? = some (.cells (L.flatMap id).toArray t (0, 0))) (_hn : n = L.length) (hs : ∀ c ∈ L, c.length = sz) : RowC W (.slice (some ⟨g, 0, none⟩) L.length n) sz L :=
  ⟨_, _, rfl, fun i c hc => ⟨g, 0, rfl, fun k x hk => by rw [Nat.zero_add]; exact cellAtY h (i * sz + k) x (by rw [List.getElem?_toArray]; exact flat_getZ hs hc hk)⟩⟩
def im15 : Im := ⟨als15.map fun x => ⟨x.k, x.a, x.b, x.l, x.s, x.r⟩, lks15.map fun x => ⟨x.l, x.s, x.r, x.tl, x.ts, x.tr⟩, rls15.map fun x => ⟨x.lv, x.co, x.ow, x.d0, x.d1, x.d2, x.s0, x.s1, x.s2⟩, mbs15.map fun x => ⟨x.st, x.rg⟩, 40, 5⟩
theorem cnt15 : cntN im15 0 = 54 ∧ cntN im15 1 = 32 ∧ cntN im15 2 = 15 ∧ cntN im15 3 = 7 := by decide +kernel
theorem cnt15_le (k : Nat) : cntN im15 k ≤ 1000 := by
  obtain ⟨h0, h1, h2, h3⟩ := cnt15
  rcases k with _ | _ | _ | k
  · rw [h0]; decide
  · rw [h1]; decide
  · rw [h2]; decide
  · rw [show cntN im15 (k + 1 + 1 + 1) = cntN im15 3 from rfl, h3]; decide
theorem flat15 {α β : Type} (l : List α) (f : α → β) (g : β → List Value) (h : α → List Value) (e : ∀ x, g (f x) = h x) : l.flatMap h = ((l.map f).map g).flatMap id := by
  induction l with
  | nil => rfl
  | cons x l ih => rw [List.flatMap_cons, List.map_cons, List.map_cons, List.flatMap_cons, ih, e]; rfl
theorem Im15.imr {W : World} {b g1 g2 g3 g4 : Nat} (h : Im15 W b g1 g2 g3 g4) : ImR W (.slice (some ⟨g1, 0, none⟩) (cntN im15 0) 54) (.slice (some ⟨g2, 0, none⟩) (cntN im15 1) 32) (.slice (some ⟨g3, 0, none⟩) (cntN im15 2) 15) (.slice (some ⟨g4, 0, none⟩) (cntN im15 3) 7) im15 := by
  obtain ⟨h0, h1, h2, h3⟩ := cnt15
  have ra : RowC W (.slice (some ⟨g1, 0, none⟩) (im15.als.map alC).length 54) 6 (im15.als.map alC) := rowC_block (by rw [show (im15.als.map alC).flatMap id = als15.flatMap axC from (flat15 _ _ _ _ (fun _ => rfl)).symm]; exact h.a) (by rw [List.length_map]; exact h0.symm) (fun c hc => by obtain ⟨x, _, rfl⟩ := List.mem_map.1 hc; rfl)
  have rl : RowC W (.slice (some ⟨g2, 0, none⟩) (im15.lks.map lkC).length 32) 6 (im15.lks.map lkC) := rowC_block (by rw [show (im15.lks.map lkC).flatMap id = lks15.flatMap lxC from (flat15 _ _ _ _ (fun _ => rfl)).symm]; exact h.l) (by rw [List.length_map]; exact h1.symm) (fun c hc => by obtain ⟨x, _, rfl⟩ := List.mem_map.1 hc; rfl)
  have rr : RowC W (.slice (some ⟨g3, 0, none⟩) (im15.rls.map rlC).length 15) 9 (im15.rls.map rlC) := rowC_block (by rw [show (im15.rls.map rlC).flatMap id = rls15.flatMap rxC from (flat15 _ _ _ _ (fun _ => rfl)).symm]; exact h.r) (by rw [List.length_map]; exact h2.symm) (fun c hc => by obtain ⟨x, _, rfl⟩ := List.mem_map.1 hc; rfl)
  have rm : RowC W (.slice (some ⟨g4, 0, none⟩) (im15.mbs.map mbC).length 7) 2 (im15.mbs.map mbC) := rowC_block (by rw [show (im15.mbs.map mbC).flatMap id = mbs15.flatMap mxC from (flat15 _ _ _ _ (fun _ => rfl)).symm]; exact h.m) (by rw [List.length_map]; exact h3.symm) (fun c hc => by obtain ⟨x, _, rfl⟩ := List.mem_map.1 hc; rfl)
  rw [List.length_map] at ra rl rr rm
  exact ⟨ra, rl, rr, rm⟩
theorem ims_a : ∀ x ∈ im15.als, (Lit.int .i64 x.k).wf = true ∧ x.a.size ≤ 1000 ∧ x.b.size ≤ 1000 ∧ x.l.size ≤ 1000 ∧ x.s.size ≤ 1000 ∧ x.r.size ≤ 1000 := by decide +kernel
theorem ims_l : ∀ x ∈ im15.lks, ∀ t ∈ lkT x, t.size ≤ 1000 := by decide +kernel
theorem ims_r : ∀ x ∈ im15.rls, (Lit.int .i64 x.lv).wf = true ∧ (Lit.int .i64 x.co).wf = true ∧ ∀ t ∈ rlT x, t.size ≤ 1000 := by decide +kernel
theorem ims_m : ∀ x ∈ im15.mbs, x.st.size ≤ 1000 ∧ x.rg.size ≤ 1000 := by decide +kernel
theorem ims15 : ImS im15 := ⟨fun x hx => by obtain ⟨a, b, c, d, e, f⟩ := ims_a x hx; exact ⟨a, b, c, d, e, f⟩, ims_l, fun x hx => by obtain ⟨a, b, c⟩ := ims_r x hx; exact ⟨a, b, c⟩, fun x hx => by obtain ⟨a, b⟩ := ims_m x hx; exact ⟨a, b⟩⟩
theorem encode15 {g1 g2 g3 g4 b : Nat} (w : World) (hi : Im15 w b g1 g2 g3 g4) (hg : GL w) :
    Calls Tryz.prog 10 #[.agg #[.slice (some ⟨g1, 0, none⟩) 54 54, .slice (some ⟨g2, 0, none⟩) 32 32, .slice (some ⟨g3, 0, none⟩) 15 15, .slice (some ⟨g4, 0, none⟩) 7 7, .int .i64 40, .int .i64 5]] w fun e w' => ∃ v, e = .returned (.tuple #[.string (encB im15), v]) ∧ Below w.heap.size w w' := by
  have h := encode_im (some ⟨g1, 0, none⟩) (some ⟨g2, 0, none⟩) (some ⟨g3, 0, none⟩) (some ⟨g4, 0, none⟩) 54 32 15 7 im15 w hi.imr ims15 hg
  obtain ⟨e0, e1, e2, e3⟩ := cnt15
  rw [e0, e1, e2, e3] at h
  exact h.mono fun e w' ⟨v, p, _, q⟩ => ⟨v, p, q⟩
set_option maxRecDepth 100000 in
set_option maxHeartbeats 2000000 in
theorem bytes_15 (w : World) (hg : GL w) : Calls Tryz.prog 5 #[] w fun e w' => e = .returned (.string (encB im15)) ∧ Below w.heap.size w w' := by
  have HI := Lib.hid (image_15 w)
  have HG := Lib.hid (fun w' (h : Below w.heap.size w w') => hg.below h hg.size)
  have HE := Lib.hid (fun (g1 g2 g3 g4 b : Nat) w' (hi : Im15 w' b g1 g2 g3 g4) (h : Below w.heap.size w w') => encode15 w' hi (HG.out w' h))
  clear hg
  generalize encB im15 = out at *
  go_enter Tryz.func5, Tryz.ntmps5
  go_wp2_with (first
    | (go_at_call 8; (with_reducible refine HI.out.mono ?_); rintro e w2 ⟨g1, g2, g3, g4, rfl, hI, hb2⟩)
    | (go_at_call 10; (with_reducible refine (HE.out _ _ _ _ _ _ hI hb2).mono ?_); rintro e w3 ⟨v, rfl, hb3⟩))
  go_ret
  exact ⟨rfl, hb2.trans (hb3.mono hb2.size)⟩
end Go.Proofs.YtbafmnafhaoggaaGreatDoor
