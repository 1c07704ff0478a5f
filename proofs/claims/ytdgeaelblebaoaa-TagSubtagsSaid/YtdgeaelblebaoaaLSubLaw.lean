/-
  TagSubtags: the walk of the law.
-/
import Derived.Test.YtdgeaelblebaoaaKSameLaw
import Derived.Test.YtdgeaelblebaoaaLSubtags
namespace Go.Proofs.Ytdgeaelblebaoaa
open Go Go.RowKit

theorem rows_self (v1 v2 : Value) (L : List ByteArray) (w : World) (h1 : Row w v1 L) (h2 : Row w v2 L) (hb : L.length ≤ 1048576) :
    Calls Try.prog 21 #[v1, v2] w fun e w' => e = .returned (.bool true) ∧ Below w.heap.size w w' :=
  (same_rows v1 v2 L L w h1 h2 hb).mono fun e w' ⟨p, q⟩ => ⟨by rw [p]; simp, q⟩
theorem subtags_len (T : TagM) (hF : TagFits T) : (subtagsT T).length ≤ 71400 := by
  by_cases h : T.grand.size = 0
  · rw [subtagsT_fields T h]
    have := take_len T hF 7
    rwa [List.take_of_length_le (show (fieldsT T).length ≤ 7 from Nat.le_refl 7)] at this
  · unfold subtagsT
    rw [if_neg h]
    have h1 := splS_le T.grand
    have := hF.2.2.2.2.2
    omega
set_option maxRecDepth 100000 in
set_option maxHeartbeats 8000000 in
theorem subtags_law (SA : SeedM) (l s r g : ByteArray) (ve vv vx vp : Value) (E V : List ByteArray) (X : List (ByteArray × List ByteArray)) (P : List ByteArray) (va ka pa : Value) (w : World)
    (hl : l.size ≤ maxLen) (hs : s.size ≤ maxLen) (hr : r.size ≤ maxLen) (hg : g.size ≤ maxLen) (hE : RowA w ve E) (hV : RowA w vv V) (hX : ExtA w vx X) (hP : RowA w vp P)
    (a1 : IntsA w va SA.vars) (a2 : IntsA w ka SA.keys) (a3 : IntsA w pa SA.priv) (a4 : -9223372036854775808 ≤ SA.extl) (a5 : SA.extl ≤ 9223372036854775807) :
    Calls Try.prog 5 #[.agg #[.string l, ve, .string s, .string r, vv, vx, vp, .string g], .agg #[.int .i64 SA.lang, .int .i64 SA.extl, .int .i64 SA.script, .int .i64 SA.region, va, ka, pa, .int .i64 SA.odd]] w fun e w' => e = .returned (.bool true) ∧ Below w.heap.size w w' := by
  obtain ⟨W2, hW2⟩ : ∃ W2, (w.alloc (.cells #[.string l, ve, .string s, .string r, vv, vx, vp, .string g] 29)).alloc (.cells #[.int .i64 SA.lang, .int .i64 SA.extl, .int .i64 SA.script, .int .i64 SA.region, va, ka, pa, .int .i64 SA.odd] 32) = W2 := ⟨_, rfl⟩
  have hb2 : Below w.heap.size w W2 := by rw [← hW2]; exact ((Below.refl _ w).alloc (Nat.le_refl _) _).alloc (by simp) _
  have hA : W2.heap[w.heap.size]? = some (.cells #[.string l, ve, .string s, .string r, vv, vx, vp, .string g] 29 (0, 0)) := by rw [← hW2]; exact (Below.heap_alloc _ _ _ (by simp)).trans (World.alloc_heap_new w _)
  have hBx : W2.heap[w.heap.size + 1]? = some (.cells #[.int .i64 SA.lang, .int .i64 SA.extl, .int .i64 SA.script, .int .i64 SA.region, va, ka, pa, .int .i64 SA.odd] 32 (0, 0)) := by rw [← hW2]; exact heap_alloc2_new w _ _
  have hlB := lt_of_heap hBx
  have HC := Lib.hid (fun (w' : World) (hb : Below W2.heap.size W2 w') => And.intro (tag_cells ((hb.block _ (by omega)).trans hA)) (tag_cells ((hb.block _ hlB).trans hBx)))
  have HB2 := Lib.hid hb2
  obtain ⟨TF, hTF⟩ : ∃ T, (⟨cut12 l, rowT E, cut12 s, cut12 r, rowT V, extsT X, rowT P, cut12 g⟩ : TagM) = T := ⟨_, rfl⟩
  have fF : TagFits TF := by rw [← hTF]; exact few_fits _ _ _ _ _ _ _ _
  have fA := madeT_fits SA
  have AW := onward W2 awake6_any
  have FZ := Lib.hid (fun w5 (hb : Below W2.heap.size W2 w5) => (few_any l s r g ve vv vx vp E V P X w5 hl hs hr hg ((hE.below hb2).below hb) ((hV.below hb2).below hb) ((hP.below hb2).below hb) ((hX.below hb2).below hb)).mono (R' := fun e w7 => ∃ u, e = .returned u ∧ TagIs w7 u TF ∧ Below w5.heap.size w5 w7 ∧ Below W2.heap.size W2 w7) fun e w7 ⟨x, y, xx, z, p, q, o1, o2, o3, b2, o4, _⟩ => ⟨_, p, by rw [← hTF]; exact few_is o1 o2 o3 o4, q, hb.trans (q.mono hb.size)⟩)
  have MZ := Lib.hid (fun w5 (hb : Below W2.heap.size W2 w5) => (made_any SA va ka pa w5 ((a1.below hb2).below hb) ((a2.below hb2).below hb) ((a3.below hb2).below hb) a4 a5).mono (R' := fun e w7 => ∃ u, e = .returned u ∧ TagIs w7 u (madeT SA) ∧ Below w5.heap.size w5 w7 ∧ Below W2.heap.size W2 w7) fun e w7 ⟨u, p, q, r⟩ => ⟨u, p, q, r, hb.trans (r.mono hb.size)⟩)
  have SU := Lib.hid (fun w5 (T : TagM) (v : Value) (hT : TagIs w5 v T) (hF : TagFits T) (hb : Below W2.heap.size W2 w5) => (subtags_own v T w5 hT hF).mono (R' := fun e w7 => ∃ u, e = .returned u ∧ Row w7 u (subtagsT T) ∧ Below w5.heap.size w5 w7 ∧ Below W2.heap.size W2 w7) fun e w7 ⟨u, p, q, r⟩ => ⟨u, p, Row.of_own q, r, hb.trans (r.mono hb.size)⟩)
  have RU := Lib.hid (fun w5 (T : TagM) (v : Value) (hT : TagIs w5 v T) (hF : TagFits T) (hb : Below W2.heap.size W2 w5) => (subtags_ref v T w5 hT hF).mono (R' := fun e w7 => ∃ u, e = .returned u ∧ Row w7 u (subtagsT T) ∧ Below w5.heap.size w5 w7 ∧ Below W2.heap.size W2 w7) fun e w7 ⟨u, p, q, r⟩ => ⟨u, p, Row.of_own q, r, hb.trans (r.mono hb.size)⟩)
  have SM := Lib.hid (fun w5 (T : TagM) (u1 u2 : Value) (hF : TagFits T) (h1 : Row w5 u1 (subtagsT T)) (h2 : Row w5 u2 (subtagsT T)) (hb : Below W2.heap.size W2 w5) => (rows_self u1 u2 (subtagsT T) w5 h1 h2 (by have := subtags_len T hF; omega)).mono (R' := fun e w7 => e = .returned (.bool true) ∧ Below W2.heap.size W2 w7) fun e w7 ⟨p, q⟩ => ⟨p, hb.trans (q.mono hb.size)⟩)
  have ZN := Lib.hid (fun w5 (hb : Below W2.heap.size W2 w5) => (subtags_own _ noT w5 (no_is w5 none) no_fits).mono (R' := fun e w7 => ∃ ao c, e = .returned (.slice ao 0 c) ∧ Below W2.heap.size W2 w7) fun e w7 ⟨u, p, q, r⟩ => by
    obtain ⟨ao, c, rfl, _⟩ := Row.of_own q
    exact ⟨ao, c, p, hb.trans (r.mono hb.size)⟩)
  have hs2 := hb2.size
  clear a1 a2 a3 a4 a5 hl hs hr hg hE hV hX hP hA hBx hb2 hTF
  generalize madeT SA = TA at *
  go_enter Try.func5, Try.ntmps5
  go_upto_region 1 with fail
  try rw [hW2]
  clear hW2
  go_cut [5] from 8 to 8 (fun u wx => u = .bool true ∧ Below W2.heap.size W2 wx)
  case first =>
    have hBr : Below W2.heap.size W2 W2 := Below.refl _ _
    go_wp2_with (go_at_call 8; refine (AW.out _ (by assumption)).mono ?_; rintro e w5 ⟨rfl, hb5⟩)
    go_meet
    case rel => exact ⟨rfl, hb5⟩
  case rest =>
    obtain ⟨rfl, hB0⟩ := hcut
    obtain ⟨w0, rfl⟩ : ∃ x, x = wc := ⟨_, rfl⟩
    go_upto_region 2 with fail
    go_cut [6] from 9 to 15 (fun u wx => u = .bool true ∧ Below W2.heap.size W2 wx)
    case first =>
      have hBd : Below W2.heap.size W2 w0.drew := Below.drew hB0
      obtain ⟨⟨q0, q1, q2, q3, q4, q5, q6, q7⟩, _⟩ := HC.out _ hBd
      go_region_held3 (fun w' => Below W2.heap.size W2 w' ∧ w'.cell? ⟨w.heap.size, 0, none⟩ = some (.string l) ∧ w'.cell? ⟨w.heap.size, 1, none⟩ = some (ve) ∧ w'.cell? ⟨w.heap.size, 2, none⟩ = some (.string s) ∧ w'.cell? ⟨w.heap.size, 3, none⟩ = some (.string r) ∧ w'.cell? ⟨w.heap.size, 4, none⟩ = some (vv) ∧ w'.cell? ⟨w.heap.size, 5, none⟩ = some (vx) ∧ w'.cell? ⟨w.heap.size, 6, none⟩ = some (vp) ∧ w'.cell? ⟨w.heap.size, 7, none⟩ = some (.string g))
        (first | exact ⟨by assumption, by assumption, by assumption, by assumption, by assumption, by assumption, by assumption, by assumption, by assumption⟩ | exact ⟨hB9, (HC.out _ hB9).1⟩)
        (first
          | (go_at_call 23; (with_reducible refine (FZ.out _ hBd).mono ?_); rintro e w7 ⟨u1, rfl, hI1, hb7, hB9⟩)
          | (go_at_call 22; (with_reducible refine (SU.out _ TF _ hI1 fF hB9).mono ?_); rintro e w8 ⟨u2, rfl, hR1, hb8, hB9⟩)
          | (go_at_call 23; (with_reducible refine (FZ.out _ hB9).mono ?_); rintro e w9 ⟨u3, rfl, hI2, hb9, hB9⟩; have hR2 := hR1.below hb9)
          | (go_at_call 24; (with_reducible refine (RU.out _ TF _ hI2 fF hB9).mono ?_); rintro e w10 ⟨u4, rfl, hR3, hb10, hB9⟩; have hR4 := hR2.below hb10)
          | (go_at_call 21; (with_reducible refine (SM.out _ TF _ _ fF hR4 hR3 hB9).mono ?_); rintro e w11 ⟨rfl, hB9⟩))
      all_goals
        (try go_wp2_with fail)
        go_meet
        case rel => exact ⟨rfl, hB9⟩
    case rest =>
      obtain ⟨rfl, hB1⟩ := hcut
      obtain ⟨w1, rfl⟩ : ∃ x, x = wc := ⟨_, rfl⟩
      clear hB0
      go_upto_region 3 with fail
      go_cut [7] from 16 to 22 (fun u wx => u = .bool true ∧ Below W2.heap.size W2 wx)
      case first =>
        have hBd : Below W2.heap.size W2 w1.drew := Below.drew hB1
        obtain ⟨_, q0, q1, q2, q3, q4, q5, q6, q7⟩ := HC.out _ hBd
        go_region_held3 (fun w' => Below W2.heap.size W2 w' ∧ w'.cell? ⟨w.heap.size + 1, 0, none⟩ = some (.int .i64 SA.lang) ∧ w'.cell? ⟨w.heap.size + 1, 1, none⟩ = some (.int .i64 SA.extl) ∧ w'.cell? ⟨w.heap.size + 1, 2, none⟩ = some (.int .i64 SA.script) ∧ w'.cell? ⟨w.heap.size + 1, 3, none⟩ = some (.int .i64 SA.region) ∧ w'.cell? ⟨w.heap.size + 1, 4, none⟩ = some (va) ∧ w'.cell? ⟨w.heap.size + 1, 5, none⟩ = some (ka) ∧ w'.cell? ⟨w.heap.size + 1, 6, none⟩ = some (pa) ∧ w'.cell? ⟨w.heap.size + 1, 7, none⟩ = some (.int .i64 SA.odd))
          (first | exact ⟨by assumption, by assumption, by assumption, by assumption, by assumption, by assumption, by assumption, by assumption, by assumption⟩ | exact ⟨hB9, (HC.out _ hB9).2⟩)
          (first
            | (go_at_call 25; (with_reducible refine (MZ.out _ hBd).mono ?_); rintro e w7 ⟨u1, rfl, hI1, hb7, hB9⟩)
            | (go_at_call 22; (with_reducible refine (SU.out _ TA _ hI1 fA hB9).mono ?_); rintro e w8 ⟨u2, rfl, hR1, hb8, hB9⟩)
            | (go_at_call 25; (with_reducible refine (MZ.out _ hB9).mono ?_); rintro e w9 ⟨u3, rfl, hI2, hb9, hB9⟩; have hR2 := hR1.below hb9)
            | (go_at_call 24; (with_reducible refine (RU.out _ TA _ hI2 fA hB9).mono ?_); rintro e w10 ⟨u4, rfl, hR3, hb10, hB9⟩; have hR4 := hR2.below hb10)
            | (go_at_call 21; (with_reducible refine (SM.out _ TA _ _ fA hR4 hR3 hB9).mono ?_); rintro e w11 ⟨rfl, hB9⟩))
        all_goals
          (try go_wp2_with fail)
          go_meet
          case rel => exact ⟨rfl, hB9⟩
      case rest =>
        obtain ⟨rfl, hB3⟩ := hcut
        go_wp2_with (go_at_call 22; refine (ZN.out _ hB3).mono ?_; rintro e w7 ⟨ao, c, rfl, hB7⟩)
        go_ret
        exact ⟨rfl, HB2.out.trans (hB7.mono hs2)⟩
end Go.Proofs.Ytdgeaelblebaoaa
