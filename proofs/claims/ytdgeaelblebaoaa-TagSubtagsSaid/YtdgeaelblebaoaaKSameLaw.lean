/-
  TagSame: the walk of the law.
-/
import Derived.Test.YtdgeaelblebaoaaIMade
import Derived.Test.YtdgeaelblebaoaaJSame
import Derived.Test.YtdgeaelblebaoaaGAwake
namespace Go.Proofs.Ytdgeaelblebaoaa
open Go Go.RowKit

/-- A tag's value, cell by cell. -/
def TagAt (W : World) (b : Nat) (T : TagM) : Prop :=
  ∃ ae ac av vc ax xc ap pc, W.heap[b]? = some (.cells #[.string T.lang, .slice ae T.extl.length ac, .string T.script, .string T.region, .slice av T.vars.length vc, .slice ax T.exts.length xc, .slice ap T.priv.length pc, .string T.grand] 29 (0, 0)) ∧ TagIs W (.agg #[.string T.lang, .slice ae T.extl.length ac, .string T.script, .string T.region, .slice av T.vars.length vc, .slice ax T.exts.length xc, .slice ap T.priv.length pc, .string T.grand]) T
theorem tag_shape {W : World} {v : Value} {T : TagM} (h : TagIs W v T) : ∃ ae ac av vc ax xc ap pc, v = .agg #[.string T.lang, .slice ae T.extl.length ac, .string T.script, .string T.region, .slice av T.vars.length vc, .slice ax T.exts.length xc, .slice ap T.priv.length pc, .string T.grand] := by
  obtain ⟨_, _, _, _, rfl, ⟨_, _, rfl, _⟩, ⟨_, _, rfl, _⟩, ⟨_, _, rfl, _⟩, ⟨_, _, rfl, _⟩⟩ := h
  exact ⟨_, _, _, _, _, _, _, _, rfl⟩
theorem TagAt.below {W W' : World} {b : Nat} {T : TagM} (h : TagAt W b T) (hb : Below W.heap.size W W') : TagAt W' b T := by
  obtain ⟨ae, ac, av, vc, ax, xc, ap, pc, h1, h2⟩ := h
  exact ⟨ae, ac, av, vc, ax, xc, ap, pc, (hb.block _ (lt_of_heap h1)).trans h1, h2.below hb⟩
theorem tagAt_new {W : World} {T : TagM} {ae ax av ap : Option Addr} {ac vc xc pc : Nat} (h : TagIs W (.agg #[.string T.lang, .slice ae T.extl.length ac, .string T.script, .string T.region, .slice av T.vars.length vc, .slice ax T.exts.length xc, .slice ap T.priv.length pc, .string T.grand]) T) :
    TagAt (W.alloc (.cells #[.string T.lang, .slice ae T.extl.length ac, .string T.script, .string T.region, .slice av T.vars.length vc, .slice ax T.exts.length xc, .slice ap T.priv.length pc, .string T.grand] 29)) W.heap.size T :=
  ⟨_, _, _, _, _, _, _, _, World.alloc_heap_new _ _, h.below ((Below.refl _ W).alloc (Nat.le_refl _) _)⟩
theorem few_is {W : World} {l s r g : ByteArray} {b1 b2 b3 b4 : Nat} {x y xx z : Value} {E V P : List ByteArray} {X : List (ByteArray × List ByteArray)} (o1 : W.ownsRow b1 9 1 x E.length (strs E)) (o2 : W.ownsRow b2 9 1 y V.length (strs V)) (o3 : W.ownsRow b3 9 1 z P.length (strs P)) (o4 : ExtO W b4 xx X) :
    TagIs W (.agg #[.string l, x, .string s, .string r, y, xx, z, .string g]) ⟨l, E, s, r, V, X, P, g⟩ := ⟨x, y, xx, z, rfl, Row.of_own o1, Row.of_own o2, o4.row, Row.of_own o3⟩
theorem sameT_comm (A B : TagM) : sameT A B = sameT B A := by
  unfold sameT
  simp only [eq_comm]
theorem sameT_self (A : TagM) : sameT A A = true := by simp [sameT]
theorem sameT_more (l s r g : ByteArray) (E V : List ByteArray) (X : List (ByteArray × List ByteArray)) (P : List ByteArray) (x : ByteArray) : sameT ⟨l, E, s, r, V, X, P, g⟩ ⟨l, E, s, r, V ++ [x], X, P, g⟩ = false := by
  have : ¬ V = V ++ [x] := fun h => by have := congrArg List.length h; simp at this
  unfold sameT
  simp [this]
theorem few_fits (l s r g : ByteArray) (E V : List ByteArray) (X : List (ByteArray × List ByteArray)) (P : List ByteArray) : TagFits ⟨cut12 l, rowT E, cut12 s, cut12 r, rowT V, extsT X, rowT P, cut12 g⟩ := by
  refine ⟨Nat.le_trans (rowT_len E) (by decide), Nat.le_trans (rowT_len V) (by decide), ?_, ?_, Nat.le_trans (rowT_len P) (by decide), Nat.le_trans (size_cut12 g) (by decide)⟩
  · show (extsT X).length ≤ 100
    unfold extsT
    rw [List.length_map, List.length_take]
    omega
  · intro x hx
    unfold extsT at hx
    obtain ⟨y, _, rfl⟩ := List.mem_map.1 hx
    exact Nat.le_trans (rowT_len y.2) (by decide)
theorem madeT_fits (S : SeedM) : TagFits (madeT S) := by
  have hE : ∀ y e, (madeE y e).length ≤ 1 := fun y e => by unfold madeE; split <;> simp
  have hV : (madeV S.vars).length ≤ 4 := by unfold madeV; have := addVs_len (S.vars.take 4); rw [List.length_take] at this; omega
  have hX : (madeX S.keys).length ≤ 3 := by unfold madeX; rw [extKs_len, List.length_take]; omega
  have hP : (madeP S.priv).length ≤ 3 := by unfold madeP; rw [List.length_map, List.length_take]; omega
  have hS : ∀ x ∈ madeX S.keys, x.2.length ≤ 4 := fun x hx => by
    unfold madeX extKs at hx
    obtain ⟨y, _, rfl⟩ := List.mem_map.1 hx
    show (subsN _).length ≤ 4
    unfold subsN
    rw [List.length_map, List.length_range]
    omega
  have hE' := hE (pickT langsL S.lang) S.extl
  unfold madeT spoiltT
  repeat' split
  all_goals
    refine ⟨?_, ?_, ?_, ?_, ?_, ?_⟩ <;> simp <;> first | omega | (intro a b h; rcases h with h | ⟨_, rfl⟩ | ⟨_, rfl⟩; (exact Nat.le_trans (hS _ h) (by decide)); (simp); simp) | (intro a b h; rcases h with h | ⟨_, rfl⟩; (exact Nat.le_trans (hS _ h) (by decide)); simp) | (intro a b h; exact Nat.le_trans (hS _ h) (by decide)) | decide
def noT : TagM := ⟨ByteArray.empty, [], ByteArray.empty, ByteArray.empty, [], [], [], ByteArray.empty⟩
theorem no_is (W : World) (ao : Option Addr) : TagIs W (.agg #[.string ByteArray.empty, .slice none 0 0, .string ByteArray.empty, .string ByteArray.empty, .slice ao 0 0, .slice none 0 0, .slice none 0 0, .string ByteArray.empty]) noT :=
  ⟨_, _, _, _, rfl, ⟨none, 0, rfl, fun i x h => by simp [noT] at h⟩, ⟨ao, 0, rfl, fun i x h => by simp [noT] at h⟩, ⟨none, 0, rfl, fun i x h => by simp [noT] at h⟩, ⟨none, 0, rfl, fun i x h => by simp [noT] at h⟩⟩
theorem no_fits : TagFits noT := ⟨by decide, by decide, by decide, fun x h => by simp [noT] at h, by decide, by decide⟩
theorem few_inj {l s r g l' s' r' g' : ByteArray} {x y xx z x' y' xx' z' : Value} (h : Value.agg #[.string l, x, .string s, .string r, y, xx, z, .string g] = .agg #[.string l', x', .string s', .string r', y', xx', z', .string g']) : x = x' ∧ y = y' ∧ xx = xx' ∧ z = z' := by
  injection h with h
  simp at h
  exact ⟨h.2.1, h.2.2.2.2.1, h.2.2.2.2.2.1, h.2.2.2.2.2.2.1⟩

set_option maxRecDepth 100000 in
set_option maxHeartbeats 8000000 in
theorem same_law (SA SB : SeedM) (va ka pa vb kb pb : Value) (l s r g : ByteArray) (ve vv vx vp : Value) (E V : List ByteArray) (X : List (ByteArray × List ByteArray)) (P : List ByteArray) (w : World)
    (a1 : IntsA w va SA.vars) (a2 : IntsA w ka SA.keys) (a3 : IntsA w pa SA.priv) (a4 : -9223372036854775808 ≤ SA.extl) (a5 : SA.extl ≤ 9223372036854775807)
    (b1 : IntsA w vb SB.vars) (b2 : IntsA w kb SB.keys) (b3 : IntsA w pb SB.priv) (b4 : -9223372036854775808 ≤ SB.extl) (b5 : SB.extl ≤ 9223372036854775807)
    (hl : l.size ≤ maxLen) (hs : s.size ≤ maxLen) (hr : r.size ≤ maxLen) (hg : g.size ≤ maxLen) (hE : RowA w ve E) (hV : RowA w vv V) (hX : ExtA w vx X) (hP : RowA w vp P) :
    Calls Try.prog 6 #[.agg #[.int .i64 SA.lang, .int .i64 SA.extl, .int .i64 SA.script, .int .i64 SA.region, va, ka, pa, .int .i64 SA.odd], .agg #[.int .i64 SB.lang, .int .i64 SB.extl, .int .i64 SB.script, .int .i64 SB.region, vb, kb, pb, .int .i64 SB.odd], .agg #[.string l, ve, .string s, .string r, vv, vx, vp, .string g]] w fun e w' => e = .returned (.bool true) ∧ Below w.heap.size w w' := by
  obtain ⟨W3, hW3⟩ : ∃ W3, ((w.alloc (.cells #[.int .i64 SA.lang, .int .i64 SA.extl, .int .i64 SA.script, .int .i64 SA.region, va, ka, pa, .int .i64 SA.odd] 32)).alloc (.cells #[.int .i64 SB.lang, .int .i64 SB.extl, .int .i64 SB.script, .int .i64 SB.region, vb, kb, pb, .int .i64 SB.odd] 32)).alloc (.cells #[.string l, ve, .string s, .string r, vv, vx, vp, .string g] 29) = W3 := ⟨_, rfl⟩
  have hb3 : Below w.heap.size w W3 := by rw [← hW3]; exact (((Below.refl _ w).alloc (Nat.le_refl _) _).alloc (by simp) _).alloc (by simp; omega) _
  have hA : W3.heap[w.heap.size]? = some (.cells #[.int .i64 SA.lang, .int .i64 SA.extl, .int .i64 SA.script, .int .i64 SA.region, va, ka, pa, .int .i64 SA.odd] 32 (0, 0)) := by rw [← hW3]; exact (Below.heap_alloc _ _ _ (by simp; omega)).trans ((Below.heap_alloc _ _ _ (by simp)).trans (World.alloc_heap_new w _))
  have hBx : W3.heap[w.heap.size + 1]? = some (.cells #[.int .i64 SB.lang, .int .i64 SB.extl, .int .i64 SB.script, .int .i64 SB.region, vb, kb, pb, .int .i64 SB.odd] 32 (0, 0)) := by rw [← hW3]; exact (Below.heap_alloc _ _ _ (by simp)).trans (heap_alloc2_new w _ _)
  have hTx : W3.heap[w.heap.size + 1 + 1]? = some (.cells #[.string l, ve, .string s, .string r, vv, vx, vp, .string g] 29 (0, 0)) := by
    rw [← hW3]
    have := World.alloc_heap_new ((w.alloc (.cells #[.int .i64 SA.lang, .int .i64 SA.extl, .int .i64 SA.script, .int .i64 SA.region, va, ka, pa, .int .i64 SA.odd] 32)).alloc (.cells #[.int .i64 SB.lang, .int .i64 SB.extl, .int .i64 SB.script, .int .i64 SB.region, vb, kb, pb, .int .i64 SB.odd] 32)) (.cells #[.string l, ve, .string s, .string r, vv, vx, vp, .string g] 29)
    simpa using this
  have hlT := lt_of_heap hTx
  have HBOX := Lib.hid (fun w5 (hb : Below W3.heap.size W3 w5) => And.intro (tag_cells ((hb.block _ (by omega)).trans hA)) (And.intro (tag_cells ((hb.block _ (by omega)).trans hBx)) (tag_cells ((hb.block _ (by omega)).trans hTx))))
  have HB3 := Lib.hid hb3
  have AW := onward W3 awake6_any
  have MA := Lib.hid (fun w5 (hb : Below W3.heap.size W3 w5) => made_any SA va ka pa w5 ((a1.below hb3).below hb) ((a2.below hb3).below hb) ((a3.below hb3).below hb) a4 a5)
  have MB := Lib.hid (fun w5 (hb : Below W3.heap.size W3 w5) => made_any SB vb kb pb w5 ((b1.below hb3).below hb) ((b2.below hb3).below hb) ((b3.below hb3).below hb) b4 b5)
  have FW := Lib.hid (fun w5 (hb : Below W3.heap.size W3 w5) => few_any l s r g ve vv vx vp E V P X w5 hl hs hr hg ((hE.below hb3).below hb) ((hV.below hb3).below hb) ((hP.below hb3).below hb) ((hX.below hb3).below hb))
  have hs3 := hb3.size
  clear a1 a2 a3 a4 a5 b1 b2 b3 b4 b5 hl hs hr hg hE hV hX hP hA hBx hTx hb3
  obtain ⟨TF, hTF⟩ : ∃ T, (⟨cut12 l, rowT E, cut12 s, cut12 r, rowT V, extsT X, rowT P, cut12 g⟩ : TagM) = T := ⟨_, rfl⟩
  obtain ⟨TW, hTW⟩ : ∃ T, (⟨cut12 l, rowT E, cut12 s, cut12 r, rowT V ++ [⟨#[120]⟩], extsT X, rowT P, cut12 g⟩ : TagM) = T := ⟨_, rfl⟩
  have HTF := Lib.hid hTF.symm
  have HTW := Lib.hid hTW.symm
  have HZW := Lib.hid (show sameT TF TW = false by rw [← hTF, ← hTW]; exact sameT_more _ _ _ _ _ _ _ _ _)
  have HFF := Lib.hid (show TagFits TF by rw [← hTF]; exact few_fits _ _ _ _ _ _ _ _)
  have HFA := Lib.hid (madeT_fits SA)
  have HFB := Lib.hid (madeT_fits SB)
  clear hTF hTW
  generalize madeT SA = TA at *
  generalize madeT SB = TB at *
  go_enter Try.func6, Try.ntmps6
  go_upto_region 1 with fail
  try rw [hW3]
  clear hW3
  go_cut [7] from 12 to 12 (fun u wx => u = .bool true ∧ Below W3.heap.size W3 wx)
  case first =>
    have hBr : Below W3.heap.size W3 W3 := Below.refl _ _
    go_wp2_with (go_at_call 8; refine (AW.out _ (by assumption)).mono ?_; rintro e w5 ⟨rfl, hb5⟩)
    go_meet
    case rel => exact ⟨rfl, hb5⟩
  case rest =>
    obtain ⟨rfl, hB0⟩ := hcut
    obtain ⟨w0, rfl⟩ : ∃ x, x = wc := ⟨_, rfl⟩
    go_upto_region 2 with fail
    go_cut [8] from 13 to 14 (fun u wx => ∃ b, u = .pointer (some ⟨b, 0, none⟩) ∧ TagAt wx b TA ∧ b < wx.heap.size ∧ Below w0.heap.size w0 wx)
    case first =>
      obtain ⟨⟨d0, d1, d2, d3, d4, d5, d6, d7⟩, _⟩ := HBOX.out w0 hB0
      have M := Lib.hid (MA.out w0 hB0)
      go_wp2_with (go_at_call 25; (with_reducible refine M.out.mono ?_); rintro e w5 ⟨u, rfl, hT, hb5⟩; have HTI := Lib.hid hT; obtain ⟨ae, ac, av, vc, ax, xc, ap, pc, rfl⟩ := tag_shape hT; clear hT)
      go_meet
      case rel =>
        have hba := (Below.refl w5.heap.size w5).alloc (Nat.le_refl _) (.cells #[.string TA.lang, .slice ae TA.extl.length ac, .string TA.script, .string TA.region, .slice av TA.vars.length vc, .slice ax TA.exts.length xc, .slice ap TA.priv.length pc, .string TA.grand] 29)
        exact ⟨_, rfl, tagAt_new HTI.out, by simp, hb5.trans (hba.mono hb5.size)⟩
    case rest =>
      obtain ⟨bx, rfl, hTA, hbx, hbB⟩ := hcut
      obtain ⟨w1, rfl⟩ : ∃ x, x = wc := ⟨_, rfl⟩
      have hB1 := hB0.trans (hbB.mono hB0.size)
      clear hbB
      go_upto_region 3 with fail
      go_cut [9] from 15 to 16 (fun u wx => ∃ b, u = .pointer (some ⟨b, 0, none⟩) ∧ TagAt wx b TB ∧ b < wx.heap.size ∧ Below w1.heap.size w1 wx)
      case first =>
        obtain ⟨_, ⟨d0, d1, d2, d3, d4, d5, d6, d7⟩, _⟩ := HBOX.out w1 hB1
        have M := Lib.hid (MB.out w1 hB1)
        go_wp2_with (go_at_call 25; (with_reducible refine M.out.mono ?_); rintro e w5 ⟨u, rfl, hT, hb5⟩; have HTI := Lib.hid hT; obtain ⟨ae, ac, av, vc, ax, xc, ap, pc, rfl⟩ := tag_shape hT; clear hT)
        go_meet
        case rel =>
          have hba := (Below.refl w5.heap.size w5).alloc (Nat.le_refl _) (.cells #[.string TB.lang, .slice ae TB.extl.length ac, .string TB.script, .string TB.region, .slice av TB.vars.length vc, .slice ax TB.exts.length xc, .slice ap TB.priv.length pc, .string TB.grand] 29)
          exact ⟨_, rfl, tagAt_new HTI.out, by simp, hb5.trans (hba.mono hb5.size)⟩
      case rest =>
        obtain ⟨bY, rfl, hTB, hbY, hbB⟩ := hcut
        obtain ⟨w2, rfl⟩ : ∃ x, x = wc := ⟨_, rfl⟩
        have hTA := hTA.below hbB
        have hbx := Nat.lt_of_lt_of_le hbx hbB.size
        have hB2 := hB1.trans (hbB.mono hB1.size)
        clear hbB
        go_upto_region 4 with fail
        go_cut [10] from 17 to 18 (fun u wx => ∃ b, u = .pointer (some ⟨b, 0, none⟩) ∧ TagAt wx b TF ∧ b < wx.heap.size ∧ Below w2.heap.size w2 wx)
        case first =>
          obtain ⟨_, _, d0, d1, d2, d3, d4, d5, d6, d7⟩ := HBOX.out w2 hB2
          have M := Lib.hid (FW.out w2 hB2)
          go_wp2_with (go_at_call 23; (with_reducible refine M.out.mono ?_); rintro e w5 ⟨x, y, xx, z, rfl, hb5, o1, o2, o3, b2, o4, o5⟩; have HTI := Lib.hid (few_is (l := cut12 l) (s := cut12 s) (r := cut12 r) (g := cut12 g) o1 o2 o3 o4); obtain ⟨ae, ac, av, vc, ax, xc, ap, pc, hsh⟩ := tag_shape HTI.out; obtain ⟨rfl, rfl, rfl, rfl⟩ := few_inj hsh; clear o1 o2 o3 o4 o5 hsh)
          go_meet
          case rel =>
            rw [HTF.out]
            exact ⟨_, rfl, tagAt_new (T := ⟨cut12 l, rowT E, cut12 s, cut12 r, rowT V, extsT X, rowT P, cut12 g⟩) HTI.out, by simp, hb5.trans ((((Below.refl w5.heap.size w5).alloc (Nat.le_refl _) _)).mono hb5.size)⟩
        case rest =>
          obtain ⟨bz, rfl, hTZ, hbz, hbB⟩ := hcut
          obtain ⟨w4, rfl⟩ : ∃ x, x = wc := ⟨_, rfl⟩
          have hTA := hTA.below hbB
          have hTB := hTB.below hbB
          have hbx := Nat.lt_of_lt_of_le hbx hbB.size
          have hbY := Nat.lt_of_lt_of_le hbY hbB.size
          have hB4 := hB2.trans (hbB.mono hB2.size)
          clear hbB
          go_upto_region 5 with fail
          go_cut [11] from 19 to 20 (fun u wx => ∃ b x y xx z b2, u = .pointer (some ⟨b, 0, none⟩) ∧ w4.heap.size ≤ b ∧ wx.heap[b]? = some (.cells #[.string (cut12 l), x, .string (cut12 s), .string (cut12 r), y, xx, z, .string (cut12 g)] 29 (0, 0)) ∧ wx.ownsRow w4.heap.size 9 1 x (rowT E).length (strs (rowT E)) ∧ wx.ownsRow w4.heap.size 9 1 y (rowT V).length (strs (rowT V)) ∧ wx.ownsRow w4.heap.size 9 1 z (rowT P).length (strs (rowT P)) ∧ ExtO wx b2 xx (extsT X) ∧ (∀ g, y.ownBlock = some g → g < b2 ∧ x.ownBlock ≠ some g ∧ z.ownBlock ≠ some g) ∧ Below w4.heap.size w4 wx)
          case first =>
            obtain ⟨_, _, d0, d1, d2, d3, d4, d5, d6, d7⟩ := HBOX.out w4 hB4
            have M := Lib.hid (FW.out w4 hB4)
            go_wp2_with (go_at_call 23; (with_reducible refine M.out.mono ?_); rintro e w5 ⟨x, y, xx, z, rfl, hb5, o1, o2, o3, b2, o4, o5⟩; obtain ⟨_, _, _, rfl⟩ := own_slice o1; obtain ⟨_, _, _, rfl⟩ := own_slice o2; obtain ⟨_, _, _, rfl⟩ := own_slice o3; obtain ⟨_, _, _, rfl⟩ := ext_slice o4; have HO := Lib.hid (And.intro o1 (And.intro o2 (And.intro o3 (And.intro o4 o5)))); clear o1 o2 o3 o4 o5)
            go_meet
            case rel =>
              obtain ⟨o1, o2, o3, o4, o5⟩ := HO.out
              exact ⟨_, _, _, _, _, _, rfl, hb5.size, World.alloc_heap_new _ _, o1.alloc _, o2.alloc _, o3.alloc _, o4.below ((Below.refl w5.heap.size w5).alloc (Nat.le_refl _) _), o5, hb5.trans ((((Below.refl w5.heap.size w5).alloc (Nat.le_refl _) _)).mono hb5.size)⟩
          case rest =>
            obtain ⟨bw, x, y, xx, z, b2, rfl, hbw, hhW, o1, o2, o3, o4, o5, hbB⟩ := hcut
            obtain ⟨w5, rfl⟩ : ∃ x, x = wc := ⟨_, rfl⟩
            go_upto_region 6 with fail
            go_cut [11] from 21 to 25 (fun u wx => u = .pointer (some ⟨bw, 0, none⟩) ∧ TagAt wx bw TW ∧ bw < wx.heap.size ∧ Below w4.heap.size w4 wx)
            case first =>
              obtain ⟨i0, hii, iz0, iz1, iz2⟩ := info_parts stringInfo
              obtain ⟨_, _, _, rfl⟩ := own_slice o1
              obtain ⟨_, _, _, rfl⟩ := own_slice o3
              obtain ⟨_, _, _, rfl⟩ := ext_slice o4
              have nB := own_not_tag o2 hhW
              have HO := Lib.hid (And.intro o1 (And.intro o2 (And.intro o3 (And.intro o4 (And.intro o5 (And.intro hhW hbB))))))
              obtain ⟨e0, e1, e2, e3, e4, e5, e6, e7⟩ := tag_cells hhW
              have f4 := cells_frozen 4 hhW
              have hlw := lt_of_heap hhW
              have hrl := rowT_len V
              have hs45 := hbB.size
              clear o1 o2 o3 o4 o5 hbB
              go_wp2_with (at_builtin; refine wpList_append_own _ rfl _ _ 26 rfl w4.heap.size 9 i0 (.string ByteArray.empty) 1 16 Try.underlying26 hii iz0 iz1 iz2 rfl (by decide) _ _ _ rfl (HO.out.2.1.alloc _) ⟨_, 0, none⟩ 1 1 [.string ⟨#[120]⟩] rfl rfl (cell_one_new _ _ _) (by intro u hu; simp at hu; subst hu; rfl) (by unfold maxLen; omega) (by omega) (by simp; omega) ?_; intro v' w7 hown7 hgrow7 _; have hh7 := (hgrow7.block bw (by simp; omega) (fun e => nB e.symm)).trans ((Below.heap_alloc _ _ _ hlw).trans hhW); have c7 := (tag_cells hh7).2.2.2.2.1; have f7 := cells_frozen 4 hh7; obtain ⟨va, vn, vc, rfl⟩ := own_slice hown7)
              go_meet
              case rel =>
                obtain ⟨o1, o2, o3, o4, o5, _, hbB⟩ := HO.out
                have r1 := (o1.alloc _).kept hgrow7 (by cases hb : Value.ownBlock _ with | none => exact .inl rfl | some g => exact .inr (fun e => (o5 g e.symm).2.1 hb))
                have r3 := (o3.alloc _).kept hgrow7 (by cases hb : Value.ownBlock _ with | none => exact .inl rfl | some g => exact .inr (fun e => (o5 g e.symm).2.2 hb))
                have r4 := (o4.below ((Below.refl w5.heap.size w5).alloc (Nat.le_refl _) _)).kept hgrow7 (fun g hg => .inl (o5 g hg).1)
                have gs := grown_setF (World.grownBy.refl w7 (some bw)) 4 (.slice va vn vc)
                have r2 : w7.ownsRow w4.heap.size 9 1 (.slice va vn vc) (rowT V ++ [(⟨#[120]⟩ : ByteArray)]).length (strs (rowT V ++ [(⟨#[120]⟩ : ByteArray)])) := by rw [List.length_append, strs_append]; exact hown7
                have hTI := few_is (l := cut12 l) (s := cut12 s) (r := cut12 r) (g := cut12 g) (r1.kept gs (.inr (own_not_tag r1 hh7))) (r2.kept gs (.inr (own_not_tag r2 hh7))) (r3.kept gs (.inr (own_not_tag r3 hh7))) (r4.kept gs (fun g hg => by cases hg; exact .inr ⟨_, hh7⟩))
                obtain ⟨ae, ac, av, vc', ax, xc, ap, pc, hsh⟩ := tag_shape hTI
                obtain ⟨h1, h2, h3, h4⟩ := few_inj hsh
                rw [HTW.out]
                refine ⟨rfl, ⟨ae, ac, av, vc', ax, xc, ap, pc, ?_, hsh ▸ hTI⟩, ?_, ?_⟩
                · rw [← h1, ← h2, ← h3, ← h4]; exact cells_set hh7 _
                · have := hgrow7.size; simp [World.setCell] at *; omega
                · exact (hbB.trans ((((Below.refl w4.heap.size w5).alloc hbB.size _)).grown hgrow7 (by simp; omega) (fun g hg => (o2.lt g hg).1))).trans ((Below.refl w4.heap.size w7).grown gs (by have := hgrow7.size; simp at this; omega) (fun g hg => by cases hg; exact hbw))
            case rest =>
              obtain ⟨rfl, hTW, hbwl, hbB⟩ := hcut
              obtain ⟨w6, rfl⟩ : ∃ x, x = wc := ⟨_, rfl⟩
              have hTA := hTA.below hbB
              have hTB := hTB.below hbB
              have hTZ := hTZ.below hbB
              have hB6 := hB4.trans (hbB.mono hB4.size)
              go_upto_region 7 with fail
              obtain ⟨ta1, ta2, ta3, ta4, ta5, ta6, ta7, ta8, hcA, hiA⟩ := hTA
              obtain ⟨tb1, tb2, tb3, tb4, tb5, tb6, tb7, tb8, hcB, hiB⟩ := hTB
              obtain ⟨tf1, tf2, tf3, tf4, tf5, tf6, tf7, tf8, hcF, hiF⟩ := hTZ
              obtain ⟨tw1, tw2, tw3, tw4, tw5, tw6, tw7, tw8, hcW, hiW⟩ := hTW
              have hl1 := lt_of_heap hcA
              have hl2 := lt_of_heap hcB
              have hl3 := lt_of_heap hcF
              have hl4 := lt_of_heap hcW
              have HC := Lib.hid (fun (w' : World) (hb : Below w6.heap.size w6 w') => And.intro (tag_cells ((hb.block _ hl1).trans hcA)) (And.intro (tag_cells ((hb.block _ hl2).trans hcB)) (And.intro (tag_cells ((hb.block _ hl3).trans hcF)) (And.intro (tag_cells ((hb.block _ hl4).trans hcW)) (HBOX.out w' (hB6.trans (hb.mono hB6.size))).2.2))))
              have fA : TagFits TA := HFA.out
              have fB : TagFits TB := HFB.out
              have fF : TagFits TF := HFF.out
              have XY := Lib.hid (fun w5 (hb : Below w6.heap.size w6 w5) => (same_own _ _ TA TB w5 (hiA.below hb) (hiB.below hb) fA).mono (R' := fun e w7 => e = .returned (.bool (sameT TA TB)) ∧ Below w6.heap.size w6 w7) fun e w7 ⟨p, q⟩ => ⟨p, hb.trans (q.mono hb.size)⟩)
              have YX := Lib.hid (fun w5 (hb : Below w6.heap.size w6 w5) => (same_own _ _ TB TA w5 (hiB.below hb) (hiA.below hb) fB).mono (R' := fun e w7 => e = .returned (.bool (sameT TA TB)) ∧ Below w6.heap.size w6 w7) fun e w7 ⟨p, q⟩ => ⟨by rw [p, sameT_comm], hb.trans (q.mono hb.size)⟩)
              have XX := Lib.hid (fun w5 (hb : Below w6.heap.size w6 w5) => (same_own _ _ TA TA w5 (hiA.below hb) (hiA.below hb) fA).mono (R' := fun e w7 => e = .returned (.bool true) ∧ Below w6.heap.size w6 w7) fun e w7 ⟨p, q⟩ => ⟨by rw [p, sameT_self], hb.trans (q.mono hb.size)⟩)
              have XZ := Lib.hid (fun w5 (hb : Below w6.heap.size w6 w5) => (same_own _ _ TA TF w5 (hiA.below hb) (hiF.below hb) fA).mono (R' := fun e w7 => e = .returned (.bool (sameT TA TF)) ∧ Below w6.heap.size w6 w7) fun e w7 ⟨p, q⟩ => ⟨p, hb.trans (q.mono hb.size)⟩)
              have ZW := Lib.hid (fun w5 (hb : Below w6.heap.size w6 w5) => (same_own _ _ TF TW w5 (hiF.below hb) (hiW.below hb) fF).mono (R' := fun e w7 => e = .returned (.bool false) ∧ Below w6.heap.size w6 w7) fun e w7 ⟨p, q⟩ => ⟨by rw [p, HZW.out], hb.trans (q.mono hb.size)⟩)
              have RXY := Lib.hid (fun w5 (hb : Below w6.heap.size w6 w5) => (same_ref _ _ TA TB w5 (hiA.below hb) (hiB.below hb) fA).mono (R' := fun e w7 => e = .returned (.bool (sameT TA TB)) ∧ Below w6.heap.size w6 w7) fun e w7 ⟨p, q⟩ => ⟨p, hb.trans (q.mono hb.size)⟩)
              have RXZ := Lib.hid (fun w5 (hb : Below w6.heap.size w6 w5) => (same_ref _ _ TA TF w5 (hiA.below hb) (hiF.below hb) fA).mono (R' := fun e w7 => e = .returned (.bool (sameT TA TF)) ∧ Below w6.heap.size w6 w7) fun e w7 ⟨p, q⟩ => ⟨p, hb.trans (q.mono hb.size)⟩)
              have FZ := Lib.hid (fun w5 (hb : Below w6.heap.size w6 w5) => (FW.out w5 (hB6.trans (hb.mono hB6.size))).mono (R' := fun e w7 => ∃ f1 f2 f3 f4 f5 f6 f7 f8, e = .returned (.agg #[.string TF.lang, .slice f1 TF.extl.length f2, .string TF.script, .string TF.region, .slice f3 TF.vars.length f4, .slice f5 TF.exts.length f6, .slice f7 TF.priv.length f8, .string TF.grand]) ∧ TagIs w7 (.agg #[.string TF.lang, .slice f1 TF.extl.length f2, .string TF.script, .string TF.region, .slice f3 TF.vars.length f4, .slice f5 TF.exts.length f6, .slice f7 TF.priv.length f8, .string TF.grand]) TF ∧ Below w6.heap.size w6 w7) fun e w7 ⟨x, y, xx, z, p, q, o1, o2, o3, b2, o4, _⟩ => by
                have hTI := few_is (l := cut12 l) (s := cut12 s) (r := cut12 r) (g := cut12 g) o1 o2 o3 o4
                obtain ⟨ae, ac, av, vc, ax, xc, ap, pc, hsh⟩ := tag_shape hTI
                rw [HTF.out]
                exact ⟨ae, ac, av, vc, ax, xc, ap, pc, p.trans (congrArg _ hsh), hsh ▸ hTI, hb.trans (q.mono hb.size)⟩)
              have ZF := Lib.hid (fun w5 (hb : Below w6.heap.size w6 w5) (v : Value) (hv : TagIs w5 v TF) => (same_own _ v TF TF w5 (hiF.below hb) hv fF).mono (R' := fun e w7 => e = .returned (.bool true) ∧ Below w6.heap.size w6 w7) fun e w7 ⟨p, q⟩ => ⟨by rw [p, sameT_self], hb.trans (q.mono hb.size)⟩)
              have EE := Lib.hid (fun w5 (hb : Below w6.heap.size w6 w5) (ao : Option Addr) => (same_own (.agg #[.string ByteArray.empty, .slice none 0 0, .string ByteArray.empty, .string ByteArray.empty, .slice ao 0 0, .slice none 0 0, .slice none 0 0, .string ByteArray.empty]) (.agg #[.string ByteArray.empty, .slice none 0 0, .string ByteArray.empty, .string ByteArray.empty, .slice none 0 0, .slice none 0 0, .slice none 0 0, .string ByteArray.empty]) noT noT w5 (no_is w5 ao) (no_is w5 none) no_fits).mono (R' := fun e w7 => e = .returned (.bool true) ∧ Below w6.heap.size w6 w7) fun e w7 ⟨p, q⟩ => ⟨by rw [p, sameT_self], hb.trans (q.mono hb.size)⟩)
              have hBd : Below w6.heap.size w6 w6.drew := Below.drew (Below.refl _ _)
              have HB6 := Lib.hid hB6
              clear hiA hiB hiF hiW hcA hcB hcF hcW fA fB fF hB6 hB4 hB2 hB1 hB0 hbB
              generalize sameT TA TB = q1 at *
              generalize sameT TA TF = q2 at *
              have hq1 : (q1 == q1) = true := beq_self_eq_true _
              have hq2 : (q2 == q2) = true := beq_self_eq_true _
              go_region_held3 (fun w' => Below w6.heap.size w6 w' ∧ (w'.cell? ⟨bx, 0, none⟩ = some (.string TA.lang) ∧ w'.cell? ⟨bx, 1, none⟩ = some (.slice ta1 TA.extl.length ta2) ∧ w'.cell? ⟨bx, 2, none⟩ = some (.string TA.script) ∧ w'.cell? ⟨bx, 3, none⟩ = some (.string TA.region) ∧ w'.cell? ⟨bx, 4, none⟩ = some (.slice ta3 TA.vars.length ta4) ∧ w'.cell? ⟨bx, 5, none⟩ = some (.slice ta5 TA.exts.length ta6) ∧ w'.cell? ⟨bx, 6, none⟩ = some (.slice ta7 TA.priv.length ta8) ∧ w'.cell? ⟨bx, 7, none⟩ = some (.string TA.grand)) ∧ (w'.cell? ⟨bY, 0, none⟩ = some (.string TB.lang) ∧ w'.cell? ⟨bY, 1, none⟩ = some (.slice tb1 TB.extl.length tb2) ∧ w'.cell? ⟨bY, 2, none⟩ = some (.string TB.script) ∧ w'.cell? ⟨bY, 3, none⟩ = some (.string TB.region) ∧ w'.cell? ⟨bY, 4, none⟩ = some (.slice tb3 TB.vars.length tb4) ∧ w'.cell? ⟨bY, 5, none⟩ = some (.slice tb5 TB.exts.length tb6) ∧ w'.cell? ⟨bY, 6, none⟩ = some (.slice tb7 TB.priv.length tb8) ∧ w'.cell? ⟨bY, 7, none⟩ = some (.string TB.grand)) ∧ (w'.cell? ⟨bz, 0, none⟩ = some (.string TF.lang) ∧ w'.cell? ⟨bz, 1, none⟩ = some (.slice tf1 TF.extl.length tf2) ∧ w'.cell? ⟨bz, 2, none⟩ = some (.string TF.script) ∧ w'.cell? ⟨bz, 3, none⟩ = some (.string TF.region) ∧ w'.cell? ⟨bz, 4, none⟩ = some (.slice tf3 TF.vars.length tf4) ∧ w'.cell? ⟨bz, 5, none⟩ = some (.slice tf5 TF.exts.length tf6) ∧ w'.cell? ⟨bz, 6, none⟩ = some (.slice tf7 TF.priv.length tf8) ∧ w'.cell? ⟨bz, 7, none⟩ = some (.string TF.grand)) ∧ (w'.cell? ⟨bw, 0, none⟩ = some (.string TW.lang) ∧ w'.cell? ⟨bw, 1, none⟩ = some (.slice tw1 TW.extl.length tw2) ∧ w'.cell? ⟨bw, 2, none⟩ = some (.string TW.script) ∧ w'.cell? ⟨bw, 3, none⟩ = some (.string TW.region) ∧ w'.cell? ⟨bw, 4, none⟩ = some (.slice tw3 TW.vars.length tw4) ∧ w'.cell? ⟨bw, 5, none⟩ = some (.slice tw5 TW.exts.length tw6) ∧ w'.cell? ⟨bw, 6, none⟩ = some (.slice tw7 TW.priv.length tw8) ∧ w'.cell? ⟨bw, 7, none⟩ = some (.string TW.grand)) ∧ (w'.cell? ⟨w.heap.size + 1 + 1, 0, none⟩ = some (.string l) ∧ w'.cell? ⟨w.heap.size + 1 + 1, 1, none⟩ = some (ve) ∧ w'.cell? ⟨w.heap.size + 1 + 1, 2, none⟩ = some (.string s) ∧ w'.cell? ⟨w.heap.size + 1 + 1, 3, none⟩ = some (.string r) ∧ w'.cell? ⟨w.heap.size + 1 + 1, 4, none⟩ = some (vv) ∧ w'.cell? ⟨w.heap.size + 1 + 1, 5, none⟩ = some (vx) ∧ w'.cell? ⟨w.heap.size + 1 + 1, 6, none⟩ = some (vp) ∧ w'.cell? ⟨w.heap.size + 1 + 1, 7, none⟩ = some (.string g)))
                (first | exact ⟨by assumption, HC.out _ (by assumption)⟩ | exact ⟨Below.alloc (by assumption) (Below.size (by assumption)) _, HC.out _ (Below.alloc (by assumption) (Below.size (by assumption)) _)⟩)
                (first
                  | (go_at_call 26; (first | (with_reducible refine (XY.out _ (by assumption)).mono ?_) | (with_reducible refine (YX.out _ (by assumption)).mono ?_) | (with_reducible refine (XX.out _ (by assumption)).mono ?_) | (with_reducible refine (XZ.out _ (by assumption)).mono ?_) | (with_reducible refine (ZW.out _ (by assumption)).mono ?_) | (with_reducible refine (ZF.out _ (by assumption) _ (by assumption)).mono ?_) | (refine (EE.out _ (Below.alloc (by assumption) (Below.size (by assumption)) _) _).mono ?_) | (refine (EE.out _ (by assumption) _).mono ?_)); rintro e w9 ⟨rfl, hb9⟩)
                  | (go_at_call 27; (first | (with_reducible refine (RXY.out _ (by assumption)).mono ?_) | (with_reducible refine (RXZ.out _ (by assumption)).mono ?_)); rintro e w9 ⟨rfl, hb9⟩)
                  | (go_at_call 23; (with_reducible refine (FZ.out _ (by assumption)).mono ?_); rintro e w9 ⟨f1, f2, f3, f4, f5, f6, f7, f8, rfl, hfi, hb9⟩))
              all_goals
                go_wp2_with fail
                go_ret
                exact ⟨rfl, HB3.out.trans ((HB6.out.mono hs3).trans (hb9.mono (Nat.le_trans hs3 HB6.out.size)))⟩
end Go.Proofs.Ytdgeaelblebaoaa
