/-
  DataChecks: its statement (the tied card), for every input. Condition: the listed variables are as the program's text lays them (tied by the card).
-/
import Derived.Test.YtbafmnafhaoggaaGreatDoorRows
import Derived.Test.YtbafmnafhaoggaaGreatDoorLdLaw
import Derived.Test.YtbafmnafhaoggaaGreatDoorRowKits
import Derived.Test.YtbafmnafhaoggaaGreatDoorCards
import Derived.Test.YtbafmnafhaoggaaGreatDoorTie
import Derived.ProofKit
import Derived.OpenShut
import Derived.ChangeMaps5
import Derived.LaidMore
import Derived.Lay
import Derived.SevenTiedAt
import Derived.Stop.Joined
namespace Go.Proofs.YtbafmnafhaoggaaGreatDoor
open Go.ChangeShapes Go.WideShapes Go.ChangeAt Go.ChangeMaps Go.RowKit

theorem gl_of_laidD {W : World} (h : laidMetH Tryz.prog Rows.dataChecksRow.laid W) : GL W := by
  rw [show Rows.dataChecksRow.laid = [("unicode/utf8.acceptRanges", Rows.laid_unicode_utf8_acceptRanges), ("isogloss/grand.tags", Rows.laid_isogloss_grand_tags), ("unicode/utf8.first", Rows.laid_unicode_utf8_first)] from rfl] at h
  rw [MakeChecks.laidMetH_plain _ _ _ (by kernel_rfl)] at h
  obtain ⟨ps, ⟨_, _, _, _, _, _, _, _, _, _, ⟨g', t', cs, fuel, p, q, hg', ht', hvar, hd, _, _⟩, _⟩, _⟩ := h
  have hty : (Tryz.prog.globals[1]?).map (·.type) = some 236 := by kernel_rfl
  obtain rfl := Option.some.inj (gGlobal.symm.trans hg')
  obtain rfl := Option.some.inj (hty.symm.trans ht')
  have hd' : DataW.trod _ Tryz.prog W 0 _ _ fuel 236 cs.toList = some (.agg gData, p) := hd
  have := tags_cells hd'
  show World.var? _ _ _ = _
  rw [hvar, ← this]

theorem dataChecks_own : ownKnob Tryz.prog.godebug = none := by kernel_rfl
def dataChecks_laid : List (String × DataW Unit) := Rows.dataChecksRow.laid

set_option maxRecDepth 100000 in
theorem dataChecks_lifted (os : Os) (started : os.Started) (H : Type) (enc : TypeId × Value → H) :
    ReturnsInHanded {} Tryz.checked os 3 .any (fun w args => (Rows.dataChecksSpec.pre enc Tryz.prog Tryz.f3 [] false w args ∧ laidMetH Tryz.prog dataChecks_laid w) ∧ sizedMet enc Tryz.prog Tryz.f3 (OpenSpec.ofChange Rows.dataChecksSpec) false w args)
      (Rows.dataChecksSpec.post enc Tryz.prog Tryz.f3 false true false false) := by
  refine returnsInHanded_of_change_and (C := Tryz.checked) (X := fun w _ => laidMetH Tryz.prog dataChecks_laid w) (fun _ _ _ hh h => h.of_heap hh) dataChecks_own started (by kernel_rfl) Tryz.func3
    (ChangeSpec.witness_shaped (enc := enc) (C := Tryz.checked) (os := os) (X := fun w _ => laidMetH Tryz.prog dataChecks_laid w) false (World.laidAll Tryz.prog os dataChecks_laid) #[.int .i64 0, .int .u8 0] 8 (World.laidAll_os _ _ _)
      (World.shaped_of_ZipB (by kernel_rfl) (by kernel_rfl)) (by kernel_rfl) (by kernel_rfl) (by kernel_rfl)
      (by rw [MakeChecks.laidMetH_plain _ _ _ (by kernel_rfl)]; exact laidMet_laidAll _ (by kernel_rfl) (by kernel_rfl))) ?_
  intro W base args ds gs before hval0 hW _ _ hL _
  have hval : ∀ (j : Nat) t v, Tryz.f3.params[j]? = some t → args[j]? = some v → Value.okWide Tryz.prog W .any base t v := hval0
  have hW' := hW
  obtain ⟨p, q, hA0, hV, rfl, hfz, hnd⟩ := hW
  have hA : DataW.TrodAll enc Tryz.prog W 0 (fun _ => true) true Tryz.f3.params.toList args.toList ds p := hA0
  rw [Tryz.params3] at hA hval
  obtain ⟨v0, vs0, d0, ds0, p0, q0, hargs, rfl, rfl, h0, r0⟩ := trodAll_cons hA
  obtain ⟨v1, vs1, d1, ds1, p1, q1, rfl, rfl, rfl, h1, r1⟩ := trodAll_cons r0
  obtain ⟨rfl, rfl, rfl⟩ := trodAll_nil r1
  obtain rfl : args = #[v0, v1] := by cases args; simp_all
  obtain ⟨rfl, rfl⟩ := trodVars_none hV
  have k0 := h0
  have lt0 : ∀ x ∈ p0, x.block < W.heap.size := by obtain ⟨m, hm⟩ := k0; exact DataW.trod_lt m _ _ _ hm
  obtain ⟨a0, rfl, _, _, _⟩ := open_int Tryz.underlying3 (hval 0 3 v0 rfl rfl) h0
  have k1 := h1
  have lt1 : ∀ x ∈ p1, x.block < W.heap.size := by obtain ⟨m, hm⟩ := k1; exact DataW.trod_lt m _ _ _ hm
  obtain ⟨a1, rfl, _, _, w1⟩ := open_int Tryz.underlying5 (hval 1 5 v1 rfl rfl) h1
  clear hA0 hval0
  refine (dataChecks_law a0 a1 W w1 (gl_of_laidD hL)).mono fun e W' ⟨he, bel⟩ => ?_
  subst he
  exact ⟨_, rfl, _, _, _, [], _, [], hW', trodAll_mk1 (shut_bool Tryz.underlying4 _), (trodAll_cons_mk (Below.trod laidOut (by kernel_rfl) (of_decide_eq_true (by kernel_rfl)) k0 bel lt0) (trodAll_cons_mk (Below.trod laidOut (by kernel_rfl) (of_decide_eq_true (by kernel_rfl)) k1 bel lt1) trodAll_mk0)), rfl, bel.frame _, fun h => by cases h⟩

theorem dataChecks_andJ {a b : Bool} (h1 : a = true) (h2 : b = true) : (a && b) = true := by rw [h1, h2]; rfl
theorem dataChecks_j0 : (Rows.dataChecksRow.wf (OpenSpec.ofChange Rows.dataChecksSpec)) = true := by kernel_rfl
theorem dataChecks_j1 : (laidOutB Tryz.prog) = true := by kernel_rfl
theorem dataChecks_j2 : (mapsRowed Tryz.prog) = true := by kernel_rfl
theorem dataChecks_j3 : (Tryz.f3.params.all (Tryz.prog.readableRec ·)) = true := by kernel_rfl
theorem dataChecks_j4 : (namedTie Tryz.prog Rows.dataChecksRow.named Rows.dataChecksSpec.vars) = true := by kernel_rfl
theorem dataChecks_j5 : ((Rows.dataChecksRow.stops == [])) = true := by kernel_rfl
theorem dataChecks_j6 : ((Tryz.prog.stops == [])) = true := by kernel_rfl
theorem dataChecks_j7 : ((Rows.dataChecksRow.knobs == [])) = true := by kernel_rfl
theorem dataChecks_j8 : ((Tryz.prog.stopKnobs == [])) = true := by kernel_rfl
theorem dataChecks_j9 : ((Rows.dataChecksRow.inPlace == Tryz.prog.inPlace 3)) = true := by kernel_rfl
theorem dataChecks_j10 : ((Rows.dataChecksRow.unfollowed == Tryz.prog.unfollowed 3)) = true := by kernel_rfl
theorem dataChecks_j11 : ((Rows.dataChecksRow.recurses == Tryz.prog.recurses 3)) = true := by kernel_rfl
theorem dataChecks_j12 : ((Rows.dataChecksRow.named == Tryz.prog.varsNamed 3)) = true := by kernel_rfl
theorem dataChecks_j13 : ((Rows.dataChecksRow.maps == (Tryz.f3.params.toList ++ Rows.dataChecksSpec.plain.varTypes Tryz.prog).any (Tryz.prog.mapsRec ·))) = true := by kernel_rfl
theorem dataChecks_j14 : ((Rows.dataChecksRow.ifaces == (Tryz.f3.params.toList ++ Rows.dataChecksSpec.plain.varTypes Tryz.prog).any (Tryz.prog.ifacesRec ·))) = true := by kernel_rfl
theorem dataChecks_j15 : ((Rows.dataChecksRow.mapsOut == Tryz.prog.mapsAmong Tryz.f3.resultTypes.toList)) = true := by kernel_rfl
theorem dataChecks_j16 : ((Rows.dataChecksRow.loops == (Tryz.f3.params.toList ++ Rows.dataChecksSpec.plain.varTypes Tryz.prog).any (Tryz.prog.loopsFrom ·))) = true := by kernel_rfl
theorem dataChecks_j17 : ((Rows.dataChecksRow.wideKeys == (Tryz.f3.params.toList ++ Rows.dataChecksSpec.plain.varTypes Tryz.prog ++ Tryz.f3.resultTypes.toList).any (Tryz.prog.wideKeysFrom ·))) = true := by kernel_rfl
theorem dataChecks_j18 : (Rows.dataChecksSpec.vars.all (Tryz.prog.varReadable ·)) = true := by kernel_rfl
theorem dataChecks_j19 : (Tryz.f3.resultTypes.all (fun t => Tryz.prog.readableRec t && decide (t < Tryz.prog.types.size))) = true := by kernel_rfl
theorem dataChecks_j20 : ((Rows.dataChecksRow.ifacesOut == Tryz.f3.resultTypes.toList.any (Tryz.prog.ifacesRec ·))) = true := by kernel_rfl
theorem dataChecks_j21 : ((Rows.dataChecksRow.loopsOut == Tryz.f3.resultTypes.toList.any (Tryz.prog.loopsFrom ·))) = true := by kernel_rfl
theorem dataChecks_j22 : ((Rows.dataChecksRow.plainKeys == Tryz.prog.plainKeys)) = true := by kernel_rfl
theorem dataChecks_j23 : (Rows.dataChecksRow.shortTexts.isNone) = true := by kernel_rfl
theorem dataChecks_j24 : (Tryz.prog.stopsHeard) = true := by kernel_rfl
theorem dataChecks_j25 : (Tryz.prog.mayEnter) = true := by kernel_rfl
theorem dataChecks_j26 : ((Rows.dataChecksRow.lifted == Tryz.prog.liftsFinal)) = true := by kernel_rfl
theorem dataChecks_j27 : ((Tryz.prog.make == some Rows.dataChecksRow.make)) = true := by kernel_rfl
theorem dataChecks_j28 : ((Rows.dataChecksRow.kinds == (if Rows.dataChecksRow.domain.isEmpty then [] else Tryz.f3.params.toList.map fun t => match Tryz.prog.underlying t with | some (.int k) => some k | _ => none))) = true := by kernel_rfl
theorem dataChecks_j29 : ((Rows.dataChecksRow.pinned == Rows.dataChecksRow.pinnedBy)) = true := by kernel_rfl
theorem dataChecks_j30 : ((Rows.dataChecksRow.veiled == (Tryz.f3.params.toList ++ Rows.dataChecksSpec.plain.varTypes Tryz.prog ++ Tryz.f3.resultTypes.toList).any (Tryz.prog.veiledRec ·))) = true := by kernel_rfl
theorem dataChecks_j31 : (Rows.dataChecksRow.veiledFits Tryz.prog Tryz.f3.params.toList (Tryz.f3.params.toList ++ Rows.dataChecksSpec.plain.varTypes Tryz.prog ++ Tryz.f3.resultTypes.toList)) = true := by kernel_rfl
set_option maxRecDepth 100000 in
theorem dataChecks_joined : joinedFacts Tryz.prog 3 Tryz.f3 Rows.dataChecksSpec Rows.dataChecksRow = true := by
  unfold joinedFacts
  exact (dataChecks_andJ (dataChecks_andJ (dataChecks_andJ (dataChecks_andJ (dataChecks_andJ (dataChecks_andJ (dataChecks_andJ (dataChecks_andJ (dataChecks_andJ (dataChecks_andJ (dataChecks_andJ (dataChecks_andJ (dataChecks_andJ (dataChecks_andJ (dataChecks_andJ (dataChecks_andJ (dataChecks_andJ (dataChecks_andJ (dataChecks_andJ (dataChecks_andJ (dataChecks_andJ (dataChecks_andJ (dataChecks_andJ (dataChecks_andJ (dataChecks_andJ (dataChecks_andJ (dataChecks_andJ (dataChecks_andJ (dataChecks_andJ (dataChecks_andJ (dataChecks_andJ dataChecks_j0 dataChecks_j1) dataChecks_j2) dataChecks_j3) dataChecks_j4) dataChecks_j5) dataChecks_j6) dataChecks_j7) dataChecks_j8) dataChecks_j9) dataChecks_j10) dataChecks_j11) dataChecks_j12) dataChecks_j13) dataChecks_j14) dataChecks_j15) dataChecks_j16) dataChecks_j17) dataChecks_j18) dataChecks_j19) dataChecks_j20) dataChecks_j21) dataChecks_j22) dataChecks_j23) dataChecks_j24) dataChecks_j25) dataChecks_j26) dataChecks_j27) dataChecks_j28) dataChecks_j29) dataChecks_j30) dataChecks_j31)

theorem dataChecks_over : Rows.DataChecksSaid :=
  OpenClaim.holds_of_wide 3 Tryz.f3 rfl rfl rfl rfl rfl rfl rfl ⟨rfl, rfl, rfl, rfl, rfl⟩ rfl rfl rfl rfl rfl (by kernel_rfl) Tryz.func3 dataChecks_joined
    (of_decide_eq_true (by kernel_rfl)) (by unfold Func.isWrapper; rw [if_neg (of_decide_eq_false (by kernel_rfl))]; exact ⟨rfl, rfl⟩)
    (fun os started H enc _ => dataChecks_lifted os started H enc)

theorem dataChecks_h1 : Rows.dataChecksRow.wfByText (OpenSpec.ofChange Rows.dataChecksSpec) = true := by kernel_rfl
theorem dataChecks_h2 : Tryz.prog.mainIs = some (((true, "043fa362b6e60f98305392692c03d224d3de95721b3218b5b9d52e2cbccaa11b") : Bool × String).1, ((true, "043fa362b6e60f98305392692c03d224d3de95721b3218b5b9d52e2cbccaa11b") : Bool × String).2.toList) := by kernel_rfl
theorem dataChecks_h3 : false = Tryz.prog.looks [] := by kernel_rfl
theorem dataChecks_h4 : false = Rows.dataChecksRow.goesBy Tryz.prog := by kernel_rfl
theorem dataChecks_h5 : Tryz.prog.funcNamed "isogloss/isoglosslaw15.DataChecks" = some 3 := by kernel_rfl

/-- The statement. -/
theorem dataChecks_holds : Rows.DataChecksCardSaid :=
  Claim7.holds_tied_plain_at .later [] [.data, .data, .pinned] true (true, "043fa362b6e60f98305392692c03d224d3de95721b3218b5b9d52e2cbccaa11b") false
    dataChecks_over (fun _ h => by cases h) dataChecks_h1 (fun _ h => by cases h) dataChecks_row_tie rfl ⟨rfl, rfl⟩ dataChecks_h2 rfl
    (fun f fn hf hfn => by
      obtain rfl : f = 3 := Option.some.inj (dataChecks_h5.symm.trans hf) |>.symm
      obtain rfl : fn = Tryz.f3 := (Option.some.inj (Tryz.func3.symm.trans hfn)).symm
      exact ⟨dataChecks_h3, fun j t ht => by
        rw [Tryz.params3] at ht
        have hm : t ∈ [3, 5] := by simpa using Array.mem_of_getElem? ht
        have hall : ([3, 5].all fun u => !Tryz.prog.wantsStandIn u) = true := by kernel_rfl
        exact (show Tryz.prog.wantsStandIn t = false by simpa using List.all_eq_true.1 hall t hm)⟩)
    dataChecks_h4
end Go.Proofs.YtbafmnafhaoggaaGreatDoor
