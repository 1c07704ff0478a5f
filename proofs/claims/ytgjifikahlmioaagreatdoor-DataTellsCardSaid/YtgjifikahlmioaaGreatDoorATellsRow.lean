/-
  DataTells: its statement (the tied card), for every input. Condition: the listed variables are as the program's text lays them (tied by the card).
-/
import Derived.Test.YtgjifikahlmioaaGreatDoorRows
import Derived.Test.YtgjifikahlmioaaGreatDoorATellsM
import Derived.Test.YtgjifikahlmioaaGreatDoorRowKits
import Derived.Test.YtgjifikahlmioaaGreatDoorCards
import Derived.Test.YtgjifikahlmioaaGreatDoorTie
import Derived.ProofKit
import Derived.OpenShut
import Derived.ChangeMaps5
import Derived.LaidMore
import Derived.Lay
import Derived.SevenTiedAt
import Derived.Stop.Joined
namespace Go.Proofs.YtgjifikahlmioaaGreatDoor
open Go.ChangeShapes Go.WideShapes Go.ChangeAt Go.ChangeMaps Go.RowKit

theorem dataTells_own : ownKnob Tryz.prog.godebug = none := by kernel_rfl
def dataTells_laid : List (String × DataW Unit) := Rows.dataTellsRow.laid

set_option maxRecDepth 100000 in
theorem dataTells_lifted (os : Os) (started : os.Started) (H : Type) (enc : TypeId × Value → H) :
    ReturnsInHanded {} Tryz.checked os 5 .any (fun w args => (Rows.dataTellsSpec.pre enc Tryz.prog Tryz.f5 [] false w args ∧ laidMetH Tryz.prog dataTells_laid w) ∧ sizedMet enc Tryz.prog Tryz.f5 (OpenSpec.ofChange Rows.dataTellsSpec) false w args)
      (Rows.dataTellsSpec.post enc Tryz.prog Tryz.f5 false true false false) := by
  refine returnsInHanded_of_change_and (C := Tryz.checked) (X := fun w _ => laidMetH Tryz.prog dataTells_laid w) (fun _ _ _ hh h => h.of_heap hh) dataTells_own started (by kernel_rfl) Tryz.func5
    (ChangeSpec.witness_shaped (enc := enc) (C := Tryz.checked) (os := os) (X := fun w _ => laidMetH Tryz.prog dataTells_laid w) false (World.laidAll Tryz.prog os dataTells_laid) #[.int .i64 0] 8 (World.laidAll_os _ _ _)
      (World.shaped_of_ZipB (by kernel_rfl) (by kernel_rfl)) (by kernel_rfl) (by kernel_rfl) (by kernel_rfl)
      (by rw [MakeChecks.laidMetH_plain _ _ _ (by kernel_rfl)]; exact laidMet_laidAll _ (by kernel_rfl) (by kernel_rfl))) ?_
  intro W base args ds gs before hval0 hW _ _ hL _
  have hval : ∀ (j : Nat) t v, Tryz.f5.params[j]? = some t → args[j]? = some v → Value.okWide Tryz.prog W .any base t v := hval0
  have hW' := hW
  obtain ⟨p, q, hA0, hV, rfl, hfz, hnd⟩ := hW
  have hA : DataW.TrodAll enc Tryz.prog W 0 (fun _ => true) true Tryz.f5.params.toList args.toList ds p := hA0
  rw [Tryz.params5] at hA hval
  obtain ⟨v0, vs0, d0, ds0, p0, q0, hargs, rfl, rfl, h0, r0⟩ := trodAll_cons hA
  obtain ⟨rfl, rfl, rfl⟩ := trodAll_nil r0
  obtain rfl : args = #[v0] := by cases args; simp_all
  obtain ⟨rfl, rfl⟩ := trodVars_none hV
  have k0 := h0
  have lt0 : ∀ x ∈ p0, x.block < W.heap.size := by obtain ⟨m, hm⟩ := k0; exact DataW.trod_lt m _ _ _ hm
  obtain ⟨a0, rfl, _, _, w0⟩ := open_int Tryz.underlying3 (hval 0 3 v0 rfl rfl) h0
  clear hA0 hval0
  refine (dataTells_law a0 W w0 (gl_of_laid hL)).mono fun e W' ⟨he, bel⟩ => ?_
  subst he
  exact ⟨_, rfl, _, _, _, [], _, [], hW', trodAll_mk1 (shut_bool Tryz.underlying4 _), (trodAll_cons_mk (Below.trod laidOut (by kernel_rfl) (of_decide_eq_true (by kernel_rfl)) k0 bel lt0) trodAll_mk0), rfl, bel.frame _, fun h => by cases h⟩

theorem dataTells_andJ {a b : Bool} (h1 : a = true) (h2 : b = true) : (a && b) = true := by rw [h1, h2]; rfl
theorem dataTells_j0 : (Rows.dataTellsRow.wf (OpenSpec.ofChange Rows.dataTellsSpec)) = true := by kernel_rfl
theorem dataTells_j1 : (laidOutB Tryz.prog) = true := by kernel_rfl
theorem dataTells_j2 : (mapsRowed Tryz.prog) = true := by kernel_rfl
theorem dataTells_j3 : (Tryz.f5.params.all (Tryz.prog.readableRec ·)) = true := by kernel_rfl
theorem dataTells_j4 : (namedTie Tryz.prog Rows.dataTellsRow.named Rows.dataTellsSpec.vars) = true := by kernel_rfl
theorem dataTells_j5 : ((Rows.dataTellsRow.stops == [])) = true := by kernel_rfl
theorem dataTells_j6 : ((Tryz.prog.stops == [])) = true := by kernel_rfl
theorem dataTells_j7 : ((Rows.dataTellsRow.knobs == [])) = true := by kernel_rfl
theorem dataTells_j8 : ((Tryz.prog.stopKnobs == [])) = true := by kernel_rfl
theorem dataTells_j9 : ((Rows.dataTellsRow.inPlace == Tryz.prog.inPlace 5)) = true := by kernel_rfl
theorem dataTells_j10 : ((Rows.dataTellsRow.unfollowed == Tryz.prog.unfollowed 5)) = true := by kernel_rfl
theorem dataTells_j11 : ((Rows.dataTellsRow.recurses == Tryz.prog.recurses 5)) = true := by kernel_rfl
theorem dataTells_j12 : ((Rows.dataTellsRow.named == Tryz.prog.varsNamed 5)) = true := by kernel_rfl
theorem dataTells_j13 : ((Rows.dataTellsRow.maps == (Tryz.f5.params.toList ++ Rows.dataTellsSpec.plain.varTypes Tryz.prog).any (Tryz.prog.mapsRec ·))) = true := by kernel_rfl
theorem dataTells_j14 : ((Rows.dataTellsRow.ifaces == (Tryz.f5.params.toList ++ Rows.dataTellsSpec.plain.varTypes Tryz.prog).any (Tryz.prog.ifacesRec ·))) = true := by kernel_rfl
theorem dataTells_j15 : ((Rows.dataTellsRow.mapsOut == Tryz.prog.mapsAmong Tryz.f5.resultTypes.toList)) = true := by kernel_rfl
theorem dataTells_j16 : ((Rows.dataTellsRow.loops == (Tryz.f5.params.toList ++ Rows.dataTellsSpec.plain.varTypes Tryz.prog).any (Tryz.prog.loopsFrom ·))) = true := by kernel_rfl
theorem dataTells_j17 : ((Rows.dataTellsRow.wideKeys == (Tryz.f5.params.toList ++ Rows.dataTellsSpec.plain.varTypes Tryz.prog ++ Tryz.f5.resultTypes.toList).any (Tryz.prog.wideKeysFrom ·))) = true := by kernel_rfl
theorem dataTells_j18 : (Rows.dataTellsSpec.vars.all (Tryz.prog.varReadable ·)) = true := by kernel_rfl
theorem dataTells_j19 : (Tryz.f5.resultTypes.all (fun t => Tryz.prog.readableRec t && decide (t < Tryz.prog.types.size))) = true := by kernel_rfl
theorem dataTells_j20 : ((Rows.dataTellsRow.ifacesOut == Tryz.f5.resultTypes.toList.any (Tryz.prog.ifacesRec ·))) = true := by kernel_rfl
theorem dataTells_j21 : ((Rows.dataTellsRow.loopsOut == Tryz.f5.resultTypes.toList.any (Tryz.prog.loopsFrom ·))) = true := by kernel_rfl
theorem dataTells_j22 : ((Rows.dataTellsRow.plainKeys == Tryz.prog.plainKeys)) = true := by kernel_rfl
theorem dataTells_j23 : (Rows.dataTellsRow.shortTexts.isNone) = true := by kernel_rfl
theorem dataTells_j24 : (Tryz.prog.stopsHeard) = true := by kernel_rfl
theorem dataTells_j25 : (Tryz.prog.mayEnter) = true := by kernel_rfl
theorem dataTells_j26 : ((Rows.dataTellsRow.lifted == Tryz.prog.liftsFinal)) = true := by kernel_rfl
theorem dataTells_j27 : ((Tryz.prog.make == some Rows.dataTellsRow.make)) = true := by kernel_rfl
theorem dataTells_j28 : ((Rows.dataTellsRow.kinds == (if Rows.dataTellsRow.domain.isEmpty then [] else Tryz.f5.params.toList.map fun t => match Tryz.prog.underlying t with | some (.int k) => some k | _ => none))) = true := by kernel_rfl
theorem dataTells_j29 : ((Rows.dataTellsRow.pinned == Rows.dataTellsRow.pinnedBy)) = true := by kernel_rfl
theorem dataTells_j30 : ((Rows.dataTellsRow.veiled == (Tryz.f5.params.toList ++ Rows.dataTellsSpec.plain.varTypes Tryz.prog ++ Tryz.f5.resultTypes.toList).any (Tryz.prog.veiledRec ·))) = true := by kernel_rfl
theorem dataTells_j31 : (Rows.dataTellsRow.veiledFits Tryz.prog Tryz.f5.params.toList (Tryz.f5.params.toList ++ Rows.dataTellsSpec.plain.varTypes Tryz.prog ++ Tryz.f5.resultTypes.toList)) = true := by kernel_rfl
set_option maxRecDepth 100000 in
theorem dataTells_joined : joinedFacts Tryz.prog 5 Tryz.f5 Rows.dataTellsSpec Rows.dataTellsRow = true := by
  unfold joinedFacts
  exact (dataTells_andJ (dataTells_andJ (dataTells_andJ (dataTells_andJ (dataTells_andJ (dataTells_andJ (dataTells_andJ (dataTells_andJ (dataTells_andJ (dataTells_andJ (dataTells_andJ (dataTells_andJ (dataTells_andJ (dataTells_andJ (dataTells_andJ (dataTells_andJ (dataTells_andJ (dataTells_andJ (dataTells_andJ (dataTells_andJ (dataTells_andJ (dataTells_andJ (dataTells_andJ (dataTells_andJ (dataTells_andJ (dataTells_andJ (dataTells_andJ (dataTells_andJ (dataTells_andJ (dataTells_andJ (dataTells_andJ dataTells_j0 dataTells_j1) dataTells_j2) dataTells_j3) dataTells_j4) dataTells_j5) dataTells_j6) dataTells_j7) dataTells_j8) dataTells_j9) dataTells_j10) dataTells_j11) dataTells_j12) dataTells_j13) dataTells_j14) dataTells_j15) dataTells_j16) dataTells_j17) dataTells_j18) dataTells_j19) dataTells_j20) dataTells_j21) dataTells_j22) dataTells_j23) dataTells_j24) dataTells_j25) dataTells_j26) dataTells_j27) dataTells_j28) dataTells_j29) dataTells_j30) dataTells_j31)

theorem dataTells_over : Rows.DataTellsSaid :=
  OpenClaim.holds_of_wide 5 Tryz.f5 rfl rfl rfl rfl rfl rfl rfl ⟨rfl, rfl, rfl, rfl, rfl⟩ rfl rfl rfl rfl rfl (by kernel_rfl) Tryz.func5 dataTells_joined
    (of_decide_eq_true (by kernel_rfl)) (by unfold Func.isWrapper; rw [if_neg (of_decide_eq_false (by kernel_rfl))]; exact ⟨rfl, rfl⟩)
    (fun os started H enc _ => dataTells_lifted os started H enc)

theorem dataTells_h1 : Rows.dataTellsRow.wfByText (OpenSpec.ofChange Rows.dataTellsSpec) = true := by kernel_rfl
theorem dataTells_h2 : Tryz.prog.mainIs = some (((true, "dab71cbf973b53ba853a495242d858c3d09865705b713c3a292ffbc5bc489ad7") : Bool × String).1, ((true, "dab71cbf973b53ba853a495242d858c3d09865705b713c3a292ffbc5bc489ad7") : Bool × String).2.toList) := by kernel_rfl
theorem dataTells_h3 : true = Tryz.prog.looks [] := by kernel_rfl
theorem dataTells_h4 : false = Rows.dataTellsRow.goesBy Tryz.prog := by kernel_rfl
theorem dataTells_h5 : Tryz.prog.funcNamed "isogloss/isoglosslaw15.DataTells" = some 5 := by kernel_rfl

/-- The statement. -/
theorem dataTells_holds : Rows.DataTellsCardSaid :=
  Claim7.holds_tied_plain_at .later [] [.data] true (true, "dab71cbf973b53ba853a495242d858c3d09865705b713c3a292ffbc5bc489ad7") true
    dataTells_over (fun _ h => by cases h) dataTells_h1 (fun _ h => by cases h) dataTells_row_tie rfl ⟨rfl, rfl⟩ dataTells_h2 rfl
    (fun f fn hf hfn => by
      obtain rfl : f = 5 := Option.some.inj (dataTells_h5.symm.trans hf) |>.symm
      obtain rfl : fn = Tryz.f5 := (Option.some.inj (Tryz.func5.symm.trans hfn)).symm
      exact ⟨dataTells_h3, fun j t ht => by
        rw [Tryz.params5] at ht
        have hm : t ∈ [3] := by simpa using Array.mem_of_getElem? ht
        have hall : ([3].all fun u => !Tryz.prog.wantsStandIn u) = true := by kernel_rfl
        exact (show Tryz.prog.wantsStandIn t = false by simpa using List.all_eq_true.1 hall t hm)⟩)
    dataTells_h4
end Go.Proofs.YtgjifikahlmioaaGreatDoor
