/-
  ImageTurned: its statement (the tied card), for every input. Condition: the listed variables are as the program's text lays them (tied by the card).
-/
import Derived.Test.YtknodboncpcjnaaGreatDoorRows
import Derived.Test.YtknodboncpcjnaaGreatDoorZTurnedLaw
import Derived.Test.YtknodboncpcjnaaGreatDoorZArgs
import Derived.Test.YtknodboncpcjnaaGreatDoorRowKits
import Derived.Test.YtknodboncpcjnaaGreatDoorCards
import Derived.Test.YtknodboncpcjnaaGreatDoorTie
import Derived.ProofKit
import Derived.OpenShut
import Derived.ChangeMaps5
import Derived.LaidMore
import Derived.Lay
import Derived.SevenTiedAt
import Derived.Stop.Joined
namespace Go.Proofs.YtknodboncpcjnaaGreatDoor
open Go.ChangeShapes Go.WideShapes Go.ChangeAt Go.ChangeMaps Go.RowKit

theorem imageTurned_own : ownKnob Tryz.prog.godebug = none := by kernel_rfl
def imageTurned_laid : List (String × DataW Unit) := Rows.imageTurnedRow.laid

set_option maxRecDepth 100000 in
theorem imageTurned_lifted (os : Os) (started : os.Started) (H : Type) (enc : TypeId × Value → H) :
    ReturnsInHanded {} Tryz.checked os 7 .any (fun w args => (Rows.imageTurnedSpec.pre enc Tryz.prog Tryz.f7 [] false w args ∧ laidMetH Tryz.prog imageTurned_laid w) ∧ sizedMet enc Tryz.prog Tryz.f7 (OpenSpec.ofChange Rows.imageTurnedSpec) false w args)
      (Rows.imageTurnedSpec.post enc Tryz.prog Tryz.f7 false true false false) := by
  refine returnsInHanded_of_change_and (C := Tryz.checked) (X := fun w _ => laidMetH Tryz.prog imageTurned_laid w) (fun _ _ _ hh h => h.of_heap hh) imageTurned_own started (by kernel_rfl) Tryz.func7
    (ChangeSpec.witness_shaped (enc := enc) (C := Tryz.checked) (os := os) (X := fun w _ => laidMetH Tryz.prog imageTurned_laid w) false (World.laidAll Tryz.prog os imageTurned_laid) #[.agg #[.slice none 0 0, .slice none 0 0, .slice none 0 0, .slice none 0 0, .int .i64 0, .int .i64 0, .int .i64 0], .int .i64 0] 8 (World.laidAll_os _ _ _)
      (World.shaped_of_ZipB (by kernel_rfl) (by kernel_rfl)) (by kernel_rfl) (by kernel_rfl) (by kernel_rfl)
      (by rw [MakeChecks.laidMetH_plain _ _ _ (by kernel_rfl)]; exact laidMet_laidAll _ (by kernel_rfl) (by kernel_rfl))) ?_
  intro W base args ds gs before hval0 hW _ _ hL _
  have hval : ∀ (j : Nat) t v, Tryz.f7.params[j]? = some t → args[j]? = some v → Value.okWide Tryz.prog W .any base t v := hval0
  have hW' := hW
  obtain ⟨p, q, hA0, hV, rfl, hfz, hnd⟩ := hW
  have hA : DataW.TrodAll enc Tryz.prog W 0 (fun _ => true) true Tryz.f7.params.toList args.toList ds p := hA0
  rw [Tryz.params7] at hA hval
  obtain ⟨v0, vs0, d0, ds0, p0, q0, hargs, rfl, rfl, h0, r0⟩ := trodAll_cons hA
  obtain ⟨v1, vs1, d1, ds1, p1, q1, rfl, rfl, rfl, h1, r1⟩ := trodAll_cons r0
  obtain ⟨rfl, rfl, rfl⟩ := trodAll_nil r1
  obtain rfl : args = #[v0, v1] := by cases args; simp_all
  obtain ⟨rfl, rfl⟩ := trodVars_none hV
  have k0 := h0
  have lt0 : ∀ x ∈ p0, x.block < W.heap.size := by obtain ⟨m, hm⟩ := k0; exact DataW.trod_lt m _ _ _ hm
  obtain ⟨S0, va0, vl0, vr0, vm0, rfl, w0⟩ := open_seed13 (hval 0 30 v0 rfl rfl) h0
  have k1 := h1
  have lt1 : ∀ x ∈ p1, x.block < W.heap.size := by obtain ⟨m, hm⟩ := k1; exact DataW.trod_lt m _ _ _ hm
  obtain ⟨a1, rfl, _, _, _⟩ := open_int Tryz.underlying3 (hval 1 3 v1 rfl rfl) h1
  clear hA0 hval0
  refine (imageTurned_law S0 va0 vl0 vr0 vm0 a1 W w0 (gl_of_laid hL)).mono fun e W' ⟨he, bel⟩ => ?_
  subst he
  exact ⟨_, rfl, _, _, _, [], _, [], hW', trodAll_mk1 (shut_bool Tryz.underlying4 _), (trodAll_cons_mk (Below.trod laidOut6 (by kernel_rfl) (of_decide_eq_true (by kernel_rfl)) k0 bel lt0) (trodAll_cons_mk (Below.trod laidOut6 (by kernel_rfl) (of_decide_eq_true (by kernel_rfl)) k1 bel lt1) trodAll_mk0)), rfl, bel.frame _, fun h => by cases h⟩

theorem imageTurned_andJ {a b : Bool} (h1 : a = true) (h2 : b = true) : (a && b) = true := by rw [h1, h2]; rfl
theorem imageTurned_j0 : (Rows.imageTurnedRow.wf (OpenSpec.ofChange Rows.imageTurnedSpec)) = true := by kernel_rfl
theorem imageTurned_j1 : (laidOutB Tryz.prog) = true := by kernel_rfl
theorem imageTurned_j2 : (mapsRowed Tryz.prog) = true := by kernel_rfl
theorem imageTurned_j3 : (Tryz.f7.params.all (Tryz.prog.readableRec ·)) = true := by kernel_rfl
theorem imageTurned_j4 : (namedTie Tryz.prog Rows.imageTurnedRow.named Rows.imageTurnedSpec.vars) = true := by kernel_rfl
theorem imageTurned_j5 : ((Rows.imageTurnedRow.stops == [])) = true := by kernel_rfl
theorem imageTurned_j6 : ((Tryz.prog.stops == [])) = true := by kernel_rfl
theorem imageTurned_j7 : ((Rows.imageTurnedRow.knobs == [])) = true := by kernel_rfl
theorem imageTurned_j8 : ((Tryz.prog.stopKnobs == [])) = true := by kernel_rfl
theorem imageTurned_j9 : ((Rows.imageTurnedRow.inPlace == Tryz.prog.inPlace 7)) = true := by kernel_rfl
theorem imageTurned_j10 : ((Rows.imageTurnedRow.unfollowed == Tryz.prog.unfollowed 7)) = true := by kernel_rfl
theorem imageTurned_j11 : ((Rows.imageTurnedRow.recurses == Tryz.prog.recurses 7)) = true := by kernel_rfl
theorem imageTurned_j12 : ((Rows.imageTurnedRow.named == Tryz.prog.varsNamed 7)) = true := by kernel_rfl
theorem imageTurned_j13 : ((Rows.imageTurnedRow.maps == (Tryz.f7.params.toList ++ Rows.imageTurnedSpec.plain.varTypes Tryz.prog).any (Tryz.prog.mapsRec ·))) = true := by kernel_rfl
theorem imageTurned_j14 : ((Rows.imageTurnedRow.ifaces == (Tryz.f7.params.toList ++ Rows.imageTurnedSpec.plain.varTypes Tryz.prog).any (Tryz.prog.ifacesRec ·))) = true := by kernel_rfl
theorem imageTurned_j15 : ((Rows.imageTurnedRow.mapsOut == Tryz.prog.mapsAmong Tryz.f7.resultTypes.toList)) = true := by kernel_rfl
theorem imageTurned_j16 : ((Rows.imageTurnedRow.loops == (Tryz.f7.params.toList ++ Rows.imageTurnedSpec.plain.varTypes Tryz.prog).any (Tryz.prog.loopsFrom ·))) = true := by kernel_rfl
theorem imageTurned_j17 : ((Rows.imageTurnedRow.wideKeys == (Tryz.f7.params.toList ++ Rows.imageTurnedSpec.plain.varTypes Tryz.prog ++ Tryz.f7.resultTypes.toList).any (Tryz.prog.wideKeysFrom ·))) = true := by kernel_rfl
theorem imageTurned_j18 : (Rows.imageTurnedSpec.vars.all (Tryz.prog.varReadable ·)) = true := by kernel_rfl
theorem imageTurned_j19 : (Tryz.f7.resultTypes.all (fun t => Tryz.prog.readableRec t && decide (t < Tryz.prog.types.size))) = true := by kernel_rfl
theorem imageTurned_j20 : ((Rows.imageTurnedRow.ifacesOut == Tryz.f7.resultTypes.toList.any (Tryz.prog.ifacesRec ·))) = true := by kernel_rfl
theorem imageTurned_j21 : ((Rows.imageTurnedRow.loopsOut == Tryz.f7.resultTypes.toList.any (Tryz.prog.loopsFrom ·))) = true := by kernel_rfl
theorem imageTurned_j22 : ((Rows.imageTurnedRow.plainKeys == Tryz.prog.plainKeys)) = true := by kernel_rfl
theorem imageTurned_j23 : (Rows.imageTurnedRow.shortTexts.isNone) = true := by kernel_rfl
theorem imageTurned_j24 : (Tryz.prog.stopsHeard) = true := by kernel_rfl
theorem imageTurned_j25 : (Tryz.prog.mayEnter) = true := by kernel_rfl
theorem imageTurned_j26 : ((Rows.imageTurnedRow.lifted == Tryz.prog.liftsFinal)) = true := by kernel_rfl
theorem imageTurned_j27 : ((Tryz.prog.make == some Rows.imageTurnedRow.make)) = true := by kernel_rfl
theorem imageTurned_j28 : ((Rows.imageTurnedRow.kinds == (if Rows.imageTurnedRow.domain.isEmpty then [] else Tryz.f7.params.toList.map fun t => match Tryz.prog.underlying t with | some (.int k) => some k | _ => none))) = true := by kernel_rfl
theorem imageTurned_j29 : ((Rows.imageTurnedRow.pinned == Rows.imageTurnedRow.pinnedBy)) = true := by kernel_rfl
theorem imageTurned_j30 : ((Rows.imageTurnedRow.veiled == (Tryz.f7.params.toList ++ Rows.imageTurnedSpec.plain.varTypes Tryz.prog ++ Tryz.f7.resultTypes.toList).any (Tryz.prog.veiledRec ·))) = true := by kernel_rfl
theorem imageTurned_j31 : (Rows.imageTurnedRow.veiledFits Tryz.prog Tryz.f7.params.toList (Tryz.f7.params.toList ++ Rows.imageTurnedSpec.plain.varTypes Tryz.prog ++ Tryz.f7.resultTypes.toList)) = true := by kernel_rfl
set_option maxRecDepth 100000 in
theorem imageTurned_joined : joinedFacts Tryz.prog 7 Tryz.f7 Rows.imageTurnedSpec Rows.imageTurnedRow = true := by
  unfold joinedFacts
  exact (imageTurned_andJ (imageTurned_andJ (imageTurned_andJ (imageTurned_andJ (imageTurned_andJ (imageTurned_andJ (imageTurned_andJ (imageTurned_andJ (imageTurned_andJ (imageTurned_andJ (imageTurned_andJ (imageTurned_andJ (imageTurned_andJ (imageTurned_andJ (imageTurned_andJ (imageTurned_andJ (imageTurned_andJ (imageTurned_andJ (imageTurned_andJ (imageTurned_andJ (imageTurned_andJ (imageTurned_andJ (imageTurned_andJ (imageTurned_andJ (imageTurned_andJ (imageTurned_andJ (imageTurned_andJ (imageTurned_andJ (imageTurned_andJ (imageTurned_andJ (imageTurned_andJ imageTurned_j0 imageTurned_j1) imageTurned_j2) imageTurned_j3) imageTurned_j4) imageTurned_j5) imageTurned_j6) imageTurned_j7) imageTurned_j8) imageTurned_j9) imageTurned_j10) imageTurned_j11) imageTurned_j12) imageTurned_j13) imageTurned_j14) imageTurned_j15) imageTurned_j16) imageTurned_j17) imageTurned_j18) imageTurned_j19) imageTurned_j20) imageTurned_j21) imageTurned_j22) imageTurned_j23) imageTurned_j24) imageTurned_j25) imageTurned_j26) imageTurned_j27) imageTurned_j28) imageTurned_j29) imageTurned_j30) imageTurned_j31)

theorem imageTurned_over : Rows.ImageTurnedSaid :=
  OpenClaim.holds_of_wide 7 Tryz.f7 rfl rfl rfl rfl rfl rfl rfl ⟨rfl, rfl, rfl, rfl, rfl⟩ rfl rfl rfl rfl rfl (by kernel_rfl) Tryz.func7 imageTurned_joined
    (of_decide_eq_true (by kernel_rfl)) (by unfold Func.isWrapper; rw [if_neg (of_decide_eq_false (by kernel_rfl))]; exact ⟨rfl, rfl⟩)
    (fun os started H enc _ => imageTurned_lifted os started H enc)

theorem imageTurned_h1 : Rows.imageTurnedRow.wfByText (OpenSpec.ofChange Rows.imageTurnedSpec) = true := by kernel_rfl
theorem imageTurned_h2 : Tryz.prog.mainIs = some (((true, "ec4704174bde4be45fd9c17991e10bc734cb66748ad6463e473ed8cb3911af39") : Bool × String).1, ((true, "ec4704174bde4be45fd9c17991e10bc734cb66748ad6463e473ed8cb3911af39") : Bool × String).2.toList) := by kernel_rfl
theorem imageTurned_h3 : true = Tryz.prog.looks [] := by kernel_rfl
theorem imageTurned_h4 : false = Rows.imageTurnedRow.goesBy Tryz.prog := by kernel_rfl
theorem imageTurned_h5 : Tryz.prog.funcNamed "isogloss/isoglosslaw13.ImageTurned" = some 7 := by kernel_rfl

/-- The statement. -/
theorem imageTurned_holds : Rows.ImageTurnedCardSaid :=
  Claim7.holds_tied_plain_at .later [] [.data] true (true, "ec4704174bde4be45fd9c17991e10bc734cb66748ad6463e473ed8cb3911af39") true
    imageTurned_over (fun _ h => by cases h) imageTurned_h1 (fun _ h => by cases h) imageTurned_row_tie rfl ⟨rfl, rfl⟩ imageTurned_h2 rfl
    (fun f fn hf hfn => by
      obtain rfl : f = 7 := Option.some.inj (imageTurned_h5.symm.trans hf) |>.symm
      obtain rfl : fn = Tryz.f7 := (Option.some.inj (Tryz.func7.symm.trans hfn)).symm
      exact ⟨imageTurned_h3, fun j t ht => by
        rw [Tryz.params7] at ht
        have hm : t ∈ [30, 3] := by simpa using Array.mem_of_getElem? ht
        have hall : ([30, 3].all fun u => !Tryz.prog.wantsStandIn u) = true := by kernel_rfl
        exact (show Tryz.prog.wantsStandIn t = false by simpa using List.all_eq_true.1 hall t hm)⟩)
    imageTurned_h4
end Go.Proofs.YtknodboncpcjnaaGreatDoor
