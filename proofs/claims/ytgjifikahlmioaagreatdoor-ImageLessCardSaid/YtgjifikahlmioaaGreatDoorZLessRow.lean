/-
  ImageLess: its statement (the tied card), for every input. Condition: the listed variables are as the program's text lays them (tied by the card).
-/
import Derived.Test.YtgjifikahlmioaaGreatDoorRows
import Derived.Test.YtgjifikahlmioaaGreatDoorZLessLaw
import Derived.Test.YtgjifikahlmioaaGreatDoorZArgs
import Derived.Test.YtgjifikahlmioaaGreatDoorRowKits
import Derived.Test.YtgjifikahlmioaaGreatDoorCards
import Derived.Test.YtgjifikahlmioaaGreatDoorTie
import Derived.ProofKit
import Derived.OpenShut
import Derived.ChangeMaps5
import Derived.LaidMore
import Derived.Lay
import Derived.SevenTiedAt
import Derived.Stop.Joined
namespace Go.Proofs.YtgjifikahlmioaaGreatDoor
open Go.ChangeShapes Go.WideShapes Go.ChangeAt Go.ChangeMaps Go.RowKit

theorem imageLess_own : ownKnob Tryz.prog.godebug = none := by kernel_rfl

set_option maxRecDepth 100000 in
theorem imageLess_lifted (os : Os) (started : os.Started) (H : Type) (enc : TypeId × Value → H) :
    ReturnsInHanded {} Tryz.checked os 4 .any (fun w args => (Rows.imageLessSpec.pre enc Tryz.prog Tryz.f4 [] false w args ∧ laidMetH Tryz.prog laid7 w) ∧ sizedMet enc Tryz.prog Tryz.f4 (OpenSpec.ofChange Rows.imageLessSpec) false w args)
      (Rows.imageLessSpec.post enc Tryz.prog Tryz.f4 false true false false) := by
  refine returnsInHanded_of_change_and (C := Tryz.checked) (X := fun w _ => laidMetH Tryz.prog laid7 w) (fun _ _ _ hh h => h.of_heap hh) imageLess_own started (by kernel_rfl) Tryz.func4
    (ChangeSpec.witness_at (enc := enc) (C := Tryz.checked) (os := os) (X := fun w _ => laidMetH Tryz.prog laid7 w) false (laidWorld7 os) #[.agg #[.slice none 0 0, .slice none 0 0, .slice none 0 0, .slice none 0 0, .int .i64 0, .int .i64 0, .int .i64 0], .agg #[.int .i64 0, .int .i64 0]] 8 rfl (by kernel_rfl) (by kernel_rfl) (by kernel_rfl) (by kernel_rfl) (by kernel_rfl) (laidWorld7_met os _)) ?_
  intro W base args ds gs before hval0 hW _ _ hL _
  have hval : ∀ (j : Nat) t v, Tryz.f4.params[j]? = some t → args[j]? = some v → Value.okWide Tryz.prog W .any base t v := hval0
  have hW' := hW
  obtain ⟨p, q, hA0, hV, rfl, hfz, hnd⟩ := hW
  have hA : DataW.TrodAll enc Tryz.prog W 0 (fun _ => true) true Tryz.f4.params.toList args.toList ds p := hA0
  rw [Tryz.params4] at hA hval
  obtain ⟨v0, vs0, d0, ds0, p0, q0, hargs, rfl, rfl, h0, r0⟩ := trodAll_cons hA
  obtain ⟨v1, vs1, d1, ds1, p1, q1, rfl, rfl, rfl, h1, r1⟩ := trodAll_cons r0
  obtain ⟨rfl, rfl, rfl⟩ := trodAll_nil r1
  obtain rfl : args = #[v0, v1] := by cases args; simp_all
  obtain ⟨rfl, rfl⟩ := trodVars_none hV
  have k0 := h0
  have lt0 : ∀ x ∈ p0, x.block < W.heap.size := by obtain ⟨m, hm⟩ := k0; exact DataW.trod_lt m _ _ _ hm
  obtain ⟨S0, va0, vl0, vr0, vm0, rfl, w0⟩ := open_seed13 (hval 0 25 v0 rfl rfl) h0
  have k1 := h1
  have lt1 : ∀ x ∈ p1, x.block < W.heap.size := by obtain ⟨m, hm⟩ := k1; exact DataW.trod_lt m _ _ _ hm
  obtain ⟨a1, b1, rfl, w1, u1⟩ := open_ints2 (hval 1 26 v1 rfl rfl) h1
  clear hA0 hval0
  refine (imageLess_law S0 va0 vl0 vr0 vm0 a1 b1 W w0 (zLaid_of hL)).mono fun e W' ⟨he, bel⟩ => ?_
  subst he
  exact ⟨_, rfl, _, _, _, [], _, [], hW', trodAll_mk1 (shut_bool Tryz.underlying4 _), (trodAll_cons_mk (Below.trod laidOut6 (by kernel_rfl) (of_decide_eq_true (by kernel_rfl)) k0 bel lt0) (trodAll_cons_mk (Below.trod laidOut6 (by kernel_rfl) (of_decide_eq_true (by kernel_rfl)) k1 bel lt1) trodAll_mk0)), rfl, bel.frame _, fun h => by cases h⟩

theorem imageLess_andJ {a b : Bool} (h1 : a = true) (h2 : b = true) : (a && b) = true := by rw [h1, h2]; rfl
theorem imageLess_j0 : (Rows.imageLessRow.wf (OpenSpec.ofChange Rows.imageLessSpec)) = true := by kernel_rfl
theorem imageLess_j1 : (laidOutB Tryz.prog) = true := by kernel_rfl
theorem imageLess_j2 : (mapsRowed Tryz.prog) = true := by kernel_rfl
theorem imageLess_j3 : (Tryz.f4.params.all (Tryz.prog.readableRec ·)) = true := by kernel_rfl
theorem imageLess_j4 : (namedTie Tryz.prog Rows.imageLessRow.named Rows.imageLessSpec.vars) = true := by kernel_rfl
theorem imageLess_j5 : ((Rows.imageLessRow.stops == [])) = true := by kernel_rfl
theorem imageLess_j6 : ((Tryz.prog.stops == [])) = true := by kernel_rfl
theorem imageLess_j7 : ((Rows.imageLessRow.knobs == [])) = true := by kernel_rfl
theorem imageLess_j8 : ((Tryz.prog.stopKnobs == [])) = true := by kernel_rfl
theorem imageLess_j9 : ((Rows.imageLessRow.inPlace == Tryz.prog.inPlace 4)) = true := by kernel_rfl
theorem imageLess_j10 : ((Rows.imageLessRow.unfollowed == Tryz.prog.unfollowed 4)) = true := by kernel_rfl
theorem imageLess_j11 : ((Rows.imageLessRow.recurses == Tryz.prog.recurses 4)) = true := by kernel_rfl
theorem imageLess_j12 : ((Rows.imageLessRow.named == Tryz.prog.varsNamed 4)) = true := by kernel_rfl
theorem imageLess_j13 : ((Rows.imageLessRow.maps == (Tryz.f4.params.toList ++ Rows.imageLessSpec.plain.varTypes Tryz.prog).any (Tryz.prog.mapsRec ·))) = true := by kernel_rfl
theorem imageLess_j14 : ((Rows.imageLessRow.ifaces == (Tryz.f4.params.toList ++ Rows.imageLessSpec.plain.varTypes Tryz.prog).any (Tryz.prog.ifacesRec ·))) = true := by kernel_rfl
theorem imageLess_j15 : ((Rows.imageLessRow.mapsOut == Tryz.prog.mapsAmong Tryz.f4.resultTypes.toList)) = true := by kernel_rfl
theorem imageLess_j16 : ((Rows.imageLessRow.loops == (Tryz.f4.params.toList ++ Rows.imageLessSpec.plain.varTypes Tryz.prog).any (Tryz.prog.loopsFrom ·))) = true := by kernel_rfl
theorem imageLess_j17 : ((Rows.imageLessRow.wideKeys == (Tryz.f4.params.toList ++ Rows.imageLessSpec.plain.varTypes Tryz.prog ++ Tryz.f4.resultTypes.toList).any (Tryz.prog.wideKeysFrom ·))) = true := by kernel_rfl
theorem imageLess_j18 : (Rows.imageLessSpec.vars.all (Tryz.prog.varReadable ·)) = true := by kernel_rfl
theorem imageLess_j19 : (Tryz.f4.resultTypes.all (fun t => Tryz.prog.readableRec t && decide (t < Tryz.prog.types.size))) = true := by kernel_rfl
theorem imageLess_j20 : ((Rows.imageLessRow.ifacesOut == Tryz.f4.resultTypes.toList.any (Tryz.prog.ifacesRec ·))) = true := by kernel_rfl
theorem imageLess_j21 : ((Rows.imageLessRow.loopsOut == Tryz.f4.resultTypes.toList.any (Tryz.prog.loopsFrom ·))) = true := by kernel_rfl
theorem imageLess_j22 : ((Rows.imageLessRow.plainKeys == Tryz.prog.plainKeys)) = true := by kernel_rfl
theorem imageLess_j23 : (Rows.imageLessRow.shortTexts.isNone) = true := by kernel_rfl
theorem imageLess_j24 : (Tryz.prog.stopsHeard) = true := by kernel_rfl
theorem imageLess_j25 : (Tryz.prog.mayEnter) = true := by kernel_rfl
theorem imageLess_j26 : ((Rows.imageLessRow.lifted == Tryz.prog.liftsFinal)) = true := by kernel_rfl
theorem imageLess_j27 : ((Tryz.prog.make == some Rows.imageLessRow.make)) = true := by kernel_rfl
theorem imageLess_j28 : ((Rows.imageLessRow.kinds == (if Rows.imageLessRow.domain.isEmpty then [] else Tryz.f4.params.toList.map fun t => match Tryz.prog.underlying t with | some (.int k) => some k | _ => none))) = true := by kernel_rfl
theorem imageLess_j29 : ((Rows.imageLessRow.pinned == Rows.imageLessRow.pinnedBy)) = true := by kernel_rfl
theorem imageLess_j30 : ((Rows.imageLessRow.veiled == (Tryz.f4.params.toList ++ Rows.imageLessSpec.plain.varTypes Tryz.prog ++ Tryz.f4.resultTypes.toList).any (Tryz.prog.veiledRec ·))) = true := by kernel_rfl
theorem imageLess_j31 : (Rows.imageLessRow.veiledFits Tryz.prog Tryz.f4.params.toList (Tryz.f4.params.toList ++ Rows.imageLessSpec.plain.varTypes Tryz.prog ++ Tryz.f4.resultTypes.toList)) = true := by kernel_rfl
set_option maxRecDepth 100000 in
theorem imageLess_joined : joinedFacts Tryz.prog 4 Tryz.f4 Rows.imageLessSpec Rows.imageLessRow = true := by
  unfold joinedFacts
  exact (imageLess_andJ (imageLess_andJ (imageLess_andJ (imageLess_andJ (imageLess_andJ (imageLess_andJ (imageLess_andJ (imageLess_andJ (imageLess_andJ (imageLess_andJ (imageLess_andJ (imageLess_andJ (imageLess_andJ (imageLess_andJ (imageLess_andJ (imageLess_andJ (imageLess_andJ (imageLess_andJ (imageLess_andJ (imageLess_andJ (imageLess_andJ (imageLess_andJ (imageLess_andJ (imageLess_andJ (imageLess_andJ (imageLess_andJ (imageLess_andJ (imageLess_andJ (imageLess_andJ (imageLess_andJ (imageLess_andJ imageLess_j0 imageLess_j1) imageLess_j2) imageLess_j3) imageLess_j4) imageLess_j5) imageLess_j6) imageLess_j7) imageLess_j8) imageLess_j9) imageLess_j10) imageLess_j11) imageLess_j12) imageLess_j13) imageLess_j14) imageLess_j15) imageLess_j16) imageLess_j17) imageLess_j18) imageLess_j19) imageLess_j20) imageLess_j21) imageLess_j22) imageLess_j23) imageLess_j24) imageLess_j25) imageLess_j26) imageLess_j27) imageLess_j28) imageLess_j29) imageLess_j30) imageLess_j31)

theorem imageLess_over : Rows.ImageLessSaid :=
  OpenClaim.holds_of_wide 4 Tryz.f4 rfl rfl rfl rfl rfl rfl rfl ⟨rfl, rfl, rfl, rfl, rfl⟩ rfl rfl rfl rfl rfl (by kernel_rfl) Tryz.func4 imageLess_joined
    (of_decide_eq_true (by kernel_rfl)) (by unfold Func.isWrapper; rw [if_neg (of_decide_eq_false (by kernel_rfl))]; exact ⟨rfl, rfl⟩)
    (fun os started H enc _ => imageLess_lifted os started H enc)

theorem imageLess_h1 : Rows.imageLessRow.wfByText (OpenSpec.ofChange Rows.imageLessSpec) = true := by kernel_rfl
theorem imageLess_h2 : Tryz.prog.mainIs = some (((true, "dab71cbf973b53ba853a495242d858c3d09865705b713c3a292ffbc5bc489ad7") : Bool × String).1, ((true, "dab71cbf973b53ba853a495242d858c3d09865705b713c3a292ffbc5bc489ad7") : Bool × String).2.toList) := by kernel_rfl
theorem imageLess_h3 : true = Tryz.prog.looks [] := by kernel_rfl
theorem imageLess_h4 : false = Rows.imageLessRow.goesBy Tryz.prog := by kernel_rfl
theorem imageLess_h5 : Tryz.prog.funcNamed "isogloss/isoglosslaw13.ImageLess" = some 4 := by kernel_rfl

/-- The statement. -/
theorem imageLess_holds : Rows.ImageLessCardSaid :=
  Claim7.holds_tied_plain_at .later [] [.handle, .data] true (true, "dab71cbf973b53ba853a495242d858c3d09865705b713c3a292ffbc5bc489ad7") true
    imageLess_over (fun _ h => by cases h) imageLess_h1 (fun _ h => by cases h) imageLess_row_tie rfl ⟨rfl, rfl⟩ imageLess_h2 rfl
    (fun f fn hf hfn => by
      obtain rfl : f = 4 := Option.some.inj (imageLess_h5.symm.trans hf) |>.symm
      obtain rfl : fn = Tryz.f4 := (Option.some.inj (Tryz.func4.symm.trans hfn)).symm
      exact ⟨imageLess_h3, fun j t ht => by
        rw [Tryz.params4] at ht
        have hm : t ∈ [25, 26] := by simpa using Array.mem_of_getElem? ht
        have hall : ([25, 26].all fun u => !Tryz.prog.wantsStandIn u) = true := by kernel_rfl
        exact (show Tryz.prog.wantsStandIn t = false by simpa using List.all_eq_true.1 hall t hm)⟩)
    imageLess_h4
end Go.Proofs.YtgjifikahlmioaaGreatDoor
