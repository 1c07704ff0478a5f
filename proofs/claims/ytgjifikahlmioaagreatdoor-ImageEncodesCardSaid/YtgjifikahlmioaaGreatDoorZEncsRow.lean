/-
  ImageEncodes: its statement (the tied card), for every input. Condition: the listed variables are as the program's text lays them (tied by the card).
-/
import Derived.Test.YtgjifikahlmioaaGreatDoorRows
import Derived.Test.YtgjifikahlmioaaGreatDoorZEncL
import Derived.Test.YtgjifikahlmioaaGreatDoorZArgs
import Derived.Test.YtgjifikahlmioaaGreatDoorRowKits
import Derived.Test.YtgjifikahlmioaaGreatDoorCards
import Derived.Test.YtgjifikahlmioaaGreatDoorTie
import Derived.ProofKit
import Derived.OpenShut
import Derived.ChangeMaps5
import Derived.LaidMore
import Derived.Lay
import Derived.SevenTiedAt
import Derived.Stop.Joined
namespace Go.Proofs.YtgjifikahlmioaaGreatDoor
open Go.ChangeShapes Go.WideShapes Go.ChangeAt Go.ChangeMaps Go.RowKit

theorem imageEncodes_own : ownKnob Tryz.prog.godebug = none := by kernel_rfl

set_option maxRecDepth 100000 in
theorem imageEncodes_lifted (os : Os) (started : os.Started) (H : Type) (enc : TypeId × Value → H) :
    ReturnsInHanded {} Tryz.checked os 3 .any (fun w args => (Rows.imageEncodesSpec.pre enc Tryz.prog Tryz.f3 [] false w args ∧ laidMetH Tryz.prog laid7 w) ∧ sizedMet enc Tryz.prog Tryz.f3 (OpenSpec.ofChange Rows.imageEncodesSpec) false w args)
      (Rows.imageEncodesSpec.post enc Tryz.prog Tryz.f3 false true false false) := by
  refine returnsInHanded_of_change_and (C := Tryz.checked) (X := fun w _ => laidMetH Tryz.prog laid7 w) (fun _ _ _ hh h => h.of_heap hh) imageEncodes_own started (by kernel_rfl) Tryz.func3
    (ChangeSpec.witness_at (enc := enc) (C := Tryz.checked) (os := os) (X := fun w _ => laidMetH Tryz.prog laid7 w) false (laidWorld7 os) #[.agg #[.slice none 0 0, .slice none 0 0, .slice none 0 0, .slice none 0 0, .int .i64 0, .int .i64 0, .int .i64 0], .agg #[.int .i64 0, .int .i64 0]] 8 rfl (by kernel_rfl) (by kernel_rfl) (by kernel_rfl) (by kernel_rfl) (by kernel_rfl) (laidWorld7_met os _)) ?_
  intro W base args ds gs before hval0 hW _ _ hL _
  have hval : ∀ (j : Nat) t v, Tryz.f3.params[j]? = some t → args[j]? = some v → Value.okWide Tryz.prog W .any base t v := hval0
  have hW' := hW
  obtain ⟨p, q, hA0, hV, rfl, hfz, hnd⟩ := hW
  have hA : DataW.TrodAll enc Tryz.prog W 0 (fun _ => true) true Tryz.f3.params.toList args.toList ds p := hA0
  rw [Tryz.params3] at hA hval
  obtain ⟨v0, vs0, d0, ds0, p0, q0, hargs, rfl, rfl, h0, r0⟩ := trodAll_cons hA
  obtain ⟨v1, vs1, d1, ds1, p1, q1, rfl, rfl, rfl, h1, r1⟩ := trodAll_cons r0
  obtain ⟨rfl, rfl, rfl⟩ := trodAll_nil r1
  obtain rfl : args = #[v0, v1] := by cases args; simp_all
  obtain ⟨rfl, rfl⟩ := trodVars_none hV
  have k0 := h0
  have lt0 : ∀ x ∈ p0, x.block < W.heap.size := by obtain ⟨m, hm⟩ := k0; exact DataW.trod_lt m _ _ _ hm
  obtain ⟨S0, va0, vl0, vr0, vm0, rfl, w0⟩ := open_seed13 (hval 0 25 v0 rfl rfl) h0
  have k1 := h1
  have lt1 : ∀ x ∈ p1, x.block < W.heap.size := by obtain ⟨m, hm⟩ := k1; exact DataW.trod_lt m _ _ _ hm
  obtain ⟨a1, b1, rfl, w1, u1⟩ := open_ints2 (hval 1 26 v1 rfl rfl) h1
  clear hA0 hval0
  refine (imageEncodes_law S0 va0 vl0 vr0 vm0 a1 b1 W w0 (zLaid_of hL)).mono fun e W' ⟨he, bel⟩ => ?_
  subst he
  exact ⟨_, rfl, _, _, _, [], _, [], hW', trodAll_mk1 (shut_bool Tryz.underlying4 _), (trodAll_cons_mk (Below.trod laidOut6 (by kernel_rfl) (of_decide_eq_true (by kernel_rfl)) k0 bel lt0) (trodAll_cons_mk (Below.trod laidOut6 (by kernel_rfl) (of_decide_eq_true (by kernel_rfl)) k1 bel lt1) trodAll_mk0)), rfl, bel.frame _, fun h => by cases h⟩

theorem imageEncodes_andJ {a b : Bool} (h1 : a = true) (h2 : b = true) : (a && b) = true := by rw [h1, h2]; rfl
theorem imageEncodes_j0 : (Rows.imageEncodesRow.wf (OpenSpec.ofChange Rows.imageEncodesSpec)) = true := by kernel_rfl
theorem imageEncodes_j1 : (laidOutB Tryz.prog) = true := by kernel_rfl
theorem imageEncodes_j2 : (mapsRowed Tryz.prog) = true := by kernel_rfl
theorem imageEncodes_j3 : (Tryz.f3.params.all (Tryz.prog.readableRec ·)) = true := by kernel_rfl
theorem imageEncodes_j4 : (namedTie Tryz.prog Rows.imageEncodesRow.named Rows.imageEncodesSpec.vars) = true := by kernel_rfl
theorem imageEncodes_j5 : ((Rows.imageEncodesRow.stops == [])) = true := by kernel_rfl
theorem imageEncodes_j6 : ((Tryz.prog.stops == [])) = true := by kernel_rfl
theorem imageEncodes_j7 : ((Rows.imageEncodesRow.knobs == [])) = true := by kernel_rfl
theorem imageEncodes_j8 : ((Tryz.prog.stopKnobs == [])) = true := by kernel_rfl
theorem imageEncodes_j9 : ((Rows.imageEncodesRow.inPlace == Tryz.prog.inPlace 3)) = true := by kernel_rfl
theorem imageEncodes_j10 : ((Rows.imageEncodesRow.unfollowed == Tryz.prog.unfollowed 3)) = true := by kernel_rfl
theorem imageEncodes_j11 : ((Rows.imageEncodesRow.recurses == Tryz.prog.recurses 3)) = true := by kernel_rfl
theorem imageEncodes_j12 : ((Rows.imageEncodesRow.named == Tryz.prog.varsNamed 3)) = true := by kernel_rfl
theorem imageEncodes_j13 : ((Rows.imageEncodesRow.maps == (Tryz.f3.params.toList ++ Rows.imageEncodesSpec.plain.varTypes Tryz.prog).any (Tryz.prog.mapsRec ·))) = true := by kernel_rfl
theorem imageEncodes_j14 : ((Rows.imageEncodesRow.ifaces == (Tryz.f3.params.toList ++ Rows.imageEncodesSpec.plain.varTypes Tryz.prog).any (Tryz.prog.ifacesRec ·))) = true := by kernel_rfl
theorem imageEncodes_j15 : ((Rows.imageEncodesRow.mapsOut == Tryz.prog.mapsAmong Tryz.f3.resultTypes.toList)) = true := by kernel_rfl
theorem imageEncodes_j16 : ((Rows.imageEncodesRow.loops == (Tryz.f3.params.toList ++ Rows.imageEncodesSpec.plain.varTypes Tryz.prog).any (Tryz.prog.loopsFrom ·))) = true := by kernel_rfl
theorem imageEncodes_j17 : ((Rows.imageEncodesRow.wideKeys == (Tryz.f3.params.toList ++ Rows.imageEncodesSpec.plain.varTypes Tryz.prog ++ Tryz.f3.resultTypes.toList).any (Tryz.prog.wideKeysFrom ·))) = true := by kernel_rfl
theorem imageEncodes_j18 : (Rows.imageEncodesSpec.vars.all (Tryz.prog.varReadable ·)) = true := by kernel_rfl
theorem imageEncodes_j19 : (Tryz.f3.resultTypes.all (fun t => Tryz.prog.readableRec t && decide (t < Tryz.prog.types.size))) = true := by kernel_rfl
theorem imageEncodes_j20 : ((Rows.imageEncodesRow.ifacesOut == Tryz.f3.resultTypes.toList.any (Tryz.prog.ifacesRec ·))) = true := by kernel_rfl
theorem imageEncodes_j21 : ((Rows.imageEncodesRow.loopsOut == Tryz.f3.resultTypes.toList.any (Tryz.prog.loopsFrom ·))) = true := by kernel_rfl
theorem imageEncodes_j22 : ((Rows.imageEncodesRow.plainKeys == Tryz.prog.plainKeys)) = true := by kernel_rfl
theorem imageEncodes_j23 : (Rows.imageEncodesRow.shortTexts.isNone) = true := by kernel_rfl
theorem imageEncodes_j24 : (Tryz.prog.stopsHeard) = true := by kernel_rfl
theorem imageEncodes_j25 : (Tryz.prog.mayEnter) = true := by kernel_rfl
theorem imageEncodes_j26 : ((Rows.imageEncodesRow.lifted == Tryz.prog.liftsFinal)) = true := by kernel_rfl
theorem imageEncodes_j27 : ((Tryz.prog.make == some Rows.imageEncodesRow.make)) = true := by kernel_rfl
theorem imageEncodes_j28 : ((Rows.imageEncodesRow.kinds == (if Rows.imageEncodesRow.domain.isEmpty then [] else Tryz.f3.params.toList.map fun t => match Tryz.prog.underlying t with | some (.int k) => some k | _ => none))) = true := by kernel_rfl
theorem imageEncodes_j29 : ((Rows.imageEncodesRow.pinned == Rows.imageEncodesRow.pinnedBy)) = true := by kernel_rfl
theorem imageEncodes_j30 : ((Rows.imageEncodesRow.veiled == (Tryz.f3.params.toList ++ Rows.imageEncodesSpec.plain.varTypes Tryz.prog ++ Tryz.f3.resultTypes.toList).any (Tryz.prog.veiledRec ·))) = true := by kernel_rfl
theorem imageEncodes_j31 : (Rows.imageEncodesRow.veiledFits Tryz.prog Tryz.f3.params.toList (Tryz.f3.params.toList ++ Rows.imageEncodesSpec.plain.varTypes Tryz.prog ++ Tryz.f3.resultTypes.toList)) = true := by kernel_rfl
set_option maxRecDepth 100000 in
theorem imageEncodes_joined : joinedFacts Tryz.prog 3 Tryz.f3 Rows.imageEncodesSpec Rows.imageEncodesRow = true := by
  unfold joinedFacts
  exact (imageEncodes_andJ (imageEncodes_andJ (imageEncodes_andJ (imageEncodes_andJ (imageEncodes_andJ (imageEncodes_andJ (imageEncodes_andJ (imageEncodes_andJ (imageEncodes_andJ (imageEncodes_andJ (imageEncodes_andJ (imageEncodes_andJ (imageEncodes_andJ (imageEncodes_andJ (imageEncodes_andJ (imageEncodes_andJ (imageEncodes_andJ (imageEncodes_andJ (imageEncodes_andJ (imageEncodes_andJ (imageEncodes_andJ (imageEncodes_andJ (imageEncodes_andJ (imageEncodes_andJ (imageEncodes_andJ (imageEncodes_andJ (imageEncodes_andJ (imageEncodes_andJ (imageEncodes_andJ (imageEncodes_andJ (imageEncodes_andJ imageEncodes_j0 imageEncodes_j1) imageEncodes_j2) imageEncodes_j3) imageEncodes_j4) imageEncodes_j5) imageEncodes_j6) imageEncodes_j7) imageEncodes_j8) imageEncodes_j9) imageEncodes_j10) imageEncodes_j11) imageEncodes_j12) imageEncodes_j13) imageEncodes_j14) imageEncodes_j15) imageEncodes_j16) imageEncodes_j17) imageEncodes_j18) imageEncodes_j19) imageEncodes_j20) imageEncodes_j21) imageEncodes_j22) imageEncodes_j23) imageEncodes_j24) imageEncodes_j25) imageEncodes_j26) imageEncodes_j27) imageEncodes_j28) imageEncodes_j29) imageEncodes_j30) imageEncodes_j31)

theorem imageEncodes_over : Rows.ImageEncodesSaid :=
  OpenClaim.holds_of_wide 3 Tryz.f3 rfl rfl rfl rfl rfl rfl rfl ⟨rfl, rfl, rfl, rfl, rfl⟩ rfl rfl rfl rfl rfl (by kernel_rfl) Tryz.func3 imageEncodes_joined
    (of_decide_eq_true (by kernel_rfl)) (by unfold Func.isWrapper; rw [if_neg (of_decide_eq_false (by kernel_rfl))]; exact ⟨rfl, rfl⟩)
    (fun os started H enc _ => imageEncodes_lifted os started H enc)

theorem imageEncodes_h1 : Rows.imageEncodesRow.wfByText (OpenSpec.ofChange Rows.imageEncodesSpec) = true := by kernel_rfl
theorem imageEncodes_h2 : Tryz.prog.mainIs = some (((true, "dab71cbf973b53ba853a495242d858c3d09865705b713c3a292ffbc5bc489ad7") : Bool × String).1, ((true, "dab71cbf973b53ba853a495242d858c3d09865705b713c3a292ffbc5bc489ad7") : Bool × String).2.toList) := by kernel_rfl
theorem imageEncodes_h3 : true = Tryz.prog.looks [] := by kernel_rfl
theorem imageEncodes_h4 : false = Rows.imageEncodesRow.goesBy Tryz.prog := by kernel_rfl
theorem imageEncodes_h5 : Tryz.prog.funcNamed "isogloss/isoglosslaw13.ImageEncodes" = some 3 := by kernel_rfl

/-- The statement. -/
theorem imageEncodes_holds : Rows.ImageEncodesCardSaid :=
  Claim7.holds_tied_plain_at .later [] [.handle, .data] true (true, "dab71cbf973b53ba853a495242d858c3d09865705b713c3a292ffbc5bc489ad7") true
    imageEncodes_over (fun _ h => by cases h) imageEncodes_h1 (fun _ h => by cases h) imageEncodes_row_tie rfl ⟨rfl, rfl⟩ imageEncodes_h2 rfl
    (fun f fn hf hfn => by
      obtain rfl : f = 3 := Option.some.inj (imageEncodes_h5.symm.trans hf) |>.symm
      obtain rfl : fn = Tryz.f3 := (Option.some.inj (Tryz.func3.symm.trans hfn)).symm
      exact ⟨imageEncodes_h3, fun j t ht => by
        rw [Tryz.params3] at ht
        have hm : t ∈ [25, 26] := by simpa using Array.mem_of_getElem? ht
        have hall : ([25, 26].all fun u => !Tryz.prog.wantsStandIn u) = true := by kernel_rfl
        exact (show Tryz.prog.wantsStandIn t = false by simpa using List.all_eq_true.1 hall t hm)⟩)
    imageEncodes_h4
end Go.Proofs.YtgjifikahlmioaaGreatDoor
