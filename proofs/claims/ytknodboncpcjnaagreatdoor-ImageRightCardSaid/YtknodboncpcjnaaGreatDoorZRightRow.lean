/-
  ImageRight: its statement (the tied card), for every input. Condition: the listed variables are as the program's text lays them (tied by the card).
-/
import Derived.Test.YtknodboncpcjnaaGreatDoorRows
import Derived.Test.YtknodboncpcjnaaGreatDoorZRightLaw
import Derived.Test.YtknodboncpcjnaaGreatDoorZArgs
import Derived.Test.YtknodboncpcjnaaGreatDoorRowKits
import Derived.Test.YtknodboncpcjnaaGreatDoorCards
import Derived.Test.YtknodboncpcjnaaGreatDoorTie
import Derived.ProofKit
import Derived.OpenShut
import Derived.ChangeMaps5
import Derived.LaidMore
import Derived.Lay
import Derived.SevenTiedAt
import Derived.Stop.Joined
namespace Go.Proofs.YtknodboncpcjnaaGreatDoor
open Go.ChangeShapes Go.WideShapes Go.ChangeAt Go.ChangeMaps Go.RowKit

theorem imageRight_own : ownKnob Tryz.prog.godebug = none := by kernel_rfl
def imageRight_laid : List (String × DataW Unit) := Rows.imageRightRow.laid

set_option maxRecDepth 100000 in
theorem imageRight_lifted (os : Os) (started : os.Started) (H : Type) (enc : TypeId × Value → H) :
    ReturnsInHanded {} Tryz.checked os 3 .any (fun w args => (Rows.imageRightSpec.pre enc Tryz.prog Tryz.f3 [] false w args ∧ laidMetH Tryz.prog imageRight_laid w) ∧ sizedMet enc Tryz.prog Tryz.f3 (OpenSpec.ofChange Rows.imageRightSpec) false w args)
      (Rows.imageRightSpec.post enc Tryz.prog Tryz.f3 false true false false) := by
  refine returnsInHanded_of_change_and (C := Tryz.checked) (X := fun w _ => laidMetH Tryz.prog imageRight_laid w) (fun _ _ _ hh h => h.of_heap hh) imageRight_own started (by kernel_rfl) Tryz.func3
    (ChangeSpec.witness_shaped (enc := enc) (C := Tryz.checked) (os := os) (X := fun w _ => laidMetH Tryz.prog imageRight_laid w) false (World.laidAll Tryz.prog os imageRight_laid) #[.agg #[.string ByteArray.empty, .string ByteArray.empty, .string ByteArray.empty, .string ByteArray.empty, .string ByteArray.empty, .string ByteArray.empty], .agg #[.int .i64 0, .int .i64 0, .bool false, .string ByteArray.empty, .string ByteArray.empty, .string ByteArray.empty, .string ByteArray.empty, .string ByteArray.empty, .string ByteArray.empty], .agg #[.slice none 0 0, .slice none 0 0, .slice none 0 0, .slice none 0 0, .int .i64 0, .int .i64 0, .int .i64 0]] 8 (World.laidAll_os _ _ _)
      (World.shaped_of_ZipB (by kernel_rfl) (by kernel_rfl)) (by kernel_rfl) (by kernel_rfl) (by kernel_rfl)
      (by rw [MakeChecks.laidMetH_plain _ _ _ (by kernel_rfl)]; exact laidMet_laidAll _ (by kernel_rfl) (by kernel_rfl))) ?_
  intro W base args ds gs before hval0 hW _ _ hL _
  have hval : ∀ (j : Nat) t v, Tryz.f3.params[j]? = some t → args[j]? = some v → Value.okWide Tryz.prog W .any base t v := hval0
  have hW' := hW
  obtain ⟨p, q, hA0, hV, rfl, hfz, hnd⟩ := hW
  have hA : DataW.TrodAll enc Tryz.prog W 0 (fun _ => true) true Tryz.f3.params.toList args.toList ds p := hA0
  rw [Tryz.params3] at hA hval
  obtain ⟨v0, vs0, d0, ds0, p0, q0, hargs, rfl, rfl, h0, r0⟩ := trodAll_cons hA
  obtain ⟨v1, vs1, d1, ds1, p1, q1, rfl, rfl, rfl, h1, r1⟩ := trodAll_cons r0
  obtain ⟨v2, vs2, d2, ds2, p2, q2, rfl, rfl, rfl, h2, r2⟩ := trodAll_cons r1
  obtain ⟨rfl, rfl, rfl⟩ := trodAll_nil r2
  obtain rfl : args = #[v0, v1, v2] := by cases args; simp_all
  obtain ⟨rfl, rfl⟩ := trodVars_none hV
  have k0 := h0
  have lt0 : ∀ x ∈ p0, x.block < W.heap.size := by obtain ⟨m, hm⟩ := k0; exact DataW.trod_lt m _ _ _ hm
  obtain ⟨x0, rfl, w0⟩ := open_likely13 (hval 0 23 v0 rfl rfl) h0
  have k1 := h1
  have lt1 : ∀ x ∈ p1, x.block < W.heap.size := by obtain ⟨m, hm⟩ := k1; exact DataW.trod_lt m _ _ _ hm
  obtain ⟨x1, rfl, w1, wa1, wb1⟩ := open_rule13 (hval 1 26 v1 rfl rfl) h1
  have k2 := h2
  have lt2 : ∀ x ∈ p2, x.block < W.heap.size := by obtain ⟨m, hm⟩ := k2; exact DataW.trod_lt m _ _ _ hm
  obtain ⟨S2, va2, vl2, vr2, vm2, rfl, w2⟩ := open_seed13 (hval 2 30 v2 rfl rfl) h2
  clear hA0 hval0
  refine (imageRight_law x0 x1 S2 va2 vl2 vr2 vm2 W w0 w1 wa1 wb1 w2 (gl_of_laid hL)).mono fun e W' ⟨he, bel⟩ => ?_
  subst he
  exact ⟨_, rfl, _, _, _, [], _, [], hW', trodAll_mk1 (shut_bool Tryz.underlying4 _), (trodAll_cons_mk (Below.trod laidOut6 (by kernel_rfl) (of_decide_eq_true (by kernel_rfl)) k0 bel lt0) (trodAll_cons_mk (Below.trod laidOut6 (by kernel_rfl) (of_decide_eq_true (by kernel_rfl)) k1 bel lt1) (trodAll_cons_mk (Below.trod laidOut6 (by kernel_rfl) (of_decide_eq_true (by kernel_rfl)) k2 bel lt2) trodAll_mk0))), rfl, bel.frame _, fun h => by cases h⟩

theorem imageRight_andJ {a b : Bool} (h1 : a = true) (h2 : b = true) : (a && b) = true := by rw [h1, h2]; rfl
theorem imageRight_j0 : (Rows.imageRightRow.wf (OpenSpec.ofChange Rows.imageRightSpec)) = true := by kernel_rfl
theorem imageRight_j1 : (laidOutB Tryz.prog) = true := by kernel_rfl
theorem imageRight_j2 : (mapsRowed Tryz.prog) = true := by kernel_rfl
theorem imageRight_j3 : (Tryz.f3.params.all (Tryz.prog.readableRec ·)) = true := by kernel_rfl
theorem imageRight_j4 : (namedTie Tryz.prog Rows.imageRightRow.named Rows.imageRightSpec.vars) = true := by kernel_rfl
theorem imageRight_j5 : ((Rows.imageRightRow.stops == [])) = true := by kernel_rfl
theorem imageRight_j6 : ((Tryz.prog.stops == [])) = true := by kernel_rfl
theorem imageRight_j7 : ((Rows.imageRightRow.knobs == [])) = true := by kernel_rfl
theorem imageRight_j8 : ((Tryz.prog.stopKnobs == [])) = true := by kernel_rfl
theorem imageRight_j9 : ((Rows.imageRightRow.inPlace == Tryz.prog.inPlace 3)) = true := by kernel_rfl
theorem imageRight_j10 : ((Rows.imageRightRow.unfollowed == Tryz.prog.unfollowed 3)) = true := by kernel_rfl
theorem imageRight_j11 : ((Rows.imageRightRow.recurses == Tryz.prog.recurses 3)) = true := by kernel_rfl
theorem imageRight_j12 : ((Rows.imageRightRow.named == Tryz.prog.varsNamed 3)) = true := by kernel_rfl
theorem imageRight_j13 : ((Rows.imageRightRow.maps == (Tryz.f3.params.toList ++ Rows.imageRightSpec.plain.varTypes Tryz.prog).any (Tryz.prog.mapsRec ·))) = true := by kernel_rfl
theorem imageRight_j14 : ((Rows.imageRightRow.ifaces == (Tryz.f3.params.toList ++ Rows.imageRightSpec.plain.varTypes Tryz.prog).any (Tryz.prog.ifacesRec ·))) = true := by kernel_rfl
theorem imageRight_j15 : ((Rows.imageRightRow.mapsOut == Tryz.prog.mapsAmong Tryz.f3.resultTypes.toList)) = true := by kernel_rfl
theorem imageRight_j16 : ((Rows.imageRightRow.loops == (Tryz.f3.params.toList ++ Rows.imageRightSpec.plain.varTypes Tryz.prog).any (Tryz.prog.loopsFrom ·))) = true := by kernel_rfl
theorem imageRight_j17 : ((Rows.imageRightRow.wideKeys == (Tryz.f3.params.toList ++ Rows.imageRightSpec.plain.varTypes Tryz.prog ++ Tryz.f3.resultTypes.toList).any (Tryz.prog.wideKeysFrom ·))) = true := by kernel_rfl
theorem imageRight_j18 : (Rows.imageRightSpec.vars.all (Tryz.prog.varReadable ·)) = true := by kernel_rfl
theorem imageRight_j19 : (Tryz.f3.resultTypes.all (fun t => Tryz.prog.readableRec t && decide (t < Tryz.prog.types.size))) = true := by kernel_rfl
theorem imageRight_j20 : ((Rows.imageRightRow.ifacesOut == Tryz.f3.resultTypes.toList.any (Tryz.prog.ifacesRec ·))) = true := by kernel_rfl
theorem imageRight_j21 : ((Rows.imageRightRow.loopsOut == Tryz.f3.resultTypes.toList.any (Tryz.prog.loopsFrom ·))) = true := by kernel_rfl
theorem imageRight_j22 : ((Rows.imageRightRow.plainKeys == Tryz.prog.plainKeys)) = true := by kernel_rfl
theorem imageRight_j23 : (Rows.imageRightRow.shortTexts.isNone) = true := by kernel_rfl
theorem imageRight_j24 : (Tryz.prog.stopsHeard) = true := by kernel_rfl
theorem imageRight_j25 : (Tryz.prog.mayEnter) = true := by kernel_rfl
theorem imageRight_j26 : ((Rows.imageRightRow.lifted == Tryz.prog.liftsFinal)) = true := by kernel_rfl
theorem imageRight_j27 : ((Tryz.prog.make == some Rows.imageRightRow.make)) = true := by kernel_rfl
theorem imageRight_j28 : ((Rows.imageRightRow.kinds == (if Rows.imageRightRow.domain.isEmpty then [] else Tryz.f3.params.toList.map fun t => match Tryz.prog.underlying t with | some (.int k) => some k | _ => none))) = true := by kernel_rfl
theorem imageRight_j29 : ((Rows.imageRightRow.pinned == Rows.imageRightRow.pinnedBy)) = true := by kernel_rfl
theorem imageRight_j30 : ((Rows.imageRightRow.veiled == (Tryz.f3.params.toList ++ Rows.imageRightSpec.plain.varTypes Tryz.prog ++ Tryz.f3.resultTypes.toList).any (Tryz.prog.veiledRec ·))) = true := by kernel_rfl
theorem imageRight_j31 : (Rows.imageRightRow.veiledFits Tryz.prog Tryz.f3.params.toList (Tryz.f3.params.toList ++ Rows.imageRightSpec.plain.varTypes Tryz.prog ++ Tryz.f3.resultTypes.toList)) = true := by kernel_rfl
set_option maxRecDepth 100000 in
theorem imageRight_joined : joinedFacts Tryz.prog 3 Tryz.f3 Rows.imageRightSpec Rows.imageRightRow = true := by
  unfold joinedFacts
  exact (imageRight_andJ (imageRight_andJ (imageRight_andJ (imageRight_andJ (imageRight_andJ (imageRight_andJ (imageRight_andJ (imageRight_andJ (imageRight_andJ (imageRight_andJ (imageRight_andJ (imageRight_andJ (imageRight_andJ (imageRight_andJ (imageRight_andJ (imageRight_andJ (imageRight_andJ (imageRight_andJ (imageRight_andJ (imageRight_andJ (imageRight_andJ (imageRight_andJ (imageRight_andJ (imageRight_andJ (imageRight_andJ (imageRight_andJ (imageRight_andJ (imageRight_andJ (imageRight_andJ (imageRight_andJ (imageRight_andJ imageRight_j0 imageRight_j1) imageRight_j2) imageRight_j3) imageRight_j4) imageRight_j5) imageRight_j6) imageRight_j7) imageRight_j8) imageRight_j9) imageRight_j10) imageRight_j11) imageRight_j12) imageRight_j13) imageRight_j14) imageRight_j15) imageRight_j16) imageRight_j17) imageRight_j18) imageRight_j19) imageRight_j20) imageRight_j21) imageRight_j22) imageRight_j23) imageRight_j24) imageRight_j25) imageRight_j26) imageRight_j27) imageRight_j28) imageRight_j29) imageRight_j30) imageRight_j31)

theorem imageRight_over : Rows.ImageRightSaid :=
  OpenClaim.holds_of_wide 3 Tryz.f3 rfl rfl rfl rfl rfl rfl rfl ⟨rfl, rfl, rfl, rfl, rfl⟩ rfl rfl rfl rfl rfl (by kernel_rfl) Tryz.func3 imageRight_joined
    (of_decide_eq_true (by kernel_rfl)) (by unfold Func.isWrapper; rw [if_neg (of_decide_eq_false (by kernel_rfl))]; exact ⟨rfl, rfl⟩)
    (fun os started H enc _ => imageRight_lifted os started H enc)

theorem imageRight_h1 : Rows.imageRightRow.wfByText (OpenSpec.ofChange Rows.imageRightSpec) = true := by kernel_rfl
theorem imageRight_h2 : Tryz.prog.mainIs = some (((true, "ec4704174bde4be45fd9c17991e10bc734cb66748ad6463e473ed8cb3911af39") : Bool × String).1, ((true, "ec4704174bde4be45fd9c17991e10bc734cb66748ad6463e473ed8cb3911af39") : Bool × String).2.toList) := by kernel_rfl
theorem imageRight_h3 : true = Tryz.prog.looks [] := by kernel_rfl
theorem imageRight_h4 : false = Rows.imageRightRow.goesBy Tryz.prog := by kernel_rfl
theorem imageRight_h5 : Tryz.prog.funcNamed "isogloss/isoglosslaw13.ImageRight" = some 3 := by kernel_rfl

/-- The statement. -/
theorem imageRight_holds : Rows.ImageRightCardSaid :=
  Claim7.holds_tied_plain_at .later [] [.data] true (true, "ec4704174bde4be45fd9c17991e10bc734cb66748ad6463e473ed8cb3911af39") true
    imageRight_over (fun _ h => by cases h) imageRight_h1 (fun _ h => by cases h) imageRight_row_tie rfl ⟨rfl, rfl⟩ imageRight_h2 rfl
    (fun f fn hf hfn => by
      obtain rfl : f = 3 := Option.some.inj (imageRight_h5.symm.trans hf) |>.symm
      obtain rfl : fn = Tryz.f3 := (Option.some.inj (Tryz.func3.symm.trans hfn)).symm
      exact ⟨imageRight_h3, fun j t ht => by
        rw [Tryz.params3] at ht
        have hm : t ∈ [23, 26, 30] := by simpa using Array.mem_of_getElem? ht
        have hall : ([23, 26, 30].all fun u => !Tryz.prog.wantsStandIn u) = true := by kernel_rfl
        exact (show Tryz.prog.wantsStandIn t = false by simpa using List.all_eq_true.1 hall t hm)⟩)
    imageRight_h4
end Go.Proofs.YtknodboncpcjnaaGreatDoor
