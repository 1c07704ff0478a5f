/-
  ImageBack: its statement (the tied card), for every input. Condition: the listed variables are as the program's text lays them (tied by the card).
-/
import Derived.Test.YtaoggmfedocfeaaGreatDoorRows
import Derived.Test.YtaoggmfedocfeaaGreatDoorODBackL
import Derived.Test.YtaoggmfedocfeaaGreatDoorZArgs
import Derived.Test.YtaoggmfedocfeaaGreatDoorRowKits
import Derived.Test.YtaoggmfedocfeaaGreatDoorCards
import Derived.Test.YtaoggmfedocfeaaGreatDoorTie
import Derived.ProofKit
import Derived.OpenShut
import Derived.ChangeMaps5
import Derived.LaidMore
import Derived.Lay
import Derived.SevenTiedAt
import Derived.Stop.Joined
namespace Go.Proofs.YtaoggmfedocfeaaGreatDoor
open Go.ChangeShapes Go.WideShapes Go.ChangeAt Go.ChangeMaps Go.RowKit

theorem gl_of_laidB {W : World} (h : laidMetH Tryz.prog Rows.imageBackRow.laid W) : GL W := by
  rw [show Rows.imageBackRow.laid = [("unicode/utf8.acceptRanges", Rows.laid_unicode_utf8_acceptRanges), ("isogloss/grand.tags", Rows.laid_isogloss_grand_tags), ("unicode/utf8.first", Rows.laid_unicode_utf8_first)] from rfl] at h
  rw [MakeChecks.laidMetH_plain _ _ _ (by kernel_rfl)] at h
  obtain ⟨ps, ⟨_, _, _, _, _, _, _, _, _, _, ⟨g', t', cs, fuel, p, q, hg', ht', hvar, hd, _, _⟩, _⟩, _⟩ := h
  have hty : (Tryz.prog.globals[1]?).map (·.type) = some 254 := by kernel_rfl
  obtain rfl := Option.some.inj (gGlobal.symm.trans hg')
  obtain rfl := Option.some.inj (hty.symm.trans ht')
  have hd' : DataW.trod _ Tryz.prog W 0 _ _ fuel 254 cs.toList = some (.agg gData, p) := hd
  have := tags_cells hd'
  show World.var? _ _ _ = _
  rw [hvar, ← this]

theorem imageBack_own : ownKnob Tryz.prog.godebug = none := by kernel_rfl
def imageBack_laid : List (String × DataW Unit) := Rows.imageBackRow.laid

set_option maxRecDepth 100000 in
theorem imageBack_lifted (os : Os) (started : os.Started) (H : Type) (enc : TypeId × Value → H) :
    ReturnsInHanded {} Tryz.checked os 3 .any (fun w args => (Rows.imageBackSpec.pre enc Tryz.prog Tryz.f3 [] false w args ∧ laidMetH Tryz.prog imageBack_laid w) ∧ sizedMet enc Tryz.prog Tryz.f3 (OpenSpec.ofChange Rows.imageBackSpec) false w args)
      (Rows.imageBackSpec.post enc Tryz.prog Tryz.f3 false true false false) := by
  refine returnsInHanded_of_change_and (C := Tryz.checked) (X := fun w _ => laidMetH Tryz.prog imageBack_laid w) (fun _ _ _ hh h => h.of_heap hh) imageBack_own started (by kernel_rfl) Tryz.func3
    (ChangeSpec.witness_shaped (enc := enc) (C := Tryz.checked) (os := os) (X := fun w _ => laidMetH Tryz.prog imageBack_laid w) false (World.laidAll Tryz.prog os imageBack_laid) #[.agg #[.slice none 0 0, .slice none 0 0, .slice none 0 0, .slice none 0 0, .int .i64 0, .int .i64 0, .int .i64 0], .agg #[.int .i64 0, .int .i64 0]] 8 (World.laidAll_os _ _ _)
      (World.shaped_of_ZipB (by kernel_rfl) (by kernel_rfl)) (by kernel_rfl) (by kernel_rfl) (by kernel_rfl)
      (by rw [MakeChecks.laidMetH_plain _ _ _ (by kernel_rfl)]; exact laidMet_laidAll _ (by kernel_rfl) (by kernel_rfl))) ?_
  intro W base args ds gs before hval0 hW _ _ hL _
  have hval : ∀ (j : Nat) t v, Tryz.f3.params[j]? = some t → args[j]? = some v → Value.okWide Tryz.prog W .any base t v := hval0
  have hW' := hW
  obtain ⟨p, q, hA0, hV, rfl, hfz, hnd⟩ := hW
  have hA : DataW.TrodAll enc Tryz.prog W 0 (fun _ => true) true Tryz.f3.params.toList args.toList ds p := hA0
  rw [Tryz.params3] at hA hval
  obtain ⟨v0, vs0, d0, ds0, p0, q0, hargs, rfl, rfl, h0, r0⟩ := trodAll_cons hA
  obtain ⟨v1, vs1, d1, ds1, p1, q1, rfl, rfl, rfl, h1, r1⟩ := trodAll_cons r0
  obtain ⟨rfl, rfl, rfl⟩ := trodAll_nil r1
  obtain rfl : args = #[v0, v1] := by cases args; simp_all
  obtain ⟨rfl, rfl⟩ := trodVars_none hV
  have k0 := h0
  have lt0 : ∀ x ∈ p0, x.block < W.heap.size := by obtain ⟨m, hm⟩ := k0; exact DataW.trod_lt m _ _ _ hm
  obtain ⟨S0, va0, vl0, vr0, vm0, rfl, w0⟩ := open_seed13 (hval 0 25 v0 rfl rfl) h0
  have k1 := h1
  have lt1 : ∀ x ∈ p1, x.block < W.heap.size := by obtain ⟨m, hm⟩ := k1; exact DataW.trod_lt m _ _ _ hm
  obtain ⟨a1, b1, rfl, w1, u1⟩ := open_ints2 (hval 1 26 v1 rfl rfl) h1
  clear hA0 hval0
  refine (imageBack_law S0 va0 vl0 vr0 vm0 a1 b1 W w0 (gl_of_laidB hL)).mono fun e W' ⟨he, bel⟩ => ?_
  subst he
  exact ⟨_, rfl, _, _, _, [], _, [], hW', trodAll_mk1 (shut_bool Tryz.underlying4 _), (trodAll_cons_mk (Below.trod laidOut6 (by kernel_rfl) (of_decide_eq_true (by kernel_rfl)) k0 bel lt0) (trodAll_cons_mk (Below.trod laidOut6 (by kernel_rfl) (of_decide_eq_true (by kernel_rfl)) k1 bel lt1) trodAll_mk0)), rfl, bel.frame _, fun h => by cases h⟩

theorem imageBack_andJ {a b : Bool} (h1 : a = true) (h2 : b = true) : (a && b) = true := by rw [h1, h2]; rfl
theorem imageBack_j0 : (Rows.imageBackRow.wf (OpenSpec.ofChange Rows.imageBackSpec)) = true := by kernel_rfl
theorem imageBack_j1 : (laidOutB Tryz.prog) = true := by kernel_rfl
theorem imageBack_j2 : (mapsRowed Tryz.prog) = true := by kernel_rfl
theorem imageBack_j3 : (Tryz.f3.params.all (Tryz.prog.readableRec ·)) = true := by kernel_rfl
theorem imageBack_j4 : (namedTie Tryz.prog Rows.imageBackRow.named Rows.imageBackSpec.vars) = true := by kernel_rfl
theorem imageBack_j5 : ((Rows.imageBackRow.stops == [])) = true := by kernel_rfl
theorem imageBack_j6 : ((Tryz.prog.stops == [])) = true := by kernel_rfl
theorem imageBack_j7 : ((Rows.imageBackRow.knobs == [])) = true := by kernel_rfl
theorem imageBack_j8 : ((Tryz.prog.stopKnobs == [])) = true := by kernel_rfl
theorem imageBack_j9 : ((Rows.imageBackRow.inPlace == Tryz.prog.inPlace 3)) = true := by kernel_rfl
theorem imageBack_j10 : ((Rows.imageBackRow.unfollowed == Tryz.prog.unfollowed 3)) = true := by kernel_rfl
theorem imageBack_j11 : ((Rows.imageBackRow.recurses == Tryz.prog.recurses 3)) = true := by kernel_rfl
theorem imageBack_j12 : ((Rows.imageBackRow.named == Tryz.prog.varsNamed 3)) = true := by kernel_rfl
theorem imageBack_j13 : ((Rows.imageBackRow.maps == (Tryz.f3.params.toList ++ Rows.imageBackSpec.plain.varTypes Tryz.prog).any (Tryz.prog.mapsRec ·))) = true := by kernel_rfl
theorem imageBack_j14 : ((Rows.imageBackRow.ifaces == (Tryz.f3.params.toList ++ Rows.imageBackSpec.plain.varTypes Tryz.prog).any (Tryz.prog.ifacesRec ·))) = true := by kernel_rfl
theorem imageBack_j15 : ((Rows.imageBackRow.mapsOut == Tryz.prog.mapsAmong Tryz.f3.resultTypes.toList)) = true := by kernel_rfl
theorem imageBack_j16 : ((Rows.imageBackRow.loops == (Tryz.f3.params.toList ++ Rows.imageBackSpec.plain.varTypes Tryz.prog).any (Tryz.prog.loopsFrom ·))) = true := by kernel_rfl
theorem imageBack_j17 : ((Rows.imageBackRow.wideKeys == (Tryz.f3.params.toList ++ Rows.imageBackSpec.plain.varTypes Tryz.prog ++ Tryz.f3.resultTypes.toList).any (Tryz.prog.wideKeysFrom ·))) = true := by kernel_rfl
theorem imageBack_j18 : (Rows.imageBackSpec.vars.all (Tryz.prog.varReadable ·)) = true := by kernel_rfl
theorem imageBack_j19 : (Tryz.f3.resultTypes.all (fun t => Tryz.prog.readableRec t && decide (t < Tryz.prog.types.size))) = true := by kernel_rfl
theorem imageBack_j20 : ((Rows.imageBackRow.ifacesOut == Tryz.f3.resultTypes.toList.any (Tryz.prog.ifacesRec ·))) = true := by kernel_rfl
theorem imageBack_j21 : ((Rows.imageBackRow.loopsOut == Tryz.f3.resultTypes.toList.any (Tryz.prog.loopsFrom ·))) = true := by kernel_rfl
theorem imageBack_j22 : ((Rows.imageBackRow.plainKeys == Tryz.prog.plainKeys)) = true := by kernel_rfl
theorem imageBack_j23 : (Rows.imageBackRow.shortTexts.isNone) = true := by kernel_rfl
theorem imageBack_j24 : (Tryz.prog.stopsHeard) = true := by kernel_rfl
theorem imageBack_j25 : (Tryz.prog.mayEnter) = true := by kernel_rfl
theorem imageBack_j26 : ((Rows.imageBackRow.lifted == Tryz.prog.liftsFinal)) = true := by kernel_rfl
theorem imageBack_j27 : ((Tryz.prog.make == some Rows.imageBackRow.make)) = true := by kernel_rfl
theorem imageBack_j28 : ((Rows.imageBackRow.kinds == (if Rows.imageBackRow.domain.isEmpty then [] else Tryz.f3.params.toList.map fun t => match Tryz.prog.underlying t with | some (.int k) => some k | _ => none))) = true := by kernel_rfl
theorem imageBack_j29 : ((Rows.imageBackRow.pinned == Rows.imageBackRow.pinnedBy)) = true := by kernel_rfl
theorem imageBack_j30 : ((Rows.imageBackRow.veiled == (Tryz.f3.params.toList ++ Rows.imageBackSpec.plain.varTypes Tryz.prog ++ Tryz.f3.resultTypes.toList).any (Tryz.prog.veiledRec ·))) = true := by kernel_rfl
theorem imageBack_j31 : (Rows.imageBackRow.veiledFits Tryz.prog Tryz.f3.params.toList (Tryz.f3.params.toList ++ Rows.imageBackSpec.plain.varTypes Tryz.prog ++ Tryz.f3.resultTypes.toList)) = true := by kernel_rfl
set_option maxRecDepth 100000 in
theorem imageBack_joined : joinedFacts Tryz.prog 3 Tryz.f3 Rows.imageBackSpec Rows.imageBackRow = true := by
  unfold joinedFacts
  exact (imageBack_andJ (imageBack_andJ (imageBack_andJ (imageBack_andJ (imageBack_andJ (imageBack_andJ (imageBack_andJ (imageBack_andJ (imageBack_andJ (imageBack_andJ (imageBack_andJ (imageBack_andJ (imageBack_andJ (imageBack_andJ (imageBack_andJ (imageBack_andJ (imageBack_andJ (imageBack_andJ (imageBack_andJ (imageBack_andJ (imageBack_andJ (imageBack_andJ (imageBack_andJ (imageBack_andJ (imageBack_andJ (imageBack_andJ (imageBack_andJ (imageBack_andJ (imageBack_andJ (imageBack_andJ (imageBack_andJ imageBack_j0 imageBack_j1) imageBack_j2) imageBack_j3) imageBack_j4) imageBack_j5) imageBack_j6) imageBack_j7) imageBack_j8) imageBack_j9) imageBack_j10) imageBack_j11) imageBack_j12) imageBack_j13) imageBack_j14) imageBack_j15) imageBack_j16) imageBack_j17) imageBack_j18) imageBack_j19) imageBack_j20) imageBack_j21) imageBack_j22) imageBack_j23) imageBack_j24) imageBack_j25) imageBack_j26) imageBack_j27) imageBack_j28) imageBack_j29) imageBack_j30) imageBack_j31)

theorem imageBack_over : Rows.ImageBackSaid :=
  OpenClaim.holds_of_wide 3 Tryz.f3 rfl rfl rfl rfl rfl rfl rfl ⟨rfl, rfl, rfl, rfl, rfl⟩ rfl rfl rfl rfl rfl (by kernel_rfl) Tryz.func3 imageBack_joined
    (of_decide_eq_true (by kernel_rfl)) (by unfold Func.isWrapper; rw [if_neg (of_decide_eq_false (by kernel_rfl))]; exact ⟨rfl, rfl⟩)
    (fun os started H enc _ => imageBack_lifted os started H enc)

theorem imageBack_h1 : Rows.imageBackRow.wfByText (OpenSpec.ofChange Rows.imageBackSpec) = true := by kernel_rfl
theorem imageBack_h2 : Tryz.prog.mainIs = some (((true, "69dd6e2516868fca9c14ce38c174e20dfcbd705f8a51638a33fa528071b57660") : Bool × String).1, ((true, "69dd6e2516868fca9c14ce38c174e20dfcbd705f8a51638a33fa528071b57660") : Bool × String).2.toList) := by kernel_rfl
theorem imageBack_h3 : false = Tryz.prog.looks [] := by kernel_rfl
theorem imageBack_h4 : false = Rows.imageBackRow.goesBy Tryz.prog := by kernel_rfl
theorem imageBack_h5 : Tryz.prog.funcNamed "isogloss/isoglosslaw13.ImageBack" = some 3 := by kernel_rfl

/-- The statement. -/
theorem imageBack_holds : Rows.ImageBackCardSaid :=
  Claim7.holds_tied_plain_at .later [] [.data, .data, .pinned] true (true, "69dd6e2516868fca9c14ce38c174e20dfcbd705f8a51638a33fa528071b57660") false
    imageBack_over (fun _ h => by cases h) imageBack_h1 (fun _ h => by cases h) imageBack_row_tie rfl ⟨rfl, rfl⟩ imageBack_h2 rfl
    (fun f fn hf hfn => by
      obtain rfl : f = 3 := Option.some.inj (imageBack_h5.symm.trans hf) |>.symm
      obtain rfl : fn = Tryz.f3 := (Option.some.inj (Tryz.func3.symm.trans hfn)).symm
      exact ⟨imageBack_h3, fun j t ht => by
        rw [Tryz.params3] at ht
        have hm : t ∈ [25, 26] := by simpa using Array.mem_of_getElem? ht
        have hall : ([25, 26].all fun u => !Tryz.prog.wantsStandIn u) = true := by kernel_rfl
        exact (show Tryz.prog.wantsStandIn t = false by simpa using List.all_eq_true.1 hall t hm)⟩)
    imageBack_h4
end Go.Proofs.YtaoggmfedocfeaaGreatDoor
