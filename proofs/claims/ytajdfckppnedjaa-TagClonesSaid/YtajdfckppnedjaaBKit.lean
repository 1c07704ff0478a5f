/-
  What the laws of layer 2 share: contracts that go on from the start of the law; what a class says.
-/
import Derived.Test.YtajdfckppnedjaaBAwake
namespace Go.Proofs.Ytajdfckppnedjaa
open Go Go.RowKit

/-- A contract whose world is told of the world in which it is called, told of the start of the law. -/
theorem onward {K : FuncId} {args : Array Value} {v : Ending} (w : World) (h : ∀ w5, Calls Try.prog K args w5 fun e w6 => e = v ∧ Below w5.heap.size w5 w6) :
    Hid (∀ w5, Below w.heap.size w w5 → Calls Try.prog K args w5 fun e w6 => e = v ∧ Below w.heap.size w w6) :=
  fun w5 hb => (h w5).mono fun _ _ ⟨p, q⟩ => ⟨p, hb.trans (q.mono hb.size)⟩
theorem onwardS {K : FuncId} {args : Array Value} {v : Ending} (w : World) (h : ∀ w5, Calls Try.prog K args w5 fun e w6 => e = v ∧ w5 = w6) :
    Hid (∀ w5, Below w.heap.size w w5 → Calls Try.prog K args w5 fun e w6 => e = v ∧ Below w.heap.size w w6) :=
  fun w5 hb => (h w5).mono fun _ _ ⟨p, q⟩ => ⟨p, by rw [← q]; exact hb⟩
/-- A contract's result under another name. -/
theorem told {K : FuncId} {args : Array Value} {v v' : Ending} {w : World} (h : Hid (∀ w5, Below w.heap.size w w5 → Calls Try.prog K args w5 fun e w6 => e = v ∧ Below w.heap.size w w6)) (e : v = v') :
    Hid (∀ w5, Below w.heap.size w w5 → Calls Try.prog K args w5 fun e w6 => e = v' ∧ Below w.heap.size w w6) := by
  rw [← e]; exact h

inductive ClassIs (s : ByteArray) : Int → Bool → Bool → Bool → Prop
  | none (h0 : classS s = 0) (h1 : alphaS s = false) (h2 : digitS s = false) (h3 : alnumS s = false) : ClassIs s 0 false false false
  | alpha (h0 : classS s = 1) (h1 : alphaS s = true) (h2 : digitS s = false) (h3 : alnumS s = true) : ClassIs s 1 true false true
  | digit (h0 : classS s = 2) (h1 : alphaS s = false) (h2 : digitS s = true) (h3 : alnumS s = true) : ClassIs s 2 false true true
  | alnum (h0 : classS s = 3) (h1 : alphaS s = false) (h2 : digitS s = false) (h3 : alnumS s = true) : ClassIs s 3 false false true
theorem has_mono {p q : UInt8 → Bool} (h : ∀ c, p c = true → q c = true) {s : ByteArray} (hp : has p s = true) : has q s = true := by
  unfold has at *
  rw [Bool.and_eq_true] at *
  exact ⟨hp.1, by rw [List.all_eq_true] at *; exact fun c hc => h c (hp.2 c hc)⟩
theorem has_both {p q : UInt8 → Bool} (h : ∀ c, p c = true → q c = false) {s : ByteArray} (hp : has p s = true) : has q s = false := by
  cases hq : has q s with
  | false => rfl
  | true =>
    unfold has at *
    rw [Bool.and_eq_true] at *
    cases hb : bs s with
    | nil => rw [hb] at hp; simp at hp
    | cons c r =>
      rw [hb] at hp hq
      have h1 := hp.2
      have h2 := hq.2
      rw [List.all_cons, Bool.and_eq_true] at h1 h2
      rw [h c h1.1] at h2
      cases h2.1
theorem classIs (s : ByteArray) : ∃ c a d n, ClassIs s c a d n := by
  cases h1 : alphaS s with
  | true =>
    exact ⟨_, _, _, _, .alpha (by unfold classS; rw [if_pos h1]) h1 (has_both isA_not_isD h1) (has_mono (fun c h => by simp [isN, h]) h1)⟩
  | false =>
    cases h2 : digitS s with
    | true => exact ⟨_, _, _, _, .digit (by unfold classS; rw [if_neg (by simp [h1]), if_pos h2]) h1 h2 (has_mono (fun c h => by simp [isN, h]) h2)⟩
    | false =>
      cases h3 : alnumS s with
      | true => exact ⟨_, _, _, _, .alnum (by unfold classS; rw [if_neg (by simp [h1]), if_neg (by simp [h2]), if_pos h3]) h1 h2 h3⟩
      | false => exact ⟨_, _, _, _, .none (by unfold classS; rw [if_neg (by simp [h1]), if_neg (by simp [h2]), if_neg (by simp [h3])]) h1 h2 h3⟩
end Go.Proofs.Ytajdfckppnedjaa
