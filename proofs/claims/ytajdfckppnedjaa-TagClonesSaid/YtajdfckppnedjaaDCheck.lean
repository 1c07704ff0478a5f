/-
  Package split: Check; what Kind, Place and Whats tell of its error.
-/
import Derived.Test.YtajdfckppnedjaaDSplit
import Derived.Test.YtajdfckppnedjaaNew
import Derived.Test.YtajdfckppnedjaaDScope
namespace Go.Proofs.Ytajdfckppnedjaa
open Go Go.RowKit

attribute [local go_sem] Oper.semAt_some

theorem badOf_append (a b : List (Nat × ByteArray)) : badOf (a ++ b) = if badOf a = none then badOf b else badOf a := by
  induction a with
  | nil => simp [badOf]
  | cons x r ih =>
    rw [List.cons_append]
    by_cases h : okS x.2 = true
    · simp only [badOf, h, if_true]; exact ih
    · simp [badOf, h]

/- What is told of it. -/
def SUB : ByteArray := ⟨#[115, 117, 98, 116, 97, 103]⟩
def kindE (s : ByteArray) : Int := if (chkS s).isNone then 0 else 10
def placeE (s : ByteArray) : Int := match chkS s with
  | none => -1
  | some a => a
end Go.Proofs.Ytajdfckppnedjaa
