/-
  No cell of these rows narrows 'for every input' (looked for: loops, veiled, ifaces, maps, wideKeys, modest, calm, conditions, laid).
  DERIVED. THE GIVEN ROWS OF THIS SEAT. 3 by the template 'for every input the law returns true; each argument reads behind the call as it read before'; 0 by the template 'total and deterministic' (their statements: YthjfcfhibdpbnaaTotals.lean).
  GIVEN WITH THE SEED: the statements are not yours to turn. If you find one false, say at which input.
  Laid BY PROGRAM, IN A SANDBOX (cutbox-rows.mjs): the forced cells as the released guide's own fill.sh prints them over the translation 1434b346f9ba67c5… (all of the seat's roots in one cut). By AI agents, Wed Nov 11 2026. No macro, syntax, notation, axiom, sorry.
-/
import Derived.Test.YthjfcfhibdpbnaaChecked
import GoSem.Claim
import GoSem.ClaimJoined
import GoSem.ClaimMapViews
import Derived.JoinedTies
import Derived.KernelRfl
namespace Go.Proofs.Ythjfcfhibdpbnaa
/- THE CELL 'sum', in the pinned program and in every row, IS THE sha256 OF THE DUMP (.gsa) THAT YthjfcfhibdpbnaaProg.lean LOADS. Nothing in Lean hashes anything: it is a label: what it is worth is what the hold of that sum in a sandbox is worth. -/
noncomputable def Try.pinned : Pinned := { name := "ythjfcfhibdpbnaa", sum := "1434b346f9ba67c54b75468075c6c55f74bb8383b8eab0df44c31c239e098e02", checked := Try.checked }
namespace Rows
def none {H : Type} : Left H := { results := [], args := [] }

/-- 'isoglosslaw18.LikelyTells': WHATEVER THE INPUT: true; the input reads as it did. -/
def likelyTellsSpec : ChangeSpec := { name := "likelyTells", fn := fun _ => fun
  | [d1, d2, d3] => { results := [.lit (.bool true)], args := [d1, d2, d3] }
  | _ => none }
def likelyTellsRow : OpenClaim := { program := "ythjfcfhibdpbnaa", sum := "1434b346f9ba67c54b75468075c6c55f74bb8383b8eab0df44c31c239e098e02", func := "isogloss/isoglosslaw18.LikelyTells", spec := "likelyTells", unfollowed := true, recurses := true, plainKeys := false, apart := false }
def LikelyTellsSaid : Prop := likelyTellsRow.holds Try.pinned (OpenSpec.ofChange likelyTellsSpec)

/-- ITS FALSE NEIGHBOUR: 'it returns false'. Refute it at one input. -/
def likelyTellsWrong : ChangeSpec := { name := "likelyTells", fn := fun _ => fun
  | [d1, d2, d3] => { results := [.lit (.bool false)], args := [d1, d2, d3] }
  | _ => none }
def LikelyTellsWrongFalsely : Prop := likelyTellsRow.holds Try.pinned (OpenSpec.ofChange likelyTellsWrong)

/-- 'isoglosslaw18.LikelyOwn': WHATEVER THE INPUT: true; the input reads as it did. -/
def likelyOwnSpec : ChangeSpec := { name := "likelyOwn", fn := fun _ => fun
  | [d1, d2] => { results := [.lit (.bool true)], args := [d1, d2] }
  | _ => none }
def likelyOwnRow : OpenClaim := { program := "ythjfcfhibdpbnaa", sum := "1434b346f9ba67c54b75468075c6c55f74bb8383b8eab0df44c31c239e098e02", func := "isogloss/isoglosslaw18.LikelyOwn", spec := "likelyOwn", unfollowed := true, recurses := true, plainKeys := false, apart := false }
def LikelyOwnSaid : Prop := likelyOwnRow.holds Try.pinned (OpenSpec.ofChange likelyOwnSpec)

/-- ITS FALSE NEIGHBOUR: 'it returns false'. Refute it at one input. -/
def likelyOwnWrong : ChangeSpec := { name := "likelyOwn", fn := fun _ => fun
  | [d1, d2] => { results := [.lit (.bool false)], args := [d1, d2] }
  | _ => none }
def LikelyOwnWrongFalsely : Prop := likelyOwnRow.holds Try.pinned (OpenSpec.ofChange likelyOwnWrong)

/-- 'isoglosslaw18.LikelyMore': WHATEVER THE INPUT: true; the input reads as it did. -/
def likelyMoreSpec : ChangeSpec := { name := "likelyMore", fn := fun _ => fun
  | [d1, d2, d3] => { results := [.lit (.bool true)], args := [d1, d2, d3] }
  | _ => none }
def likelyMoreRow : OpenClaim := { program := "ythjfcfhibdpbnaa", sum := "1434b346f9ba67c54b75468075c6c55f74bb8383b8eab0df44c31c239e098e02", func := "isogloss/isoglosslaw18.LikelyMore", spec := "likelyMore", unfollowed := true, recurses := true, plainKeys := false, apart := false }
def LikelyMoreSaid : Prop := likelyMoreRow.holds Try.pinned (OpenSpec.ofChange likelyMoreSpec)

/-- ITS FALSE NEIGHBOUR: 'it returns false'. Refute it at one input. -/
def likelyMoreWrong : ChangeSpec := { name := "likelyMore", fn := fun _ => fun
  | [d1, d2, d3] => { results := [.lit (.bool false)], args := [d1, d2, d3] }
  | _ => none }
def LikelyMoreWrongFalsely : Prop := likelyMoreRow.holds Try.pinned (OpenSpec.ofChange likelyMoreWrong)

/- THE SECOND FORM. 'bulk': how many values and letters a reading holds, each counted each time it is reached (what is shared counts as often as it is met; a slice's spare places count too). A statement '..UptoSaid' is the law's where the arguments, and the package variables that the reading takes, are together of bulk at most 1048576: NARROWER than '..Said'. Prove '..Said' where nothing that the law and all that it calls make is longer than what came in: it says more and counts as full. Else prove '..UptoSaid'. A law counts once. -/
mutual
def uptoBulk {H : Type} : DataW H → Nat
  | .lit (.string bytes) => bytes.length + 1
  | .lit _ => 1
  | .nil => 1
  | .ptr d => uptoBulk d + 1
  | .slice elems spare => uptoBulkAll elems + uptoBulkAll spare + 1
  | .agg parts => uptoBulkAll parts + 1
  | .iface _ d => uptoBulk d + 1
  | .map entries => uptoBulkEntries entries + 1
  | .held _ => 1
def uptoBulkAll {H : Type} : List (DataW H) → Nat
  | [] => 0
  | d :: r => uptoBulk d + uptoBulkAll r
def uptoBulkEntries {H : Type} : List (Lit × DataW H) → Nat
  | [] => 0
  | x :: r => uptoBulkEntry x + uptoBulkEntries r
def uptoBulkEntry {H : Type} : Lit × DataW H → Nat
  | (.string bytes, d) => bytes.length + uptoBulk d + 1
  | (_, d) => uptoBulk d + 1
 end
def uptoSmall : (H : Type) → List (DataW H) → Bool := fun _ ds => decide (uptoBulkAll ds ≤ 1048576)
def OpenSpec.upto (s : _root_.Go.ChangeSpec) : _root_.Go.OpenSpec := { _root_.Go.OpenSpec.ofChange s with cond := some uptoSmall }

/-- 'isoglosslaw18.LikelyTells', WHERE WHAT IT READS IS OF BULK AT MOST 1048576: true; the input reads as it did. -/
def likelyTellsUptoRow : OpenClaim := { program := "ythjfcfhibdpbnaa", sum := "1434b346f9ba67c54b75468075c6c55f74bb8383b8eab0df44c31c239e098e02", func := "isogloss/isoglosslaw18.LikelyTells", spec := "likelyTells", unfollowed := true, recurses := true, plainKeys := false, apart := false, narrowed := true }
def LikelyTellsUptoSaid : Prop := likelyTellsUptoRow.holds Try.pinned (OpenSpec.upto likelyTellsSpec)

/-- 'isoglosslaw18.LikelyOwn', WHERE WHAT IT READS IS OF BULK AT MOST 1048576: true; the input reads as it did. -/
def likelyOwnUptoRow : OpenClaim := { program := "ythjfcfhibdpbnaa", sum := "1434b346f9ba67c54b75468075c6c55f74bb8383b8eab0df44c31c239e098e02", func := "isogloss/isoglosslaw18.LikelyOwn", spec := "likelyOwn", unfollowed := true, recurses := true, plainKeys := false, apart := false, narrowed := true }
def LikelyOwnUptoSaid : Prop := likelyOwnUptoRow.holds Try.pinned (OpenSpec.upto likelyOwnSpec)

/-- 'isoglosslaw18.LikelyMore', WHERE WHAT IT READS IS OF BULK AT MOST 1048576: true; the input reads as it did. -/
def likelyMoreUptoRow : OpenClaim := { program := "ythjfcfhibdpbnaa", sum := "1434b346f9ba67c54b75468075c6c55f74bb8383b8eab0df44c31c239e098e02", func := "isogloss/isoglosslaw18.LikelyMore", spec := "likelyMore", unfollowed := true, recurses := true, plainKeys := false, apart := false, narrowed := true }
def LikelyMoreUptoSaid : Prop := likelyMoreUptoRow.holds Try.pinned (OpenSpec.upto likelyMoreSpec)

end Rows
end Go.Proofs.Ythjfcfhibdpbnaa
