/-
  No cell of these rows narrows 'for every input' (looked for: loops, veiled, ifaces, maps, wideKeys, modest, calm, conditions, laid).
  DERIVED. THE GIVEN ROWS OF THIS SEAT. 6 by the template 'for every input the law returns true; each argument reads behind the call as it read before'; 0 by the template 'total and deterministic' (their statements: YtialecghpekcnaaTotals.lean).
  GIVEN WITH THE SEED: the statements are not yours to turn. If you find one false, say at which input.
  Laid BY PROGRAM, IN A SANDBOX (cutbox-rows.mjs): the forced cells as the released guide's own fill.sh prints them over the translation 3fbaff1fe21f7800… (all of the seat's roots in one cut). By AI agents, Wed Nov 11 2026. No macro, syntax, notation, axiom, sorry.
-/
import Derived.Test.YtialecghpekcnaaChecked
import GoSem.Claim
import GoSem.ClaimJoined
import GoSem.ClaimMapViews
import Derived.JoinedTies
import Derived.KernelRfl
namespace Go.Proofs.Ytialecghpekcnaa
/- THE CELL 'sum', in the pinned program and in every row, IS THE sha256 OF THE DUMP (.gsa) THAT YtialecghpekcnaaProg.lean LOADS. Nothing in Lean hashes anything: it is a label: what it is worth is what the hold of that sum in a sandbox is worth. -/
noncomputable def Try.pinned : Pinned := { name := "ytialecghpekcnaa", sum := "3fbaff1fe21f780055d5739a702aab835828e747a11af6287de9c6cbd1dcd876", checked := Try.checked }
namespace Rows
def none {H : Type} : Left H := { results := [], args := [] }

/-- 'cuecardlaw09.TailPieces': WHATEVER THE INPUT: true; the input reads as it did. -/
def tailPiecesSpec : ChangeSpec := { name := "tailPieces", fn := fun _ => fun
  | [d1, d2] => { results := [.lit (.bool true)], args := [d1, d2] }
  | _ => none }
def tailPiecesRow : OpenClaim := { program := "ytialecghpekcnaa", sum := "3fbaff1fe21f780055d5739a702aab835828e747a11af6287de9c6cbd1dcd876", func := "cuecard/cuecardlaw09.TailPieces", spec := "tailPieces", apart := false }
def TailPiecesSaid : Prop := tailPiecesRow.holds Try.pinned (OpenSpec.ofChange tailPiecesSpec)

/-- ITS FALSE NEIGHBOUR: 'it returns false'. Refute it at one input. -/
def tailPiecesWrong : ChangeSpec := { name := "tailPieces", fn := fun _ => fun
  | [d1, d2] => { results := [.lit (.bool false)], args := [d1, d2] }
  | _ => none }
def TailPiecesWrongFalsely : Prop := tailPiecesRow.holds Try.pinned (OpenSpec.ofChange tailPiecesWrong)

/-- 'cuecardlaw09.TailFactors': WHATEVER THE INPUT: true; the input reads as it did. -/
def tailFactorsSpec : ChangeSpec := { name := "tailFactors", fn := fun _ => fun
  | [d1, d2] => { results := [.lit (.bool true)], args := [d1, d2] }
  | _ => none }
def tailFactorsRow : OpenClaim := { program := "ytialecghpekcnaa", sum := "3fbaff1fe21f780055d5739a702aab835828e747a11af6287de9c6cbd1dcd876", func := "cuecard/cuecardlaw09.TailFactors", spec := "tailFactors", unfollowed := true, recurses := true, apart := false }
def TailFactorsSaid : Prop := tailFactorsRow.holds Try.pinned (OpenSpec.ofChange tailFactorsSpec)

/-- ITS FALSE NEIGHBOUR: 'it returns false'. Refute it at one input. -/
def tailFactorsWrong : ChangeSpec := { name := "tailFactors", fn := fun _ => fun
  | [d1, d2] => { results := [.lit (.bool false)], args := [d1, d2] }
  | _ => none }
def TailFactorsWrongFalsely : Prop := tailFactorsRow.holds Try.pinned (OpenSpec.ofChange tailFactorsWrong)

/-- 'cuecardlaw09.TailEnds': WHATEVER THE INPUT: true; the input reads as it did. -/
def tailEndsSpec : ChangeSpec := { name := "tailEnds", fn := fun _ => fun
  | [d1, d2, d3] => { results := [.lit (.bool true)], args := [d1, d2, d3] }
  | _ => none }
def tailEndsRow : OpenClaim := { program := "ytialecghpekcnaa", sum := "3fbaff1fe21f780055d5739a702aab835828e747a11af6287de9c6cbd1dcd876", func := "cuecard/cuecardlaw09.TailEnds", spec := "tailEnds", apart := false }
def TailEndsSaid : Prop := tailEndsRow.holds Try.pinned (OpenSpec.ofChange tailEndsSpec)

/-- ITS FALSE NEIGHBOUR: 'it returns false'. Refute it at one input. -/
def tailEndsWrong : ChangeSpec := { name := "tailEnds", fn := fun _ => fun
  | [d1, d2, d3] => { results := [.lit (.bool false)], args := [d1, d2, d3] }
  | _ => none }
def TailEndsWrongFalsely : Prop := tailEndsRow.holds Try.pinned (OpenSpec.ofChange tailEndsWrong)

/-- 'cuecardlaw09.TailShort': WHATEVER THE INPUT: true; the input reads as it did. -/
def tailShortSpec : ChangeSpec := { name := "tailShort", fn := fun _ => fun
  | [d] => { results := [.lit (.bool true)], args := [d] }
  | _ => none }
def tailShortRow : OpenClaim := { program := "ytialecghpekcnaa", sum := "3fbaff1fe21f780055d5739a702aab835828e747a11af6287de9c6cbd1dcd876", func := "cuecard/cuecardlaw09.TailShort", spec := "tailShort", apart := false }
def TailShortSaid : Prop := tailShortRow.holds Try.pinned (OpenSpec.ofChange tailShortSpec)

/-- ITS FALSE NEIGHBOUR: 'it returns false'. Refute it at one input. -/
def tailShortWrong : ChangeSpec := { name := "tailShort", fn := fun _ => fun
  | [d] => { results := [.lit (.bool false)], args := [d] }
  | _ => none }
def TailShortWrongFalsely : Prop := tailShortRow.holds Try.pinned (OpenSpec.ofChange tailShortWrong)

/-- 'cuecardlaw09.TailWhole': WHATEVER THE INPUT: true; the input reads as it did. -/
def tailWholeSpec : ChangeSpec := { name := "tailWhole", fn := fun _ => fun
  | [d1, d2] => { results := [.lit (.bool true)], args := [d1, d2] }
  | _ => none }
def tailWholeRow : OpenClaim := { program := "ytialecghpekcnaa", sum := "3fbaff1fe21f780055d5739a702aab835828e747a11af6287de9c6cbd1dcd876", func := "cuecard/cuecardlaw09.TailWhole", spec := "tailWhole", apart := false }
def TailWholeSaid : Prop := tailWholeRow.holds Try.pinned (OpenSpec.ofChange tailWholeSpec)

/-- ITS FALSE NEIGHBOUR: 'it returns false'. Refute it at one input. -/
def tailWholeWrong : ChangeSpec := { name := "tailWhole", fn := fun _ => fun
  | [d1, d2] => { results := [.lit (.bool false)], args := [d1, d2] }
  | _ => none }
def TailWholeWrongFalsely : Prop := tailWholeRow.holds Try.pinned (OpenSpec.ofChange tailWholeWrong)

/-- 'cuecardlaw09.TailJoins': WHATEVER THE INPUT: true; the input reads as it did. -/
def tailJoinsSpec : ChangeSpec := { name := "tailJoins", fn := fun _ => fun
  | [d1, d2, d3] => { results := [.lit (.bool true)], args := [d1, d2, d3] }
  | _ => none }
def tailJoinsRow : OpenClaim := { program := "ytialecghpekcnaa", sum := "3fbaff1fe21f780055d5739a702aab835828e747a11af6287de9c6cbd1dcd876", func := "cuecard/cuecardlaw09.TailJoins", spec := "tailJoins", unfollowed := true, recurses := true, apart := false }
def TailJoinsSaid : Prop := tailJoinsRow.holds Try.pinned (OpenSpec.ofChange tailJoinsSpec)

/-- ITS FALSE NEIGHBOUR: 'it returns false'. Refute it at one input. -/
def tailJoinsWrong : ChangeSpec := { name := "tailJoins", fn := fun _ => fun
  | [d1, d2, d3] => { results := [.lit (.bool false)], args := [d1, d2, d3] }
  | _ => none }
def TailJoinsWrongFalsely : Prop := tailJoinsRow.holds Try.pinned (OpenSpec.ofChange tailJoinsWrong)

/- THE SECOND FORM. 'bulk': how many values and letters a reading holds, each counted each time it is reached (what is shared counts as often as it is met; a slice's spare places count too). A statement '..UptoSaid' is the law's where the arguments, and the package variables that the reading takes, are together of bulk at most 1048576: NARROWER than '..Said'. Prove '..Said' where nothing that the law and all that it calls make is longer than what came in: it says more and counts as full. Else prove '..UptoSaid'. A law counts once. -/
mutual
def uptoBulk {H : Type} : DataW H → Nat
  | .lit (.string bytes) => bytes.length + 1
  | .lit _ => 1
  | .nil => 1
  | .ptr d => uptoBulk d + 1
  | .slice elems spare => uptoBulkAll elems + uptoBulkAll spare + 1
  | .agg parts => uptoBulkAll parts + 1
  | .iface _ d => uptoBulk d + 1
  | .map entries => uptoBulkEntries entries + 1
  | .held _ => 1
def uptoBulkAll {H : Type} : List (DataW H) → Nat
  | [] => 0
  | d :: r => uptoBulk d + uptoBulkAll r
def uptoBulkEntries {H : Type} : List (Lit × DataW H) → Nat
  | [] => 0
  | x :: r => uptoBulkEntry x + uptoBulkEntries r
def uptoBulkEntry {H : Type} : Lit × DataW H → Nat
  | (.string bytes, d) => bytes.length + uptoBulk d + 1
  | (_, d) => uptoBulk d + 1
 end
def uptoSmall : (H : Type) → List (DataW H) → Bool := fun _ ds => decide (uptoBulkAll ds ≤ 1048576)
def OpenSpec.upto (s : _root_.Go.ChangeSpec) : _root_.Go.OpenSpec := { _root_.Go.OpenSpec.ofChange s with cond := some uptoSmall }

/-- 'cuecardlaw09.TailPieces', WHERE WHAT IT READS IS OF BULK AT MOST 1048576: true; the input reads as it did. -/
def tailPiecesUptoRow : OpenClaim := { program := "ytialecghpekcnaa", sum := "3fbaff1fe21f780055d5739a702aab835828e747a11af6287de9c6cbd1dcd876", func := "cuecard/cuecardlaw09.TailPieces", spec := "tailPieces", apart := false, narrowed := true }
def TailPiecesUptoSaid : Prop := tailPiecesUptoRow.holds Try.pinned (OpenSpec.upto tailPiecesSpec)

/-- 'cuecardlaw09.TailFactors', WHERE WHAT IT READS IS OF BULK AT MOST 1048576: true; the input reads as it did. -/
def tailFactorsUptoRow : OpenClaim := { program := "ytialecghpekcnaa", sum := "3fbaff1fe21f780055d5739a702aab835828e747a11af6287de9c6cbd1dcd876", func := "cuecard/cuecardlaw09.TailFactors", spec := "tailFactors", unfollowed := true, recurses := true, apart := false, narrowed := true }
def TailFactorsUptoSaid : Prop := tailFactorsUptoRow.holds Try.pinned (OpenSpec.upto tailFactorsSpec)

/-- 'cuecardlaw09.TailEnds', WHERE WHAT IT READS IS OF BULK AT MOST 1048576: true; the input reads as it did. -/
def tailEndsUptoRow : OpenClaim := { program := "ytialecghpekcnaa", sum := "3fbaff1fe21f780055d5739a702aab835828e747a11af6287de9c6cbd1dcd876", func := "cuecard/cuecardlaw09.TailEnds", spec := "tailEnds", apart := false, narrowed := true }
def TailEndsUptoSaid : Prop := tailEndsUptoRow.holds Try.pinned (OpenSpec.upto tailEndsSpec)

/-- 'cuecardlaw09.TailShort', WHERE WHAT IT READS IS OF BULK AT MOST 1048576: true; the input reads as it did. -/
def tailShortUptoRow : OpenClaim := { program := "ytialecghpekcnaa", sum := "3fbaff1fe21f780055d5739a702aab835828e747a11af6287de9c6cbd1dcd876", func := "cuecard/cuecardlaw09.TailShort", spec := "tailShort", apart := false, narrowed := true }
def TailShortUptoSaid : Prop := tailShortUptoRow.holds Try.pinned (OpenSpec.upto tailShortSpec)

/-- 'cuecardlaw09.TailWhole', WHERE WHAT IT READS IS OF BULK AT MOST 1048576: true; the input reads as it did. -/
def tailWholeUptoRow : OpenClaim := { program := "ytialecghpekcnaa", sum := "3fbaff1fe21f780055d5739a702aab835828e747a11af6287de9c6cbd1dcd876", func := "cuecard/cuecardlaw09.TailWhole", spec := "tailWhole", apart := false, narrowed := true }
def TailWholeUptoSaid : Prop := tailWholeUptoRow.holds Try.pinned (OpenSpec.upto tailWholeSpec)

/-- 'cuecardlaw09.TailJoins', WHERE WHAT IT READS IS OF BULK AT MOST 1048576: true; the input reads as it did. -/
def tailJoinsUptoRow : OpenClaim := { program := "ytialecghpekcnaa", sum := "3fbaff1fe21f780055d5739a702aab835828e747a11af6287de9c6cbd1dcd876", func := "cuecard/cuecardlaw09.TailJoins", spec := "tailJoins", unfollowed := true, recurses := true, apart := false, narrowed := true }
def TailJoinsUptoSaid : Prop := tailJoinsUptoRow.holds Try.pinned (OpenSpec.upto tailJoinsSpec)

end Rows
end Go.Proofs.Ytialecghpekcnaa
