/-
  No cell of these rows narrows 'for every input' (looked for: loops, veiled, ifaces, maps, wideKeys, modest, calm, conditions, laid).
  DERIVED. THE GIVEN ROWS OF THIS SEAT. 6 by the template 'for every input the law returns true; each argument reads behind the call as it read before'; 0 by the template 'total and deterministic' (their statements: YtkfpameaopjjnaaTotals.lean).
  GIVEN WITH THE SEED: the statements are not yours to turn. If you find one false, say at which input.
  Laid BY PROGRAM, IN A SANDBOX (cutbox-rows.mjs): the forced cells as the released guide's own fill.sh prints them over the translation 2e432d191099337c… (all of the seat's roots in one cut). By AI agents, Wed Nov 11 2026. No macro, syntax, notation, axiom, sorry.
-/
import Derived.Test.YtkfpameaopjjnaaChecked
import GoSem.Claim
import GoSem.ClaimJoined
import GoSem.ClaimMapViews
import Derived.JoinedTies
import Derived.KernelRfl
namespace Go.Proofs.Ytkfpameaopjjnaa
/- THE CELL 'sum', in the pinned program and in every row, IS THE sha256 OF THE DUMP (.gsa) THAT YtkfpameaopjjnaaProg.lean LOADS. Nothing in Lean hashes anything: it is a label: what it is worth is what the hold of that sum in a sandbox is worth. -/
noncomputable def Try.pinned : Pinned := { name := "ytkfpameaopjjnaa", sum := "2e432d191099337cd3629fe95f1139f392ef8abc27c5537fddd8729e985f3ad0", checked := Try.checked }
namespace Rows
def none {H : Type} : Left H := { results := [], args := [] }

/-- 'cuecardlaw14.WindowActs': WHATEVER THE INPUT: true; the input reads as it did. -/
def windowActsSpec : ChangeSpec := { name := "windowActs", fn := fun _ => fun
  | [d1, d2] => { results := [.lit (.bool true)], args := [d1, d2] }
  | _ => none }
def windowActsRow : OpenClaim := { program := "ytkfpameaopjjnaa", sum := "2e432d191099337cd3629fe95f1139f392ef8abc27c5537fddd8729e985f3ad0", func := "cuecard/cuecardlaw14.WindowActs", spec := "windowActs", apart := false }
def WindowActsSaid : Prop := windowActsRow.holds Try.pinned (OpenSpec.ofChange windowActsSpec)

/-- ITS FALSE NEIGHBOUR: 'it returns false'. Refute it at one input. -/
def windowActsWrong : ChangeSpec := { name := "windowActs", fn := fun _ => fun
  | [d1, d2] => { results := [.lit (.bool false)], args := [d1, d2] }
  | _ => none }
def WindowActsWrongFalsely : Prop := windowActsRow.holds Try.pinned (OpenSpec.ofChange windowActsWrong)

/-- 'cuecardlaw14.WindowNews': WHATEVER THE INPUT: true; the input reads as it did. -/
def windowNewsSpec : ChangeSpec := { name := "windowNews", fn := fun _ => fun
  | [d] => { results := [.lit (.bool true)], args := [d] }
  | _ => none }
def windowNewsRow : OpenClaim := { program := "ytkfpameaopjjnaa", sum := "2e432d191099337cd3629fe95f1139f392ef8abc27c5537fddd8729e985f3ad0", func := "cuecard/cuecardlaw14.WindowNews", spec := "windowNews", apart := false }
def WindowNewsSaid : Prop := windowNewsRow.holds Try.pinned (OpenSpec.ofChange windowNewsSpec)

/-- ITS FALSE NEIGHBOUR: 'it returns false'. Refute it at one input. -/
def windowNewsWrong : ChangeSpec := { name := "windowNews", fn := fun _ => fun
  | [d] => { results := [.lit (.bool false)], args := [d] }
  | _ => none }
def WindowNewsWrongFalsely : Prop := windowNewsRow.holds Try.pinned (OpenSpec.ofChange windowNewsWrong)

/-- 'cuecardlaw14.WindowPieces': WHATEVER THE INPUT: true; the input reads as it did. -/
def windowPiecesSpec : ChangeSpec := { name := "windowPieces", fn := fun _ => fun
  | [d1, d2, d3] => { results := [.lit (.bool true)], args := [d1, d2, d3] }
  | _ => none }
def windowPiecesRow : OpenClaim := { program := "ytkfpameaopjjnaa", sum := "2e432d191099337cd3629fe95f1139f392ef8abc27c5537fddd8729e985f3ad0", func := "cuecard/cuecardlaw14.WindowPieces", spec := "windowPieces", apart := false }
def WindowPiecesSaid : Prop := windowPiecesRow.holds Try.pinned (OpenSpec.ofChange windowPiecesSpec)

/-- ITS FALSE NEIGHBOUR: 'it returns false'. Refute it at one input. -/
def windowPiecesWrong : ChangeSpec := { name := "windowPieces", fn := fun _ => fun
  | [d1, d2, d3] => { results := [.lit (.bool false)], args := [d1, d2, d3] }
  | _ => none }
def WindowPiecesWrongFalsely : Prop := windowPiecesRow.holds Try.pinned (OpenSpec.ofChange windowPiecesWrong)

/-- 'cuecardlaw14.WindowCuts': WHATEVER THE INPUT: true; the input reads as it did. -/
def windowCutsSpec : ChangeSpec := { name := "windowCuts", fn := fun _ => fun
  | [d1, d2, d3] => { results := [.lit (.bool true)], args := [d1, d2, d3] }
  | _ => none }
def windowCutsRow : OpenClaim := { program := "ytkfpameaopjjnaa", sum := "2e432d191099337cd3629fe95f1139f392ef8abc27c5537fddd8729e985f3ad0", func := "cuecard/cuecardlaw14.WindowCuts", spec := "windowCuts", apart := false }
def WindowCutsSaid : Prop := windowCutsRow.holds Try.pinned (OpenSpec.ofChange windowCutsSpec)

/-- ITS FALSE NEIGHBOUR: 'it returns false'. Refute it at one input. -/
def windowCutsWrong : ChangeSpec := { name := "windowCuts", fn := fun _ => fun
  | [d1, d2, d3] => { results := [.lit (.bool false)], args := [d1, d2, d3] }
  | _ => none }
def WindowCutsWrongFalsely : Prop := windowCutsRow.holds Try.pinned (OpenSpec.ofChange windowCutsWrong)

/-- 'cuecardlaw14.WindowOwn': WHATEVER THE INPUT: true; the input reads as it did. -/
def windowOwnSpec : ChangeSpec := { name := "windowOwn", fn := fun _ => fun
  | [d1, d2] => { results := [.lit (.bool true)], args := [d1, d2] }
  | _ => none }
def windowOwnRow : OpenClaim := { program := "ytkfpameaopjjnaa", sum := "2e432d191099337cd3629fe95f1139f392ef8abc27c5537fddd8729e985f3ad0", func := "cuecard/cuecardlaw14.WindowOwn", spec := "windowOwn", apart := false }
def WindowOwnSaid : Prop := windowOwnRow.holds Try.pinned (OpenSpec.ofChange windowOwnSpec)

/-- ITS FALSE NEIGHBOUR: 'it returns false'. Refute it at one input. -/
def windowOwnWrong : ChangeSpec := { name := "windowOwn", fn := fun _ => fun
  | [d1, d2] => { results := [.lit (.bool false)], args := [d1, d2] }
  | _ => none }
def WindowOwnWrongFalsely : Prop := windowOwnRow.holds Try.pinned (OpenSpec.ofChange windowOwnWrong)

/-- 'cuecardlaw14.WindowLast': WHATEVER THE INPUT: true; the input reads as it did. -/
def windowLastSpec : ChangeSpec := { name := "windowLast", fn := fun _ => fun
  | [d1, d2, d3] => { results := [.lit (.bool true)], args := [d1, d2, d3] }
  | _ => none }
def windowLastRow : OpenClaim := { program := "ytkfpameaopjjnaa", sum := "2e432d191099337cd3629fe95f1139f392ef8abc27c5537fddd8729e985f3ad0", func := "cuecard/cuecardlaw14.WindowLast", spec := "windowLast", apart := false }
def WindowLastSaid : Prop := windowLastRow.holds Try.pinned (OpenSpec.ofChange windowLastSpec)

/-- ITS FALSE NEIGHBOUR: 'it returns false'. Refute it at one input. -/
def windowLastWrong : ChangeSpec := { name := "windowLast", fn := fun _ => fun
  | [d1, d2, d3] => { results := [.lit (.bool false)], args := [d1, d2, d3] }
  | _ => none }
def WindowLastWrongFalsely : Prop := windowLastRow.holds Try.pinned (OpenSpec.ofChange windowLastWrong)

/- THE SECOND FORM. 'bulk': how many values and letters a reading holds, each counted each time it is reached (what is shared counts as often as it is met; a slice's spare places count too). A statement '..UptoSaid' is the law's where the arguments, and the package variables that the reading takes, are together of bulk at most 1048576: NARROWER than '..Said'. Prove '..Said' where nothing that the law and all that it calls make is longer than what came in: it says more and counts as full. Else prove '..UptoSaid'. A law counts once. -/
mutual
def uptoBulk {H : Type} : DataW H → Nat
  | .lit (.string bytes) => bytes.length + 1
  | .lit _ => 1
  | .nil => 1
  | .ptr d => uptoBulk d + 1
  | .slice elems spare => uptoBulkAll elems + uptoBulkAll spare + 1
  | .agg parts => uptoBulkAll parts + 1
  | .iface _ d => uptoBulk d + 1
  | .map entries => uptoBulkEntries entries + 1
  | .held _ => 1
def uptoBulkAll {H : Type} : List (DataW H) → Nat
  | [] => 0
  | d :: r => uptoBulk d + uptoBulkAll r
def uptoBulkEntries {H : Type} : List (Lit × DataW H) → Nat
  | [] => 0
  | x :: r => uptoBulkEntry x + uptoBulkEntries r
def uptoBulkEntry {H : Type} : Lit × DataW H → Nat
  | (.string bytes, d) => bytes.length + uptoBulk d + 1
  | (_, d) => uptoBulk d + 1
 end
def uptoSmall : (H : Type) → List (DataW H) → Bool := fun _ ds => decide (uptoBulkAll ds ≤ 1048576)
def OpenSpec.upto (s : _root_.Go.ChangeSpec) : _root_.Go.OpenSpec := { _root_.Go.OpenSpec.ofChange s with cond := some uptoSmall }

/-- 'cuecardlaw14.WindowActs', WHERE WHAT IT READS IS OF BULK AT MOST 1048576: true; the input reads as it did. -/
def windowActsUptoRow : OpenClaim := { program := "ytkfpameaopjjnaa", sum := "2e432d191099337cd3629fe95f1139f392ef8abc27c5537fddd8729e985f3ad0", func := "cuecard/cuecardlaw14.WindowActs", spec := "windowActs", apart := false, narrowed := true }
def WindowActsUptoSaid : Prop := windowActsUptoRow.holds Try.pinned (OpenSpec.upto windowActsSpec)

/-- 'cuecardlaw14.WindowNews', WHERE WHAT IT READS IS OF BULK AT MOST 1048576: true; the input reads as it did. -/
def windowNewsUptoRow : OpenClaim := { program := "ytkfpameaopjjnaa", sum := "2e432d191099337cd3629fe95f1139f392ef8abc27c5537fddd8729e985f3ad0", func := "cuecard/cuecardlaw14.WindowNews", spec := "windowNews", apart := false, narrowed := true }
def WindowNewsUptoSaid : Prop := windowNewsUptoRow.holds Try.pinned (OpenSpec.upto windowNewsSpec)

/-- 'cuecardlaw14.WindowPieces', WHERE WHAT IT READS IS OF BULK AT MOST 1048576: true; the input reads as it did. -/
def windowPiecesUptoRow : OpenClaim := { program := "ytkfpameaopjjnaa", sum := "2e432d191099337cd3629fe95f1139f392ef8abc27c5537fddd8729e985f3ad0", func := "cuecard/cuecardlaw14.WindowPieces", spec := "windowPieces", apart := false, narrowed := true }
def WindowPiecesUptoSaid : Prop := windowPiecesUptoRow.holds Try.pinned (OpenSpec.upto windowPiecesSpec)

/-- 'cuecardlaw14.WindowCuts', WHERE WHAT IT READS IS OF BULK AT MOST 1048576: true; the input reads as it did. -/
def windowCutsUptoRow : OpenClaim := { program := "ytkfpameaopjjnaa", sum := "2e432d191099337cd3629fe95f1139f392ef8abc27c5537fddd8729e985f3ad0", func := "cuecard/cuecardlaw14.WindowCuts", spec := "windowCuts", apart := false, narrowed := true }
def WindowCutsUptoSaid : Prop := windowCutsUptoRow.holds Try.pinned (OpenSpec.upto windowCutsSpec)

/-- 'cuecardlaw14.WindowOwn', WHERE WHAT IT READS IS OF BULK AT MOST 1048576: true; the input reads as it did. -/
def windowOwnUptoRow : OpenClaim := { program := "ytkfpameaopjjnaa", sum := "2e432d191099337cd3629fe95f1139f392ef8abc27c5537fddd8729e985f3ad0", func := "cuecard/cuecardlaw14.WindowOwn", spec := "windowOwn", apart := false, narrowed := true }
def WindowOwnUptoSaid : Prop := windowOwnUptoRow.holds Try.pinned (OpenSpec.upto windowOwnSpec)

/-- 'cuecardlaw14.WindowLast', WHERE WHAT IT READS IS OF BULK AT MOST 1048576: true; the input reads as it did. -/
def windowLastUptoRow : OpenClaim := { program := "ytkfpameaopjjnaa", sum := "2e432d191099337cd3629fe95f1139f392ef8abc27c5537fddd8729e985f3ad0", func := "cuecard/cuecardlaw14.WindowLast", spec := "windowLast", apart := false, narrowed := true }
def WindowLastUptoSaid : Prop := windowLastUptoRow.holds Try.pinned (OpenSpec.upto windowLastSpec)

end Rows
end Go.Proofs.Ytkfpameaopjjnaa
