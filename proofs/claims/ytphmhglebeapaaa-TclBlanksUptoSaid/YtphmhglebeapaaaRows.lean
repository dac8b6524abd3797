/-
  No cell of these rows narrows 'for every input' (looked for: loops, veiled, ifaces, maps, wideKeys, modest, calm, conditions, laid).
  DERIVED. THE GIVEN ROWS OF THIS SEAT. 8 by the template 'for every input the law returns true; each argument reads behind the call as it read before'; 0 by the template 'total and deterministic' (their statements: YtphmhglebeapaaaTotals.lean).
  GIVEN WITH THE SEED: the statements are not yours to turn. If you find one false, say at which input.
  Laid BY PROGRAM, IN A SANDBOX (cutbox-rows.mjs): the forced cells as the released guide's own fill.sh prints them over the translation 5f4ed007007801b8… (all of the seat's roots in one cut). By AI agents, Wed Nov 11 2026. No macro, syntax, notation, axiom, sorry.
-/
import Derived.Test.YtphmhglebeapaaaChecked
import GoSem.Claim
import GoSem.ClaimJoined
import GoSem.ClaimMapViews
import Derived.JoinedTies
import Derived.KernelRfl
namespace Go.Proofs.Ytphmhglebeapaaa
/- THE CELL 'sum', in the pinned program and in every row, IS THE sha256 OF THE DUMP (.gsa) THAT YtphmhglebeapaaaProg.lean LOADS. Nothing in Lean hashes anything: it is a label: what it is worth is what the hold of that sum in a sandbox is worth. -/
noncomputable def Try.pinned : Pinned := { name := "ytphmhglebeapaaa", sum := "5f4ed007007801b8d39ea2e44d76e4fcd237584695f03f00761f5c5b77de30e1", checked := Try.checked }
namespace Rows
def none {H : Type} : Left H := { results := [], args := [] }

/-- 'cuecardlaw12.TclParses': WHATEVER THE INPUT: true; the input reads as it did. -/
def tclParsesSpec : ChangeSpec := { name := "tclParses", fn := fun _ => fun
  | [d] => { results := [.lit (.bool true)], args := [d] }
  | _ => none }
def tclParsesRow : OpenClaim := { program := "ytphmhglebeapaaa", sum := "5f4ed007007801b8d39ea2e44d76e4fcd237584695f03f00761f5c5b77de30e1", func := "cuecard/cuecardlaw12.TclParses", spec := "tclParses", inPlace := ["internal/bytealg.IndexByteString", "internal/bytealg.IndexString"], named := ["internal/bytealg.MaxLen"], apart := false }
def TclParsesSaid : Prop := tclParsesRow.holds Try.pinned (OpenSpec.ofChange tclParsesSpec)

/-- ITS FALSE NEIGHBOUR: 'it returns false'. Refute it at one input. -/
def tclParsesWrong : ChangeSpec := { name := "tclParses", fn := fun _ => fun
  | [d] => { results := [.lit (.bool false)], args := [d] }
  | _ => none }
def TclParsesWrongFalsely : Prop := tclParsesRow.holds Try.pinned (OpenSpec.ofChange tclParsesWrong)

/-- 'cuecardlaw12.TclPrints': WHATEVER THE INPUT: true; the input reads as it did. -/
def tclPrintsSpec : ChangeSpec := { name := "tclPrints", fn := fun _ => fun
  | [d1, d2] => { results := [.lit (.bool true)], args := [d1, d2] }
  | _ => none }
def tclPrintsRow : OpenClaim := { program := "ytphmhglebeapaaa", sum := "5f4ed007007801b8d39ea2e44d76e4fcd237584695f03f00761f5c5b77de30e1", func := "cuecard/cuecardlaw12.TclPrints", spec := "tclPrints", inPlace := ["internal/bytealg.IndexByteString", "internal/bytealg.IndexString", "internal/abi.NoEscape"], unfollowed := true, recurses := true, named := ["internal/bytealg.MaxLen"], apart := false }
def TclPrintsSaid : Prop := tclPrintsRow.holds Try.pinned (OpenSpec.ofChange tclPrintsSpec)

/-- ITS FALSE NEIGHBOUR: 'it returns false'. Refute it at one input. -/
def tclPrintsWrong : ChangeSpec := { name := "tclPrints", fn := fun _ => fun
  | [d1, d2] => { results := [.lit (.bool false)], args := [d1, d2] }
  | _ => none }
def TclPrintsWrongFalsely : Prop := tclPrintsRow.holds Try.pinned (OpenSpec.ofChange tclPrintsWrong)

/-- 'cuecardlaw12.TclBack': WHATEVER THE INPUT: true; the input reads as it did. -/
def tclBackSpec : ChangeSpec := { name := "tclBack", fn := fun _ => fun
  | [d1, d2] => { results := [.lit (.bool true)], args := [d1, d2] }
  | _ => none }
def tclBackRow : OpenClaim := { program := "ytphmhglebeapaaa", sum := "5f4ed007007801b8d39ea2e44d76e4fcd237584695f03f00761f5c5b77de30e1", func := "cuecard/cuecardlaw12.TclBack", spec := "tclBack", inPlace := ["internal/bytealg.IndexByteString", "internal/bytealg.IndexString", "internal/abi.NoEscape"], unfollowed := true, recurses := true, named := ["internal/bytealg.MaxLen"], apart := false }
def TclBackSaid : Prop := tclBackRow.holds Try.pinned (OpenSpec.ofChange tclBackSpec)

/-- ITS FALSE NEIGHBOUR: 'it returns false'. Refute it at one input. -/
def tclBackWrong : ChangeSpec := { name := "tclBack", fn := fun _ => fun
  | [d1, d2] => { results := [.lit (.bool false)], args := [d1, d2] }
  | _ => none }
def TclBackWrongFalsely : Prop := tclBackRow.holds Try.pinned (OpenSpec.ofChange tclBackWrong)

/-- 'cuecardlaw12.TclJoins': WHATEVER THE INPUT: true; the input reads as it did. -/
def tclJoinsSpec : ChangeSpec := { name := "tclJoins", fn := fun _ => fun
  | [d1, d2] => { results := [.lit (.bool true)], args := [d1, d2] }
  | _ => none }
def tclJoinsRow : OpenClaim := { program := "ytphmhglebeapaaa", sum := "5f4ed007007801b8d39ea2e44d76e4fcd237584695f03f00761f5c5b77de30e1", func := "cuecard/cuecardlaw12.TclJoins", spec := "tclJoins", inPlace := ["internal/bytealg.IndexByteString", "internal/bytealg.IndexString"], named := ["internal/bytealg.MaxLen"], apart := false }
def TclJoinsSaid : Prop := tclJoinsRow.holds Try.pinned (OpenSpec.ofChange tclJoinsSpec)

/-- ITS FALSE NEIGHBOUR: 'it returns false'. Refute it at one input. -/
def tclJoinsWrong : ChangeSpec := { name := "tclJoins", fn := fun _ => fun
  | [d1, d2] => { results := [.lit (.bool false)], args := [d1, d2] }
  | _ => none }
def TclJoinsWrongFalsely : Prop := tclJoinsRow.holds Try.pinned (OpenSpec.ofChange tclJoinsWrong)

/-- 'cuecardlaw12.TclDeep': WHATEVER THE INPUT: true; the input reads as it did. -/
def tclDeepSpec : ChangeSpec := { name := "tclDeep", fn := fun _ => fun
  | [d1, d2] => { results := [.lit (.bool true)], args := [d1, d2] }
  | _ => none }
def tclDeepRow : OpenClaim := { program := "ytphmhglebeapaaa", sum := "5f4ed007007801b8d39ea2e44d76e4fcd237584695f03f00761f5c5b77de30e1", func := "cuecard/cuecardlaw12.TclDeep", spec := "tclDeep", inPlace := ["internal/bytealg.IndexByteString", "internal/bytealg.IndexString"], named := ["internal/bytealg.MaxLen"], apart := false }
def TclDeepSaid : Prop := tclDeepRow.holds Try.pinned (OpenSpec.ofChange tclDeepSpec)

/-- ITS FALSE NEIGHBOUR: 'it returns false'. Refute it at one input. -/
def tclDeepWrong : ChangeSpec := { name := "tclDeep", fn := fun _ => fun
  | [d1, d2] => { results := [.lit (.bool false)], args := [d1, d2] }
  | _ => none }
def TclDeepWrongFalsely : Prop := tclDeepRow.holds Try.pinned (OpenSpec.ofChange tclDeepWrong)

/-- 'cuecardlaw12.TclBytes': WHATEVER THE INPUT: true; the input reads as it did. -/
def tclBytesSpec : ChangeSpec := { name := "tclBytes", fn := fun _ => fun
  | [d1, d2] => { results := [.lit (.bool true)], args := [d1, d2] }
  | _ => none }
def tclBytesRow : OpenClaim := { program := "ytphmhglebeapaaa", sum := "5f4ed007007801b8d39ea2e44d76e4fcd237584695f03f00761f5c5b77de30e1", func := "cuecard/cuecardlaw12.TclBytes", spec := "tclBytes", inPlace := ["internal/bytealg.IndexByteString", "internal/bytealg.IndexString", "internal/abi.NoEscape"], unfollowed := true, recurses := true, named := ["internal/bytealg.MaxLen"], apart := false }
def TclBytesSaid : Prop := tclBytesRow.holds Try.pinned (OpenSpec.ofChange tclBytesSpec)

/-- ITS FALSE NEIGHBOUR: 'it returns false'. Refute it at one input. -/
def tclBytesWrong : ChangeSpec := { name := "tclBytes", fn := fun _ => fun
  | [d1, d2] => { results := [.lit (.bool false)], args := [d1, d2] }
  | _ => none }
def TclBytesWrongFalsely : Prop := tclBytesRow.holds Try.pinned (OpenSpec.ofChange tclBytesWrong)

/-- 'cuecardlaw12.TclBlanks': WHATEVER THE INPUT: true; the input reads as it did. -/
def tclBlanksSpec : ChangeSpec := { name := "tclBlanks", fn := fun _ => fun
  | [d1, d2] => { results := [.lit (.bool true)], args := [d1, d2] }
  | _ => none }
def tclBlanksRow : OpenClaim := { program := "ytphmhglebeapaaa", sum := "5f4ed007007801b8d39ea2e44d76e4fcd237584695f03f00761f5c5b77de30e1", func := "cuecard/cuecardlaw12.TclBlanks", spec := "tclBlanks", inPlace := ["internal/bytealg.IndexByteString", "internal/bytealg.IndexString", "internal/abi.NoEscape"], unfollowed := true, recurses := true, named := ["internal/bytealg.MaxLen"], apart := false }
def TclBlanksSaid : Prop := tclBlanksRow.holds Try.pinned (OpenSpec.ofChange tclBlanksSpec)

/-- ITS FALSE NEIGHBOUR: 'it returns false'. Refute it at one input. -/
def tclBlanksWrong : ChangeSpec := { name := "tclBlanks", fn := fun _ => fun
  | [d1, d2] => { results := [.lit (.bool false)], args := [d1, d2] }
  | _ => none }
def TclBlanksWrongFalsely : Prop := tclBlanksRow.holds Try.pinned (OpenSpec.ofChange tclBlanksWrong)

/-- 'cuecardlaw12.TclNames': WHATEVER THE INPUT: true; the input reads as it did. -/
def tclNamesSpec : ChangeSpec := { name := "tclNames", fn := fun _ => fun
  | [d1, d2, d3] => { results := [.lit (.bool true)], args := [d1, d2, d3] }
  | _ => none }
def tclNamesRow : OpenClaim := { program := "ytphmhglebeapaaa", sum := "5f4ed007007801b8d39ea2e44d76e4fcd237584695f03f00761f5c5b77de30e1", func := "cuecard/cuecardlaw12.TclNames", spec := "tclNames", inPlace := ["internal/bytealg.IndexByteString", "internal/bytealg.IndexString"], named := ["internal/bytealg.MaxLen"], apart := false }
def TclNamesSaid : Prop := tclNamesRow.holds Try.pinned (OpenSpec.ofChange tclNamesSpec)

/-- ITS FALSE NEIGHBOUR: 'it returns false'. Refute it at one input. -/
def tclNamesWrong : ChangeSpec := { name := "tclNames", fn := fun _ => fun
  | [d1, d2, d3] => { results := [.lit (.bool false)], args := [d1, d2, d3] }
  | _ => none }
def TclNamesWrongFalsely : Prop := tclNamesRow.holds Try.pinned (OpenSpec.ofChange tclNamesWrong)

/- THE SECOND FORM. 'bulk': how many values and letters a reading holds, each counted each time it is reached (what is shared counts as often as it is met; a slice's spare places count too). A statement '..UptoSaid' is the law's where the arguments, and the package variables that the reading takes, are together of bulk at most 1048576: NARROWER than '..Said'. Prove '..Said' where nothing that the law and all that it calls make is longer than what came in: it says more and counts as full. Else prove '..UptoSaid'. A law counts once. -/
mutual
def uptoBulk {H : Type} : DataW H → Nat
  | .lit (.string bytes) => bytes.length + 1
  | .lit _ => 1
  | .nil => 1
  | .ptr d => uptoBulk d + 1
  | .slice elems spare => uptoBulkAll elems + uptoBulkAll spare + 1
  | .agg parts => uptoBulkAll parts + 1
  | .iface _ d => uptoBulk d + 1
  | .map entries => uptoBulkEntries entries + 1
  | .held _ => 1
def uptoBulkAll {H : Type} : List (DataW H) → Nat
  | [] => 0
  | d :: r => uptoBulk d + uptoBulkAll r
def uptoBulkEntries {H : Type} : List (Lit × DataW H) → Nat
  | [] => 0
  | x :: r => uptoBulkEntry x + uptoBulkEntries r
def uptoBulkEntry {H : Type} : Lit × DataW H → Nat
  | (.string bytes, d) => bytes.length + uptoBulk d + 1
  | (_, d) => uptoBulk d + 1
 end
def uptoSmall : (H : Type) → List (DataW H) → Bool := fun _ ds => decide (uptoBulkAll ds ≤ 1048576)
def OpenSpec.upto (s : _root_.Go.ChangeSpec) : _root_.Go.OpenSpec := { _root_.Go.OpenSpec.ofChange s with cond := some uptoSmall }

/-- 'cuecardlaw12.TclParses', WHERE WHAT IT READS IS OF BULK AT MOST 1048576: true; the input reads as it did. -/
def tclParsesUptoRow : OpenClaim := { program := "ytphmhglebeapaaa", sum := "5f4ed007007801b8d39ea2e44d76e4fcd237584695f03f00761f5c5b77de30e1", func := "cuecard/cuecardlaw12.TclParses", spec := "tclParses", inPlace := ["internal/bytealg.IndexByteString", "internal/bytealg.IndexString"], named := ["internal/bytealg.MaxLen"], apart := false, narrowed := true }
def TclParsesUptoSaid : Prop := tclParsesUptoRow.holds Try.pinned (OpenSpec.upto tclParsesSpec)

/-- 'cuecardlaw12.TclPrints', WHERE WHAT IT READS IS OF BULK AT MOST 1048576: true; the input reads as it did. -/
def tclPrintsUptoRow : OpenClaim := { program := "ytphmhglebeapaaa", sum := "5f4ed007007801b8d39ea2e44d76e4fcd237584695f03f00761f5c5b77de30e1", func := "cuecard/cuecardlaw12.TclPrints", spec := "tclPrints", inPlace := ["internal/bytealg.IndexByteString", "internal/bytealg.IndexString", "internal/abi.NoEscape"], unfollowed := true, recurses := true, named := ["internal/bytealg.MaxLen"], apart := false, narrowed := true }
def TclPrintsUptoSaid : Prop := tclPrintsUptoRow.holds Try.pinned (OpenSpec.upto tclPrintsSpec)

/-- 'cuecardlaw12.TclBack', WHERE WHAT IT READS IS OF BULK AT MOST 1048576: true; the input reads as it did. -/
def tclBackUptoRow : OpenClaim := { program := "ytphmhglebeapaaa", sum := "5f4ed007007801b8d39ea2e44d76e4fcd237584695f03f00761f5c5b77de30e1", func := "cuecard/cuecardlaw12.TclBack", spec := "tclBack", inPlace := ["internal/bytealg.IndexByteString", "internal/bytealg.IndexString", "internal/abi.NoEscape"], unfollowed := true, recurses := true, named := ["internal/bytealg.MaxLen"], apart := false, narrowed := true }
def TclBackUptoSaid : Prop := tclBackUptoRow.holds Try.pinned (OpenSpec.upto tclBackSpec)

/-- 'cuecardlaw12.TclJoins', WHERE WHAT IT READS IS OF BULK AT MOST 1048576: true; the input reads as it did. -/
def tclJoinsUptoRow : OpenClaim := { program := "ytphmhglebeapaaa", sum := "5f4ed007007801b8d39ea2e44d76e4fcd237584695f03f00761f5c5b77de30e1", func := "cuecard/cuecardlaw12.TclJoins", spec := "tclJoins", inPlace := ["internal/bytealg.IndexByteString", "internal/bytealg.IndexString"], named := ["internal/bytealg.MaxLen"], apart := false, narrowed := true }
def TclJoinsUptoSaid : Prop := tclJoinsUptoRow.holds Try.pinned (OpenSpec.upto tclJoinsSpec)

/-- 'cuecardlaw12.TclDeep', WHERE WHAT IT READS IS OF BULK AT MOST 1048576: true; the input reads as it did. -/
def tclDeepUptoRow : OpenClaim := { program := "ytphmhglebeapaaa", sum := "5f4ed007007801b8d39ea2e44d76e4fcd237584695f03f00761f5c5b77de30e1", func := "cuecard/cuecardlaw12.TclDeep", spec := "tclDeep", inPlace := ["internal/bytealg.IndexByteString", "internal/bytealg.IndexString"], named := ["internal/bytealg.MaxLen"], apart := false, narrowed := true }
def TclDeepUptoSaid : Prop := tclDeepUptoRow.holds Try.pinned (OpenSpec.upto tclDeepSpec)

/-- 'cuecardlaw12.TclBytes', WHERE WHAT IT READS IS OF BULK AT MOST 1048576: true; the input reads as it did. -/
def tclBytesUptoRow : OpenClaim := { program := "ytphmhglebeapaaa", sum := "5f4ed007007801b8d39ea2e44d76e4fcd237584695f03f00761f5c5b77de30e1", func := "cuecard/cuecardlaw12.TclBytes", spec := "tclBytes", inPlace := ["internal/bytealg.IndexByteString", "internal/bytealg.IndexString", "internal/abi.NoEscape"], unfollowed := true, recurses := true, named := ["internal/bytealg.MaxLen"], apart := false, narrowed := true }
def TclBytesUptoSaid : Prop := tclBytesUptoRow.holds Try.pinned (OpenSpec.upto tclBytesSpec)

/-- 'cuecardlaw12.TclBlanks', WHERE WHAT IT READS IS OF BULK AT MOST 1048576: true; the input reads as it did. -/
def tclBlanksUptoRow : OpenClaim := { program := "ytphmhglebeapaaa", sum := "5f4ed007007801b8d39ea2e44d76e4fcd237584695f03f00761f5c5b77de30e1", func := "cuecard/cuecardlaw12.TclBlanks", spec := "tclBlanks", inPlace := ["internal/bytealg.IndexByteString", "internal/bytealg.IndexString", "internal/abi.NoEscape"], unfollowed := true, recurses := true, named := ["internal/bytealg.MaxLen"], apart := false, narrowed := true }
def TclBlanksUptoSaid : Prop := tclBlanksUptoRow.holds Try.pinned (OpenSpec.upto tclBlanksSpec)

/-- 'cuecardlaw12.TclNames', WHERE WHAT IT READS IS OF BULK AT MOST 1048576: true; the input reads as it did. -/
def tclNamesUptoRow : OpenClaim := { program := "ytphmhglebeapaaa", sum := "5f4ed007007801b8d39ea2e44d76e4fcd237584695f03f00761f5c5b77de30e1", func := "cuecard/cuecardlaw12.TclNames", spec := "tclNames", inPlace := ["internal/bytealg.IndexByteString", "internal/bytealg.IndexString"], named := ["internal/bytealg.MaxLen"], apart := false, narrowed := true }
def TclNamesUptoSaid : Prop := tclNamesUptoRow.holds Try.pinned (OpenSpec.upto tclNamesSpec)

end Rows
end Go.Proofs.Ytphmhglebeapaaa
