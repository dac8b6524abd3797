/-
  No cell of these rows narrows 'for every input' (looked for: loops, veiled, ifaces, maps, wideKeys, modest, calm, conditions, laid).
  DERIVED. THE GIVEN ROWS OF THIS SEAT. 6 by the template 'for every input the law returns true; each argument reads behind the call as it read before'; 0 by the template 'total and deterministic' (their statements: YtchfiiiippnigaaTotals.lean).
  GIVEN WITH THE SEED: the statements are not yours to turn. If you find one false, say at which input.
  Laid BY PROGRAM, IN A SANDBOX (cutbox-rows.mjs): the forced cells as the released guide's own fill.sh prints them over the translation 8d7296d0af9442a1… (all of the seat's roots in one cut). By AI agents, Wed Nov 11 2026. No macro, syntax, notation, axiom, sorry.
-/
import Derived.Test.YtchfiiiippnigaaChecked
import GoSem.Claim
import GoSem.ClaimJoined
import GoSem.ClaimMapViews
import Derived.JoinedTies
import Derived.KernelRfl
namespace Go.Proofs.Ytchfiiiippnigaa
/- THE CELL 'sum', in the pinned program and in every row, IS THE sha256 OF THE DUMP (.gsa) THAT YtchfiiiippnigaaProg.lean LOADS. Nothing in Lean hashes anything: it is a label: what it is worth is what the hold of that sum in a sandbox is worth. -/
noncomputable def Try.pinned : Pinned := { name := "ytchfiiiippnigaa", sum := "8d7296d0af9442a11be7a62d0f93db33e40a872e5fe3bb0a8795c5e09c2ec973", checked := Try.checked }
namespace Rows
def none {H : Type} : Left H := { results := [], args := [] }

/-- 'cuecardlaw10.TurnOfs': WHATEVER THE INPUT: true; the input reads as it did. -/
def turnOfsSpec : ChangeSpec := { name := "turnOfs", fn := fun _ => fun
  | [d] => { results := [.lit (.bool true)], args := [d] }
  | _ => none }
def turnOfsRow : OpenClaim := { program := "ytchfiiiippnigaa", sum := "8d7296d0af9442a11be7a62d0f93db33e40a872e5fe3bb0a8795c5e09c2ec973", func := "cuecard/cuecardlaw10.TurnOfs", spec := "turnOfs", unfollowed := true, recurses := true, apart := false }
def TurnOfsSaid : Prop := turnOfsRow.holds Try.pinned (OpenSpec.ofChange turnOfsSpec)

/-- ITS FALSE NEIGHBOUR: 'it returns false'. Refute it at one input. -/
def turnOfsWrong : ChangeSpec := { name := "turnOfs", fn := fun _ => fun
  | [d] => { results := [.lit (.bool false)], args := [d] }
  | _ => none }
def TurnOfsWrongFalsely : Prop := turnOfsRow.holds Try.pinned (OpenSpec.ofChange turnOfsWrong)

/-- 'cuecardlaw10.TurnEvents': WHATEVER THE INPUT: true; the input reads as it did. -/
def turnEventsSpec : ChangeSpec := { name := "turnEvents", fn := fun _ => fun
  | [d1, d2] => { results := [.lit (.bool true)], args := [d1, d2] }
  | _ => none }
def turnEventsRow : OpenClaim := { program := "ytchfiiiippnigaa", sum := "8d7296d0af9442a11be7a62d0f93db33e40a872e5fe3bb0a8795c5e09c2ec973", func := "cuecard/cuecardlaw10.TurnEvents", spec := "turnEvents", unfollowed := true, recurses := true, apart := false }
def TurnEventsSaid : Prop := turnEventsRow.holds Try.pinned (OpenSpec.ofChange turnEventsSpec)

/-- ITS FALSE NEIGHBOUR: 'it returns false'. Refute it at one input. -/
def turnEventsWrong : ChangeSpec := { name := "turnEvents", fn := fun _ => fun
  | [d1, d2] => { results := [.lit (.bool false)], args := [d1, d2] }
  | _ => none }
def TurnEventsWrongFalsely : Prop := turnEventsRow.holds Try.pinned (OpenSpec.ofChange turnEventsWrong)

/-- 'cuecardlaw10.TurnBack': WHATEVER THE INPUT: true; the input reads as it did. -/
def turnBackSpec : ChangeSpec := { name := "turnBack", fn := fun _ => fun
  | [d] => { results := [.lit (.bool true)], args := [d] }
  | _ => none }
def turnBackRow : OpenClaim := { program := "ytchfiiiippnigaa", sum := "8d7296d0af9442a11be7a62d0f93db33e40a872e5fe3bb0a8795c5e09c2ec973", func := "cuecard/cuecardlaw10.TurnBack", spec := "turnBack", unfollowed := true, recurses := true, apart := false }
def TurnBackSaid : Prop := turnBackRow.holds Try.pinned (OpenSpec.ofChange turnBackSpec)

/-- ITS FALSE NEIGHBOUR: 'it returns false'. Refute it at one input. -/
def turnBackWrong : ChangeSpec := { name := "turnBack", fn := fun _ => fun
  | [d] => { results := [.lit (.bool false)], args := [d] }
  | _ => none }
def TurnBackWrongFalsely : Prop := turnBackRow.holds Try.pinned (OpenSpec.ofChange turnBackWrong)

/-- 'cuecardlaw10.TurnCuts': WHATEVER THE INPUT: true; the input reads as it did. -/
def turnCutsSpec : ChangeSpec := { name := "turnCuts", fn := fun _ => fun
  | [d1, d2] => { results := [.lit (.bool true)], args := [d1, d2] }
  | _ => none }
def turnCutsRow : OpenClaim := { program := "ytchfiiiippnigaa", sum := "8d7296d0af9442a11be7a62d0f93db33e40a872e5fe3bb0a8795c5e09c2ec973", func := "cuecard/cuecardlaw10.TurnCuts", spec := "turnCuts", unfollowed := true, recurses := true, apart := false }
def TurnCutsSaid : Prop := turnCutsRow.holds Try.pinned (OpenSpec.ofChange turnCutsSpec)

/-- ITS FALSE NEIGHBOUR: 'it returns false'. Refute it at one input. -/
def turnCutsWrong : ChangeSpec := { name := "turnCuts", fn := fun _ => fun
  | [d1, d2] => { results := [.lit (.bool false)], args := [d1, d2] }
  | _ => none }
def TurnCutsWrongFalsely : Prop := turnCutsRow.holds Try.pinned (OpenSpec.ofChange turnCutsWrong)

/-- 'cuecardlaw10.TurnDue': WHATEVER THE INPUT: true; the input reads as it did. -/
def turnDueSpec : ChangeSpec := { name := "turnDue", fn := fun _ => fun
  | [d] => { results := [.lit (.bool true)], args := [d] }
  | _ => none }
def turnDueRow : OpenClaim := { program := "ytchfiiiippnigaa", sum := "8d7296d0af9442a11be7a62d0f93db33e40a872e5fe3bb0a8795c5e09c2ec973", func := "cuecard/cuecardlaw10.TurnDue", spec := "turnDue", unfollowed := true, recurses := true, apart := false }
def TurnDueSaid : Prop := turnDueRow.holds Try.pinned (OpenSpec.ofChange turnDueSpec)

/-- ITS FALSE NEIGHBOUR: 'it returns false'. Refute it at one input. -/
def turnDueWrong : ChangeSpec := { name := "turnDue", fn := fun _ => fun
  | [d] => { results := [.lit (.bool false)], args := [d] }
  | _ => none }
def TurnDueWrongFalsely : Prop := turnDueRow.holds Try.pinned (OpenSpec.ofChange turnDueWrong)

/-- 'cuecardlaw10.TurnEnds': WHATEVER THE INPUT: true; the input reads as it did. -/
def turnEndsSpec : ChangeSpec := { name := "turnEnds", fn := fun _ => fun
  | [d1, d2] => { results := [.lit (.bool true)], args := [d1, d2] }
  | _ => none }
def turnEndsRow : OpenClaim := { program := "ytchfiiiippnigaa", sum := "8d7296d0af9442a11be7a62d0f93db33e40a872e5fe3bb0a8795c5e09c2ec973", func := "cuecard/cuecardlaw10.TurnEnds", spec := "turnEnds", unfollowed := true, recurses := true, apart := false }
def TurnEndsSaid : Prop := turnEndsRow.holds Try.pinned (OpenSpec.ofChange turnEndsSpec)

/-- ITS FALSE NEIGHBOUR: 'it returns false'. Refute it at one input. -/
def turnEndsWrong : ChangeSpec := { name := "turnEnds", fn := fun _ => fun
  | [d1, d2] => { results := [.lit (.bool false)], args := [d1, d2] }
  | _ => none }
def TurnEndsWrongFalsely : Prop := turnEndsRow.holds Try.pinned (OpenSpec.ofChange turnEndsWrong)

/- THE SECOND FORM. 'bulk': how many values and letters a reading holds, each counted each time it is reached (what is shared counts as often as it is met; a slice's spare places count too). A statement '..UptoSaid' is the law's where the arguments, and the package variables that the reading takes, are together of bulk at most 1048576: NARROWER than '..Said'. Prove '..Said' where nothing that the law and all that it calls make is longer than what came in: it says more and counts as full. Else prove '..UptoSaid'. A law counts once. -/
mutual
def uptoBulk {H : Type} : DataW H → Nat
  | .lit (.string bytes) => bytes.length + 1
  | .lit _ => 1
  | .nil => 1
  | .ptr d => uptoBulk d + 1
  | .slice elems spare => uptoBulkAll elems + uptoBulkAll spare + 1
  | .agg parts => uptoBulkAll parts + 1
  | .iface _ d => uptoBulk d + 1
  | .map entries => uptoBulkEntries entries + 1
  | .held _ => 1
def uptoBulkAll {H : Type} : List (DataW H) → Nat
  | [] => 0
  | d :: r => uptoBulk d + uptoBulkAll r
def uptoBulkEntries {H : Type} : List (Lit × DataW H) → Nat
  | [] => 0
  | x :: r => uptoBulkEntry x + uptoBulkEntries r
def uptoBulkEntry {H : Type} : Lit × DataW H → Nat
  | (.string bytes, d) => bytes.length + uptoBulk d + 1
  | (_, d) => uptoBulk d + 1
 end
def uptoSmall : (H : Type) → List (DataW H) → Bool := fun _ ds => decide (uptoBulkAll ds ≤ 1048576)
def OpenSpec.upto (s : _root_.Go.ChangeSpec) : _root_.Go.OpenSpec := { _root_.Go.OpenSpec.ofChange s with cond := some uptoSmall }

/-- 'cuecardlaw10.TurnOfs', WHERE WHAT IT READS IS OF BULK AT MOST 1048576: true; the input reads as it did. -/
def turnOfsUptoRow : OpenClaim := { program := "ytchfiiiippnigaa", sum := "8d7296d0af9442a11be7a62d0f93db33e40a872e5fe3bb0a8795c5e09c2ec973", func := "cuecard/cuecardlaw10.TurnOfs", spec := "turnOfs", unfollowed := true, recurses := true, apart := false, narrowed := true }
def TurnOfsUptoSaid : Prop := turnOfsUptoRow.holds Try.pinned (OpenSpec.upto turnOfsSpec)

/-- 'cuecardlaw10.TurnEvents', WHERE WHAT IT READS IS OF BULK AT MOST 1048576: true; the input reads as it did. -/
def turnEventsUptoRow : OpenClaim := { program := "ytchfiiiippnigaa", sum := "8d7296d0af9442a11be7a62d0f93db33e40a872e5fe3bb0a8795c5e09c2ec973", func := "cuecard/cuecardlaw10.TurnEvents", spec := "turnEvents", unfollowed := true, recurses := true, apart := false, narrowed := true }
def TurnEventsUptoSaid : Prop := turnEventsUptoRow.holds Try.pinned (OpenSpec.upto turnEventsSpec)

/-- 'cuecardlaw10.TurnBack', WHERE WHAT IT READS IS OF BULK AT MOST 1048576: true; the input reads as it did. -/
def turnBackUptoRow : OpenClaim := { program := "ytchfiiiippnigaa", sum := "8d7296d0af9442a11be7a62d0f93db33e40a872e5fe3bb0a8795c5e09c2ec973", func := "cuecard/cuecardlaw10.TurnBack", spec := "turnBack", unfollowed := true, recurses := true, apart := false, narrowed := true }
def TurnBackUptoSaid : Prop := turnBackUptoRow.holds Try.pinned (OpenSpec.upto turnBackSpec)

/-- 'cuecardlaw10.TurnCuts', WHERE WHAT IT READS IS OF BULK AT MOST 1048576: true; the input reads as it did. -/
def turnCutsUptoRow : OpenClaim := { program := "ytchfiiiippnigaa", sum := "8d7296d0af9442a11be7a62d0f93db33e40a872e5fe3bb0a8795c5e09c2ec973", func := "cuecard/cuecardlaw10.TurnCuts", spec := "turnCuts", unfollowed := true, recurses := true, apart := false, narrowed := true }
def TurnCutsUptoSaid : Prop := turnCutsUptoRow.holds Try.pinned (OpenSpec.upto turnCutsSpec)

/-- 'cuecardlaw10.TurnDue', WHERE WHAT IT READS IS OF BULK AT MOST 1048576: true; the input reads as it did. -/
def turnDueUptoRow : OpenClaim := { program := "ytchfiiiippnigaa", sum := "8d7296d0af9442a11be7a62d0f93db33e40a872e5fe3bb0a8795c5e09c2ec973", func := "cuecard/cuecardlaw10.TurnDue", spec := "turnDue", unfollowed := true, recurses := true, apart := false, narrowed := true }
def TurnDueUptoSaid : Prop := turnDueUptoRow.holds Try.pinned (OpenSpec.upto turnDueSpec)

/-- 'cuecardlaw10.TurnEnds', WHERE WHAT IT READS IS OF BULK AT MOST 1048576: true; the input reads as it did. -/
def turnEndsUptoRow : OpenClaim := { program := "ytchfiiiippnigaa", sum := "8d7296d0af9442a11be7a62d0f93db33e40a872e5fe3bb0a8795c5e09c2ec973", func := "cuecard/cuecardlaw10.TurnEnds", spec := "turnEnds", unfollowed := true, recurses := true, apart := false, narrowed := true }
def TurnEndsUptoSaid : Prop := turnEndsUptoRow.holds Try.pinned (OpenSpec.upto turnEndsSpec)

end Rows
end Go.Proofs.Ytchfiiiippnigaa
