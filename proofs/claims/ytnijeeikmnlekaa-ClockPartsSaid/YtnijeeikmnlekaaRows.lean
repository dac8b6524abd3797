/-
  No cell of these rows narrows 'for every input' (looked for: loops, veiled, ifaces, maps, wideKeys, modest, calm, conditions, laid).
  DERIVED. THE GIVEN ROWS OF THIS SEAT. 6 by the template 'for every input the law returns true; each argument reads behind the call as it read before'; 0 by the template 'total and deterministic' (their statements: YtnijeeikmnlekaaTotals.lean).
  GIVEN WITH THE SEED: the statements are not yours to turn. If you find one false, say at which input.
  Laid BY PROGRAM, IN A SANDBOX (cutbox-rows.mjs): the forced cells as the released guide's own fill.sh prints them over the translation c90007d239c3f4fb… (all of the seat's roots in one cut). By AI agents, Wed Nov 11 2026. No macro, syntax, notation, axiom, sorry.
-/
import Derived.Test.YtnijeeikmnlekaaChecked
import GoSem.Claim
import GoSem.ClaimJoined
import GoSem.ClaimMapViews
import Derived.JoinedTies
import Derived.KernelRfl
namespace Go.Proofs.Ytnijeeikmnlekaa
/- THE CELL 'sum', in the pinned program and in every row, IS THE sha256 OF THE DUMP (.gsa) THAT YtnijeeikmnlekaaProg.lean LOADS. Nothing in Lean hashes anything: it is a label: what it is worth is what the hold of that sum in a sandbox is worth. -/
noncomputable def Try.pinned : Pinned := { name := "ytnijeeikmnlekaa", sum := "c90007d239c3f4fb9209a274a5b72ac26f85fae011c92fab7d394e65748a06f7", checked := Try.checked }
namespace Rows
def none {H : Type} : Left H := { results := [], args := [] }

/-- 'cuecardlaw03.ClockSees': WHATEVER THE INPUT: true; the input reads as it did. -/
def clockSeesSpec : ChangeSpec := { name := "clockSees", fn := fun _ => fun
  | [d1, d2] => { results := [.lit (.bool true)], args := [d1, d2] }
  | _ => none }
def clockSeesRow : OpenClaim := { program := "ytnijeeikmnlekaa", sum := "c90007d239c3f4fb9209a274a5b72ac26f85fae011c92fab7d394e65748a06f7", func := "cuecard/cuecardlaw03.ClockSees", spec := "clockSees", apart := false }
def ClockSeesSaid : Prop := clockSeesRow.holds Try.pinned (OpenSpec.ofChange clockSeesSpec)

/-- ITS FALSE NEIGHBOUR: 'it returns false'. Refute it at one input. -/
def clockSeesWrong : ChangeSpec := { name := "clockSees", fn := fun _ => fun
  | [d1, d2] => { results := [.lit (.bool false)], args := [d1, d2] }
  | _ => none }
def ClockSeesWrongFalsely : Prop := clockSeesRow.holds Try.pinned (OpenSpec.ofChange clockSeesWrong)

/-- 'cuecardlaw03.ClockGaps': WHATEVER THE INPUT: true; the input reads as it did. -/
def clockGapsSpec : ChangeSpec := { name := "clockGaps", fn := fun _ => fun
  | [d1, d2] => { results := [.lit (.bool true)], args := [d1, d2] }
  | _ => none }
def clockGapsRow : OpenClaim := { program := "ytnijeeikmnlekaa", sum := "c90007d239c3f4fb9209a274a5b72ac26f85fae011c92fab7d394e65748a06f7", func := "cuecard/cuecardlaw03.ClockGaps", spec := "clockGaps", apart := false }
def ClockGapsSaid : Prop := clockGapsRow.holds Try.pinned (OpenSpec.ofChange clockGapsSpec)

/-- ITS FALSE NEIGHBOUR: 'it returns false'. Refute it at one input. -/
def clockGapsWrong : ChangeSpec := { name := "clockGaps", fn := fun _ => fun
  | [d1, d2] => { results := [.lit (.bool false)], args := [d1, d2] }
  | _ => none }
def ClockGapsWrongFalsely : Prop := clockGapsRow.holds Try.pinned (OpenSpec.ofChange clockGapsWrong)

/-- 'cuecardlaw03.ClockBack': WHATEVER THE INPUT: true; the input reads as it did. -/
def clockBackSpec : ChangeSpec := { name := "clockBack", fn := fun _ => fun
  | [d1, d2, d3] => { results := [.lit (.bool true)], args := [d1, d2, d3] }
  | _ => none }
def clockBackRow : OpenClaim := { program := "ytnijeeikmnlekaa", sum := "c90007d239c3f4fb9209a274a5b72ac26f85fae011c92fab7d394e65748a06f7", func := "cuecard/cuecardlaw03.ClockBack", spec := "clockBack", apart := false }
def ClockBackSaid : Prop := clockBackRow.holds Try.pinned (OpenSpec.ofChange clockBackSpec)

/-- ITS FALSE NEIGHBOUR: 'it returns false'. Refute it at one input. -/
def clockBackWrong : ChangeSpec := { name := "clockBack", fn := fun _ => fun
  | [d1, d2, d3] => { results := [.lit (.bool false)], args := [d1, d2, d3] }
  | _ => none }
def ClockBackWrongFalsely : Prop := clockBackRow.holds Try.pinned (OpenSpec.ofChange clockBackWrong)

/-- 'cuecardlaw03.ClockRises': WHATEVER THE INPUT: true; the input reads as it did. -/
def clockRisesSpec : ChangeSpec := { name := "clockRises", fn := fun _ => fun
  | [d] => { results := [.lit (.bool true)], args := [d] }
  | _ => none }
def clockRisesRow : OpenClaim := { program := "ytnijeeikmnlekaa", sum := "c90007d239c3f4fb9209a274a5b72ac26f85fae011c92fab7d394e65748a06f7", func := "cuecard/cuecardlaw03.ClockRises", spec := "clockRises", apart := false }
def ClockRisesSaid : Prop := clockRisesRow.holds Try.pinned (OpenSpec.ofChange clockRisesSpec)

/-- ITS FALSE NEIGHBOUR: 'it returns false'. Refute it at one input. -/
def clockRisesWrong : ChangeSpec := { name := "clockRises", fn := fun _ => fun
  | [d] => { results := [.lit (.bool false)], args := [d] }
  | _ => none }
def ClockRisesWrongFalsely : Prop := clockRisesRow.holds Try.pinned (OpenSpec.ofChange clockRisesWrong)

/-- 'cuecardlaw03.ClockSpent': WHATEVER THE INPUT: true; the input reads as it did. -/
def clockSpentSpec : ChangeSpec := { name := "clockSpent", fn := fun _ => fun
  | [d1, d2] => { results := [.lit (.bool true)], args := [d1, d2] }
  | _ => none }
def clockSpentRow : OpenClaim := { program := "ytnijeeikmnlekaa", sum := "c90007d239c3f4fb9209a274a5b72ac26f85fae011c92fab7d394e65748a06f7", func := "cuecard/cuecardlaw03.ClockSpent", spec := "clockSpent", apart := false }
def ClockSpentSaid : Prop := clockSpentRow.holds Try.pinned (OpenSpec.ofChange clockSpentSpec)

/-- ITS FALSE NEIGHBOUR: 'it returns false'. Refute it at one input. -/
def clockSpentWrong : ChangeSpec := { name := "clockSpent", fn := fun _ => fun
  | [d1, d2] => { results := [.lit (.bool false)], args := [d1, d2] }
  | _ => none }
def ClockSpentWrongFalsely : Prop := clockSpentRow.holds Try.pinned (OpenSpec.ofChange clockSpentWrong)

/-- 'cuecardlaw03.ClockParts': WHATEVER THE INPUT: true; the input reads as it did. -/
def clockPartsSpec : ChangeSpec := { name := "clockParts", fn := fun _ => fun
  | [d1, d2] => { results := [.lit (.bool true)], args := [d1, d2] }
  | _ => none }
def clockPartsRow : OpenClaim := { program := "ytnijeeikmnlekaa", sum := "c90007d239c3f4fb9209a274a5b72ac26f85fae011c92fab7d394e65748a06f7", func := "cuecard/cuecardlaw03.ClockParts", spec := "clockParts", apart := false }
def ClockPartsSaid : Prop := clockPartsRow.holds Try.pinned (OpenSpec.ofChange clockPartsSpec)

/-- ITS FALSE NEIGHBOUR: 'it returns false'. Refute it at one input. -/
def clockPartsWrong : ChangeSpec := { name := "clockParts", fn := fun _ => fun
  | [d1, d2] => { results := [.lit (.bool false)], args := [d1, d2] }
  | _ => none }
def ClockPartsWrongFalsely : Prop := clockPartsRow.holds Try.pinned (OpenSpec.ofChange clockPartsWrong)

/- THE SECOND FORM. 'bulk': how many values and letters a reading holds, each counted each time it is reached (what is shared counts as often as it is met; a slice's spare places count too). A statement '..UptoSaid' is the law's where the arguments, and the package variables that the reading takes, are together of bulk at most 1048576: NARROWER than '..Said'. Prove '..Said' where nothing that the law and all that it calls make is longer than what came in: it says more and counts as full. Else prove '..UptoSaid'. A law counts once. -/
mutual
def uptoBulk {H : Type} : DataW H → Nat
  | .lit (.string bytes) => bytes.length + 1
  | .lit _ => 1
  | .nil => 1
  | .ptr d => uptoBulk d + 1
  | .slice elems spare => uptoBulkAll elems + uptoBulkAll spare + 1
  | .agg parts => uptoBulkAll parts + 1
  | .iface _ d => uptoBulk d + 1
  | .map entries => uptoBulkEntries entries + 1
  | .held _ => 1
def uptoBulkAll {H : Type} : List (DataW H) → Nat
  | [] => 0
  | d :: r => uptoBulk d + uptoBulkAll r
def uptoBulkEntries {H : Type} : List (Lit × DataW H) → Nat
  | [] => 0
  | x :: r => uptoBulkEntry x + uptoBulkEntries r
def uptoBulkEntry {H : Type} : Lit × DataW H → Nat
  | (.string bytes, d) => bytes.length + uptoBulk d + 1
  | (_, d) => uptoBulk d + 1
 end
def uptoSmall : (H : Type) → List (DataW H) → Bool := fun _ ds => decide (uptoBulkAll ds ≤ 1048576)
def OpenSpec.upto (s : _root_.Go.ChangeSpec) : _root_.Go.OpenSpec := { _root_.Go.OpenSpec.ofChange s with cond := some uptoSmall }

/-- 'cuecardlaw03.ClockSees', WHERE WHAT IT READS IS OF BULK AT MOST 1048576: true; the input reads as it did. -/
def clockSeesUptoRow : OpenClaim := { program := "ytnijeeikmnlekaa", sum := "c90007d239c3f4fb9209a274a5b72ac26f85fae011c92fab7d394e65748a06f7", func := "cuecard/cuecardlaw03.ClockSees", spec := "clockSees", apart := false, narrowed := true }
def ClockSeesUptoSaid : Prop := clockSeesUptoRow.holds Try.pinned (OpenSpec.upto clockSeesSpec)

/-- 'cuecardlaw03.ClockGaps', WHERE WHAT IT READS IS OF BULK AT MOST 1048576: true; the input reads as it did. -/
def clockGapsUptoRow : OpenClaim := { program := "ytnijeeikmnlekaa", sum := "c90007d239c3f4fb9209a274a5b72ac26f85fae011c92fab7d394e65748a06f7", func := "cuecard/cuecardlaw03.ClockGaps", spec := "clockGaps", apart := false, narrowed := true }
def ClockGapsUptoSaid : Prop := clockGapsUptoRow.holds Try.pinned (OpenSpec.upto clockGapsSpec)

/-- 'cuecardlaw03.ClockBack', WHERE WHAT IT READS IS OF BULK AT MOST 1048576: true; the input reads as it did. -/
def clockBackUptoRow : OpenClaim := { program := "ytnijeeikmnlekaa", sum := "c90007d239c3f4fb9209a274a5b72ac26f85fae011c92fab7d394e65748a06f7", func := "cuecard/cuecardlaw03.ClockBack", spec := "clockBack", apart := false, narrowed := true }
def ClockBackUptoSaid : Prop := clockBackUptoRow.holds Try.pinned (OpenSpec.upto clockBackSpec)

/-- 'cuecardlaw03.ClockRises', WHERE WHAT IT READS IS OF BULK AT MOST 1048576: true; the input reads as it did. -/
def clockRisesUptoRow : OpenClaim := { program := "ytnijeeikmnlekaa", sum := "c90007d239c3f4fb9209a274a5b72ac26f85fae011c92fab7d394e65748a06f7", func := "cuecard/cuecardlaw03.ClockRises", spec := "clockRises", apart := false, narrowed := true }
def ClockRisesUptoSaid : Prop := clockRisesUptoRow.holds Try.pinned (OpenSpec.upto clockRisesSpec)

/-- 'cuecardlaw03.ClockSpent', WHERE WHAT IT READS IS OF BULK AT MOST 1048576: true; the input reads as it did. -/
def clockSpentUptoRow : OpenClaim := { program := "ytnijeeikmnlekaa", sum := "c90007d239c3f4fb9209a274a5b72ac26f85fae011c92fab7d394e65748a06f7", func := "cuecard/cuecardlaw03.ClockSpent", spec := "clockSpent", apart := false, narrowed := true }
def ClockSpentUptoSaid : Prop := clockSpentUptoRow.holds Try.pinned (OpenSpec.upto clockSpentSpec)

/-- 'cuecardlaw03.ClockParts', WHERE WHAT IT READS IS OF BULK AT MOST 1048576: true; the input reads as it did. -/
def clockPartsUptoRow : OpenClaim := { program := "ytnijeeikmnlekaa", sum := "c90007d239c3f4fb9209a274a5b72ac26f85fae011c92fab7d394e65748a06f7", func := "cuecard/cuecardlaw03.ClockParts", spec := "clockParts", apart := false, narrowed := true }
def ClockPartsUptoSaid : Prop := clockPartsUptoRow.holds Try.pinned (OpenSpec.upto clockPartsSpec)

end Rows
end Go.Proofs.Ytnijeeikmnlekaa
