/-
  No cell of these rows narrows 'for every input' (looked for: loops, veiled, ifaces, maps, wideKeys, modest, calm, conditions, laid).
  DERIVED. THE GIVEN ROWS OF THIS SEAT. 6 by the template 'for every input the law returns true; each argument reads behind the call as it read before'; 0 by the template 'total and deterministic' (their statements: YtmgmklhajapebaaTotals.lean).
  GIVEN WITH THE SEED: the statements are not yours to turn. If you find one false, say at which input.
  Laid BY PROGRAM, IN A SANDBOX (cutbox-rows.mjs): the forced cells as the released guide's own fill.sh prints them over the translation 2f07af3bf2fa105d… (all of the seat's roots in one cut). By AI agents, Wed Nov 11 2026. No macro, syntax, notation, axiom, sorry.
-/
import Derived.Test.YtmgmklhajapebaaChecked
import GoSem.Claim
import GoSem.ClaimJoined
import GoSem.ClaimMapViews
import Derived.JoinedTies
import Derived.KernelRfl
namespace Go.Proofs.Ytmgmklhajapebaa
/- THE CELL 'sum', in the pinned program and in every row, IS THE sha256 OF THE DUMP (.gsa) THAT YtmgmklhajapebaaProg.lean LOADS. Nothing in Lean hashes anything: it is a label: what it is worth is what the hold of that sum in a sandbox is worth. -/
noncomputable def Try.pinned : Pinned := { name := "ytmgmklhajapebaa", sum := "2f07af3bf2fa105d3b26b528d6cb62a07d37f9426aab53a3b0680ea6af1953ec", checked := Try.checked }
namespace Rows
def none {H : Type} : Left H := { results := [], args := [] }

/-- 'cuecardlaw02.VaryPuts': WHATEVER THE INPUT: true; the input reads as it did. -/
def varyPutsSpec : ChangeSpec := { name := "varyPuts", fn := fun _ => fun
  | [d1, d2] => { results := [.lit (.bool true)], args := [d1, d2] }
  | _ => none }
def varyPutsRow : OpenClaim := { program := "ytmgmklhajapebaa", sum := "2f07af3bf2fa105d3b26b528d6cb62a07d37f9426aab53a3b0680ea6af1953ec", func := "cuecard/cuecardlaw02.VaryPuts", spec := "varyPuts", apart := false }
def VaryPutsSaid : Prop := varyPutsRow.holds Try.pinned (OpenSpec.ofChange varyPutsSpec)

/-- ITS FALSE NEIGHBOUR: 'it returns false'. Refute it at one input. -/
def varyPutsWrong : ChangeSpec := { name := "varyPuts", fn := fun _ => fun
  | [d1, d2] => { results := [.lit (.bool false)], args := [d1, d2] }
  | _ => none }
def VaryPutsWrongFalsely : Prop := varyPutsRow.holds Try.pinned (OpenSpec.ofChange varyPutsWrong)

/-- 'cuecardlaw02.VaryGets': WHATEVER THE INPUT: true; the input reads as it did. -/
def varyGetsSpec : ChangeSpec := { name := "varyGets", fn := fun _ => fun
  | [d1, d2] => { results := [.lit (.bool true)], args := [d1, d2] }
  | _ => none }
def varyGetsRow : OpenClaim := { program := "ytmgmklhajapebaa", sum := "2f07af3bf2fa105d3b26b528d6cb62a07d37f9426aab53a3b0680ea6af1953ec", func := "cuecard/cuecardlaw02.VaryGets", spec := "varyGets", apart := false }
def VaryGetsSaid : Prop := varyGetsRow.holds Try.pinned (OpenSpec.ofChange varyGetsSpec)

/-- ITS FALSE NEIGHBOUR: 'it returns false'. Refute it at one input. -/
def varyGetsWrong : ChangeSpec := { name := "varyGets", fn := fun _ => fun
  | [d1, d2] => { results := [.lit (.bool false)], args := [d1, d2] }
  | _ => none }
def VaryGetsWrongFalsely : Prop := varyGetsRow.holds Try.pinned (OpenSpec.ofChange varyGetsWrong)

/-- 'cuecardlaw02.VaryBack': WHATEVER THE INPUT: true; the input reads as it did. -/
def varyBackSpec : ChangeSpec := { name := "varyBack", fn := fun _ => fun
  | [d1, d2, d3] => { results := [.lit (.bool true)], args := [d1, d2, d3] }
  | _ => none }
def varyBackRow : OpenClaim := { program := "ytmgmklhajapebaa", sum := "2f07af3bf2fa105d3b26b528d6cb62a07d37f9426aab53a3b0680ea6af1953ec", func := "cuecard/cuecardlaw02.VaryBack", spec := "varyBack", apart := false }
def VaryBackSaid : Prop := varyBackRow.holds Try.pinned (OpenSpec.ofChange varyBackSpec)

/-- ITS FALSE NEIGHBOUR: 'it returns false'. Refute it at one input. -/
def varyBackWrong : ChangeSpec := { name := "varyBack", fn := fun _ => fun
  | [d1, d2, d3] => { results := [.lit (.bool false)], args := [d1, d2, d3] }
  | _ => none }
def VaryBackWrongFalsely : Prop := varyBackRow.holds Try.pinned (OpenSpec.ofChange varyBackWrong)

/-- 'cuecardlaw02.VaryOne': WHATEVER THE INPUT: true; the input reads as it did. -/
def varyOneSpec : ChangeSpec := { name := "varyOne", fn := fun _ => fun
  | [d1, d2] => { results := [.lit (.bool true)], args := [d1, d2] }
  | _ => none }
def varyOneRow : OpenClaim := { program := "ytmgmklhajapebaa", sum := "2f07af3bf2fa105d3b26b528d6cb62a07d37f9426aab53a3b0680ea6af1953ec", func := "cuecard/cuecardlaw02.VaryOne", spec := "varyOne", apart := false }
def VaryOneSaid : Prop := varyOneRow.holds Try.pinned (OpenSpec.ofChange varyOneSpec)

/-- ITS FALSE NEIGHBOUR: 'it returns false'. Refute it at one input. -/
def varyOneWrong : ChangeSpec := { name := "varyOne", fn := fun _ => fun
  | [d1, d2] => { results := [.lit (.bool false)], args := [d1, d2] }
  | _ => none }
def VaryOneWrongFalsely : Prop := varyOneRow.holds Try.pinned (OpenSpec.ofChange varyOneWrong)

/-- 'cuecardlaw02.VaryRow': WHATEVER THE INPUT: true; the input reads as it did. -/
def varyRowSpec : ChangeSpec := { name := "varyRow", fn := fun _ => fun
  | [d] => { results := [.lit (.bool true)], args := [d] }
  | _ => none }
def varyRowRow : OpenClaim := { program := "ytmgmklhajapebaa", sum := "2f07af3bf2fa105d3b26b528d6cb62a07d37f9426aab53a3b0680ea6af1953ec", func := "cuecard/cuecardlaw02.VaryRow", spec := "varyRow", apart := false }
def VaryRowSaid : Prop := varyRowRow.holds Try.pinned (OpenSpec.ofChange varyRowSpec)

/-- ITS FALSE NEIGHBOUR: 'it returns false'. Refute it at one input. -/
def varyRowWrong : ChangeSpec := { name := "varyRow", fn := fun _ => fun
  | [d] => { results := [.lit (.bool false)], args := [d] }
  | _ => none }
def VaryRowWrongFalsely : Prop := varyRowRow.holds Try.pinned (OpenSpec.ofChange varyRowWrong)

/-- 'cuecardlaw02.VaryRises': WHATEVER THE INPUT: true; the input reads as it did. -/
def varyRisesSpec : ChangeSpec := { name := "varyRises", fn := fun _ => fun
  | [d1, d2] => { results := [.lit (.bool true)], args := [d1, d2] }
  | _ => none }
def varyRisesRow : OpenClaim := { program := "ytmgmklhajapebaa", sum := "2f07af3bf2fa105d3b26b528d6cb62a07d37f9426aab53a3b0680ea6af1953ec", func := "cuecard/cuecardlaw02.VaryRises", spec := "varyRises", apart := false }
def VaryRisesSaid : Prop := varyRisesRow.holds Try.pinned (OpenSpec.ofChange varyRisesSpec)

/-- ITS FALSE NEIGHBOUR: 'it returns false'. Refute it at one input. -/
def varyRisesWrong : ChangeSpec := { name := "varyRises", fn := fun _ => fun
  | [d1, d2] => { results := [.lit (.bool false)], args := [d1, d2] }
  | _ => none }
def VaryRisesWrongFalsely : Prop := varyRisesRow.holds Try.pinned (OpenSpec.ofChange varyRisesWrong)

/- THE SECOND FORM. 'bulk': how many values and letters a reading holds, each counted each time it is reached (what is shared counts as often as it is met; a slice's spare places count too). A statement '..UptoSaid' is the law's where the arguments, and the package variables that the reading takes, are together of bulk at most 1048576: NARROWER than '..Said'. Prove '..Said' where nothing that the law and all that it calls make is longer than what came in: it says more and counts as full. Else prove '..UptoSaid'. A law counts once. -/
mutual
def uptoBulk {H : Type} : DataW H → Nat
  | .lit (.string bytes) => bytes.length + 1
  | .lit _ => 1
  | .nil => 1
  | .ptr d => uptoBulk d + 1
  | .slice elems spare => uptoBulkAll elems + uptoBulkAll spare + 1
  | .agg parts => uptoBulkAll parts + 1
  | .iface _ d => uptoBulk d + 1
  | .map entries => uptoBulkEntries entries + 1
  | .held _ => 1
def uptoBulkAll {H : Type} : List (DataW H) → Nat
  | [] => 0
  | d :: r => uptoBulk d + uptoBulkAll r
def uptoBulkEntries {H : Type} : List (Lit × DataW H) → Nat
  | [] => 0
  | x :: r => uptoBulkEntry x + uptoBulkEntries r
def uptoBulkEntry {H : Type} : Lit × DataW H → Nat
  | (.string bytes, d) => bytes.length + uptoBulk d + 1
  | (_, d) => uptoBulk d + 1
 end
def uptoSmall : (H : Type) → List (DataW H) → Bool := fun _ ds => decide (uptoBulkAll ds ≤ 1048576)
def OpenSpec.upto (s : _root_.Go.ChangeSpec) : _root_.Go.OpenSpec := { _root_.Go.OpenSpec.ofChange s with cond := some uptoSmall }

/-- 'cuecardlaw02.VaryPuts', WHERE WHAT IT READS IS OF BULK AT MOST 1048576: true; the input reads as it did. -/
def varyPutsUptoRow : OpenClaim := { program := "ytmgmklhajapebaa", sum := "2f07af3bf2fa105d3b26b528d6cb62a07d37f9426aab53a3b0680ea6af1953ec", func := "cuecard/cuecardlaw02.VaryPuts", spec := "varyPuts", apart := false, narrowed := true }
def VaryPutsUptoSaid : Prop := varyPutsUptoRow.holds Try.pinned (OpenSpec.upto varyPutsSpec)

/-- 'cuecardlaw02.VaryGets', WHERE WHAT IT READS IS OF BULK AT MOST 1048576: true; the input reads as it did. -/
def varyGetsUptoRow : OpenClaim := { program := "ytmgmklhajapebaa", sum := "2f07af3bf2fa105d3b26b528d6cb62a07d37f9426aab53a3b0680ea6af1953ec", func := "cuecard/cuecardlaw02.VaryGets", spec := "varyGets", apart := false, narrowed := true }
def VaryGetsUptoSaid : Prop := varyGetsUptoRow.holds Try.pinned (OpenSpec.upto varyGetsSpec)

/-- 'cuecardlaw02.VaryBack', WHERE WHAT IT READS IS OF BULK AT MOST 1048576: true; the input reads as it did. -/
def varyBackUptoRow : OpenClaim := { program := "ytmgmklhajapebaa", sum := "2f07af3bf2fa105d3b26b528d6cb62a07d37f9426aab53a3b0680ea6af1953ec", func := "cuecard/cuecardlaw02.VaryBack", spec := "varyBack", apart := false, narrowed := true }
def VaryBackUptoSaid : Prop := varyBackUptoRow.holds Try.pinned (OpenSpec.upto varyBackSpec)

/-- 'cuecardlaw02.VaryOne', WHERE WHAT IT READS IS OF BULK AT MOST 1048576: true; the input reads as it did. -/
def varyOneUptoRow : OpenClaim := { program := "ytmgmklhajapebaa", sum := "2f07af3bf2fa105d3b26b528d6cb62a07d37f9426aab53a3b0680ea6af1953ec", func := "cuecard/cuecardlaw02.VaryOne", spec := "varyOne", apart := false, narrowed := true }
def VaryOneUptoSaid : Prop := varyOneUptoRow.holds Try.pinned (OpenSpec.upto varyOneSpec)

/-- 'cuecardlaw02.VaryRow', WHERE WHAT IT READS IS OF BULK AT MOST 1048576: true; the input reads as it did. -/
def varyRowUptoRow : OpenClaim := { program := "ytmgmklhajapebaa", sum := "2f07af3bf2fa105d3b26b528d6cb62a07d37f9426aab53a3b0680ea6af1953ec", func := "cuecard/cuecardlaw02.VaryRow", spec := "varyRow", apart := false, narrowed := true }
def VaryRowUptoSaid : Prop := varyRowUptoRow.holds Try.pinned (OpenSpec.upto varyRowSpec)

/-- 'cuecardlaw02.VaryRises', WHERE WHAT IT READS IS OF BULK AT MOST 1048576: true; the input reads as it did. -/
def varyRisesUptoRow : OpenClaim := { program := "ytmgmklhajapebaa", sum := "2f07af3bf2fa105d3b26b528d6cb62a07d37f9426aab53a3b0680ea6af1953ec", func := "cuecard/cuecardlaw02.VaryRises", spec := "varyRises", apart := false, narrowed := true }
def VaryRisesUptoSaid : Prop := varyRisesUptoRow.holds Try.pinned (OpenSpec.upto varyRisesSpec)

end Rows
end Go.Proofs.Ytmgmklhajapebaa
