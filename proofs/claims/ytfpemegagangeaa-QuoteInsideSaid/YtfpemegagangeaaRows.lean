/-
  No cell of these rows narrows 'for every input' (looked for: loops, veiled, ifaces, maps, wideKeys, modest, calm, conditions, laid).
  DERIVED. THE GIVEN ROWS OF THIS SEAT. 6 by the template 'for every input the law returns true; each argument reads behind the call as it read before'; 0 by the template 'total and deterministic' (their statements: YtfpemegagangeaaTotals.lean).
  GIVEN WITH THE SEED: the statements are not yours to turn. If you find one false, say at which input.
  Laid BY PROGRAM, IN A SANDBOX (cutbox-rows.mjs): the forced cells as the released guide's own fill.sh prints them over the translation 29a576db819974af… (all of the seat's roots in one cut). By AI agents, Wed Nov 11 2026. No macro, syntax, notation, axiom, sorry.
-/
import Derived.Test.YtfpemegagangeaaChecked
import GoSem.Claim
import GoSem.ClaimJoined
import GoSem.ClaimMapViews
import Derived.JoinedTies
import Derived.KernelRfl
namespace Go.Proofs.Ytfpemegagangeaa
/- THE CELL 'sum', in the pinned program and in every row, IS THE sha256 OF THE DUMP (.gsa) THAT YtfpemegagangeaaProg.lean LOADS. Nothing in Lean hashes anything: it is a label: what it is worth is what the hold of that sum in a sandbox is worth. -/
noncomputable def Try.pinned : Pinned := { name := "ytfpemegagangeaa", sum := "29a576db819974afaff0d0cef95bc17b08441c3f5a0f1bfe6b16fa715e65b06b", checked := Try.checked }
namespace Rows
def none {H : Type} : Left H := { results := [], args := [] }

/-- 'cuecardlaw11.QuoteBytes': WHATEVER THE INPUT: true; the input reads as it did. -/
def quoteBytesSpec : ChangeSpec := { name := "quoteBytes", fn := fun _ => fun
  | [d1, d2] => { results := [.lit (.bool true)], args := [d1, d2] }
  | _ => none }
def quoteBytesRow : OpenClaim := { program := "ytfpemegagangeaa", sum := "29a576db819974afaff0d0cef95bc17b08441c3f5a0f1bfe6b16fa715e65b06b", func := "cuecard/cuecardlaw11.QuoteBytes", spec := "quoteBytes", inPlace := ["internal/abi.NoEscape", "internal/bytealg.IndexByteString"], apart := false }
def QuoteBytesSaid : Prop := quoteBytesRow.holds Try.pinned (OpenSpec.ofChange quoteBytesSpec)

/-- ITS FALSE NEIGHBOUR: 'it returns false'. Refute it at one input. -/
def quoteBytesWrong : ChangeSpec := { name := "quoteBytes", fn := fun _ => fun
  | [d1, d2] => { results := [.lit (.bool false)], args := [d1, d2] }
  | _ => none }
def QuoteBytesWrongFalsely : Prop := quoteBytesRow.holds Try.pinned (OpenSpec.ofChange quoteBytesWrong)

/-- 'cuecardlaw11.QuoteReads': WHATEVER THE INPUT: true; the input reads as it did. -/
def quoteReadsSpec : ChangeSpec := { name := "quoteReads", fn := fun _ => fun
  | [d1, d2] => { results := [.lit (.bool true)], args := [d1, d2] }
  | _ => none }
def quoteReadsRow : OpenClaim := { program := "ytfpemegagangeaa", sum := "29a576db819974afaff0d0cef95bc17b08441c3f5a0f1bfe6b16fa715e65b06b", func := "cuecard/cuecardlaw11.QuoteReads", spec := "quoteReads", inPlace := ["internal/abi.NoEscape", "internal/bytealg.IndexByteString"], apart := false }
def QuoteReadsSaid : Prop := quoteReadsRow.holds Try.pinned (OpenSpec.ofChange quoteReadsSpec)

/-- ITS FALSE NEIGHBOUR: 'it returns false'. Refute it at one input. -/
def quoteReadsWrong : ChangeSpec := { name := "quoteReads", fn := fun _ => fun
  | [d1, d2] => { results := [.lit (.bool false)], args := [d1, d2] }
  | _ => none }
def QuoteReadsWrongFalsely : Prop := quoteReadsRow.holds Try.pinned (OpenSpec.ofChange quoteReadsWrong)

/-- 'cuecardlaw11.QuoteBack': WHATEVER THE INPUT: true; the input reads as it did. -/
def quoteBackSpec : ChangeSpec := { name := "quoteBack", fn := fun _ => fun
  | [d] => { results := [.lit (.bool true)], args := [d] }
  | _ => none }
def quoteBackRow : OpenClaim := { program := "ytfpemegagangeaa", sum := "29a576db819974afaff0d0cef95bc17b08441c3f5a0f1bfe6b16fa715e65b06b", func := "cuecard/cuecardlaw11.QuoteBack", spec := "quoteBack", inPlace := ["internal/abi.NoEscape", "internal/bytealg.IndexByteString"], apart := false }
def QuoteBackSaid : Prop := quoteBackRow.holds Try.pinned (OpenSpec.ofChange quoteBackSpec)

/-- ITS FALSE NEIGHBOUR: 'it returns false'. Refute it at one input. -/
def quoteBackWrong : ChangeSpec := { name := "quoteBack", fn := fun _ => fun
  | [d] => { results := [.lit (.bool false)], args := [d] }
  | _ => none }
def QuoteBackWrongFalsely : Prop := quoteBackRow.holds Try.pinned (OpenSpec.ofChange quoteBackWrong)

/-- 'cuecardlaw11.QuoteJoins': WHATEVER THE INPUT: true; the input reads as it did. -/
def quoteJoinsSpec : ChangeSpec := { name := "quoteJoins", fn := fun _ => fun
  | [d1, d2] => { results := [.lit (.bool true)], args := [d1, d2] }
  | _ => none }
def quoteJoinsRow : OpenClaim := { program := "ytfpemegagangeaa", sum := "29a576db819974afaff0d0cef95bc17b08441c3f5a0f1bfe6b16fa715e65b06b", func := "cuecard/cuecardlaw11.QuoteJoins", spec := "quoteJoins", inPlace := ["internal/abi.NoEscape", "internal/bytealg.IndexByteString"], apart := false }
def QuoteJoinsSaid : Prop := quoteJoinsRow.holds Try.pinned (OpenSpec.ofChange quoteJoinsSpec)

/-- ITS FALSE NEIGHBOUR: 'it returns false'. Refute it at one input. -/
def quoteJoinsWrong : ChangeSpec := { name := "quoteJoins", fn := fun _ => fun
  | [d1, d2] => { results := [.lit (.bool false)], args := [d1, d2] }
  | _ => none }
def QuoteJoinsWrongFalsely : Prop := quoteJoinsRow.holds Try.pinned (OpenSpec.ofChange quoteJoinsWrong)

/-- 'cuecardlaw11.QuoteAll': WHATEVER THE INPUT: true; the input reads as it did. -/
def quoteAllSpec : ChangeSpec := { name := "quoteAll", fn := fun _ => fun
  | [d1, d2] => { results := [.lit (.bool true)], args := [d1, d2] }
  | _ => none }
def quoteAllRow : OpenClaim := { program := "ytfpemegagangeaa", sum := "29a576db819974afaff0d0cef95bc17b08441c3f5a0f1bfe6b16fa715e65b06b", func := "cuecard/cuecardlaw11.QuoteAll", spec := "quoteAll", inPlace := ["internal/abi.NoEscape", "internal/bytealg.IndexByteString"], apart := false }
def QuoteAllSaid : Prop := quoteAllRow.holds Try.pinned (OpenSpec.ofChange quoteAllSpec)

/-- ITS FALSE NEIGHBOUR: 'it returns false'. Refute it at one input. -/
def quoteAllWrong : ChangeSpec := { name := "quoteAll", fn := fun _ => fun
  | [d1, d2] => { results := [.lit (.bool false)], args := [d1, d2] }
  | _ => none }
def QuoteAllWrongFalsely : Prop := quoteAllRow.holds Try.pinned (OpenSpec.ofChange quoteAllWrong)

/-- 'cuecardlaw11.QuoteInside': WHATEVER THE INPUT: true; the input reads as it did. -/
def quoteInsideSpec : ChangeSpec := { name := "quoteInside", fn := fun _ => fun
  | [d] => { results := [.lit (.bool true)], args := [d] }
  | _ => none }
def quoteInsideRow : OpenClaim := { program := "ytfpemegagangeaa", sum := "29a576db819974afaff0d0cef95bc17b08441c3f5a0f1bfe6b16fa715e65b06b", func := "cuecard/cuecardlaw11.QuoteInside", spec := "quoteInside", inPlace := ["internal/abi.NoEscape", "internal/bytealg.IndexByteString"], apart := false }
def QuoteInsideSaid : Prop := quoteInsideRow.holds Try.pinned (OpenSpec.ofChange quoteInsideSpec)

/-- ITS FALSE NEIGHBOUR: 'it returns false'. Refute it at one input. -/
def quoteInsideWrong : ChangeSpec := { name := "quoteInside", fn := fun _ => fun
  | [d] => { results := [.lit (.bool false)], args := [d] }
  | _ => none }
def QuoteInsideWrongFalsely : Prop := quoteInsideRow.holds Try.pinned (OpenSpec.ofChange quoteInsideWrong)

/- THE SECOND FORM. 'bulk': how many values and letters a reading holds, each counted each time it is reached (what is shared counts as often as it is met; a slice's spare places count too). A statement '..UptoSaid' is the law's where the arguments, and the package variables that the reading takes, are together of bulk at most 1048576: NARROWER than '..Said'. Prove '..Said' where nothing that the law and all that it calls make is longer than what came in: it says more and counts as full. Else prove '..UptoSaid'. A law counts once. -/
mutual
def uptoBulk {H : Type} : DataW H → Nat
  | .lit (.string bytes) => bytes.length + 1
  | .lit _ => 1
  | .nil => 1
  | .ptr d => uptoBulk d + 1
  | .slice elems spare => uptoBulkAll elems + uptoBulkAll spare + 1
  | .agg parts => uptoBulkAll parts + 1
  | .iface _ d => uptoBulk d + 1
  | .map entries => uptoBulkEntries entries + 1
  | .held _ => 1
def uptoBulkAll {H : Type} : List (DataW H) → Nat
  | [] => 0
  | d :: r => uptoBulk d + uptoBulkAll r
def uptoBulkEntries {H : Type} : List (Lit × DataW H) → Nat
  | [] => 0
  | x :: r => uptoBulkEntry x + uptoBulkEntries r
def uptoBulkEntry {H : Type} : Lit × DataW H → Nat
  | (.string bytes, d) => bytes.length + uptoBulk d + 1
  | (_, d) => uptoBulk d + 1
 end
def uptoSmall : (H : Type) → List (DataW H) → Bool := fun _ ds => decide (uptoBulkAll ds ≤ 1048576)
def OpenSpec.upto (s : _root_.Go.ChangeSpec) : _root_.Go.OpenSpec := { _root_.Go.OpenSpec.ofChange s with cond := some uptoSmall }

/-- 'cuecardlaw11.QuoteBytes', WHERE WHAT IT READS IS OF BULK AT MOST 1048576: true; the input reads as it did. -/
def quoteBytesUptoRow : OpenClaim := { program := "ytfpemegagangeaa", sum := "29a576db819974afaff0d0cef95bc17b08441c3f5a0f1bfe6b16fa715e65b06b", func := "cuecard/cuecardlaw11.QuoteBytes", spec := "quoteBytes", inPlace := ["internal/abi.NoEscape", "internal/bytealg.IndexByteString"], apart := false, narrowed := true }
def QuoteBytesUptoSaid : Prop := quoteBytesUptoRow.holds Try.pinned (OpenSpec.upto quoteBytesSpec)

/-- 'cuecardlaw11.QuoteReads', WHERE WHAT IT READS IS OF BULK AT MOST 1048576: true; the input reads as it did. -/
def quoteReadsUptoRow : OpenClaim := { program := "ytfpemegagangeaa", sum := "29a576db819974afaff0d0cef95bc17b08441c3f5a0f1bfe6b16fa715e65b06b", func := "cuecard/cuecardlaw11.QuoteReads", spec := "quoteReads", inPlace := ["internal/abi.NoEscape", "internal/bytealg.IndexByteString"], apart := false, narrowed := true }
def QuoteReadsUptoSaid : Prop := quoteReadsUptoRow.holds Try.pinned (OpenSpec.upto quoteReadsSpec)

/-- 'cuecardlaw11.QuoteBack', WHERE WHAT IT READS IS OF BULK AT MOST 1048576: true; the input reads as it did. -/
def quoteBackUptoRow : OpenClaim := { program := "ytfpemegagangeaa", sum := "29a576db819974afaff0d0cef95bc17b08441c3f5a0f1bfe6b16fa715e65b06b", func := "cuecard/cuecardlaw11.QuoteBack", spec := "quoteBack", inPlace := ["internal/abi.NoEscape", "internal/bytealg.IndexByteString"], apart := false, narrowed := true }
def QuoteBackUptoSaid : Prop := quoteBackUptoRow.holds Try.pinned (OpenSpec.upto quoteBackSpec)

/-- 'cuecardlaw11.QuoteJoins', WHERE WHAT IT READS IS OF BULK AT MOST 1048576: true; the input reads as it did. -/
def quoteJoinsUptoRow : OpenClaim := { program := "ytfpemegagangeaa", sum := "29a576db819974afaff0d0cef95bc17b08441c3f5a0f1bfe6b16fa715e65b06b", func := "cuecard/cuecardlaw11.QuoteJoins", spec := "quoteJoins", inPlace := ["internal/abi.NoEscape", "internal/bytealg.IndexByteString"], apart := false, narrowed := true }
def QuoteJoinsUptoSaid : Prop := quoteJoinsUptoRow.holds Try.pinned (OpenSpec.upto quoteJoinsSpec)

/-- 'cuecardlaw11.QuoteAll', WHERE WHAT IT READS IS OF BULK AT MOST 1048576: true; the input reads as it did. -/
def quoteAllUptoRow : OpenClaim := { program := "ytfpemegagangeaa", sum := "29a576db819974afaff0d0cef95bc17b08441c3f5a0f1bfe6b16fa715e65b06b", func := "cuecard/cuecardlaw11.QuoteAll", spec := "quoteAll", inPlace := ["internal/abi.NoEscape", "internal/bytealg.IndexByteString"], apart := false, narrowed := true }
def QuoteAllUptoSaid : Prop := quoteAllUptoRow.holds Try.pinned (OpenSpec.upto quoteAllSpec)

/-- 'cuecardlaw11.QuoteInside', WHERE WHAT IT READS IS OF BULK AT MOST 1048576: true; the input reads as it did. -/
def quoteInsideUptoRow : OpenClaim := { program := "ytfpemegagangeaa", sum := "29a576db819974afaff0d0cef95bc17b08441c3f5a0f1bfe6b16fa715e65b06b", func := "cuecard/cuecardlaw11.QuoteInside", spec := "quoteInside", inPlace := ["internal/abi.NoEscape", "internal/bytealg.IndexByteString"], apart := false, narrowed := true }
def QuoteInsideUptoSaid : Prop := quoteInsideUptoRow.holds Try.pinned (OpenSpec.upto quoteInsideSpec)

end Rows
end Go.Proofs.Ytfpemegagangeaa
