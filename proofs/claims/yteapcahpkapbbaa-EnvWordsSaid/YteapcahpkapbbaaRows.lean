/-
  No cell of these rows narrows 'for every input' (looked for: loops, veiled, ifaces, maps, wideKeys, modest, calm, conditions, laid).
  DERIVED. THE GIVEN ROWS OF THIS SEAT. 7 by the template 'for every input the law returns true; each argument reads behind the call as it read before'; 0 by the template 'total and deterministic' (their statements: YteapcahpkapbbaaTotals.lean).
  GIVEN WITH THE SEED: the statements are not yours to turn. If you find one false, say at which input.
  Laid BY PROGRAM, IN A SANDBOX (cutbox-rows.mjs): the forced cells as the released guide's own fill.sh prints them over the translation 3cc2037b2b9b178a… (all of the seat's roots in one cut). By AI agents, Wed Nov 11 2026. No macro, syntax, notation, axiom, sorry.
-/
import Derived.Test.YteapcahpkapbbaaChecked
import GoSem.Claim
import GoSem.ClaimJoined
import GoSem.ClaimMapViews
import Derived.JoinedTies
import Derived.KernelRfl
namespace Go.Proofs.Yteapcahpkapbbaa
/- THE CELL 'sum', in the pinned program and in every row, IS THE sha256 OF THE DUMP (.gsa) THAT YteapcahpkapbbaaProg.lean LOADS. Nothing in Lean hashes anything: it is a label: what it is worth is what the hold of that sum in a sandbox is worth. -/
noncomputable def Try.pinned : Pinned := { name := "yteapcahpkapbbaa", sum := "3cc2037b2b9b178a8dcb9a56e57020a62e33e3cb445aa184057a486a54a8b1e4", checked := Try.checked }
namespace Rows
def none {H : Type} : Left H := { results := [], args := [] }

/-- 'cuecardlaw16.EnvActs': WHATEVER THE INPUT: true; the input reads as it did. -/
def envActsSpec : ChangeSpec := { name := "envActs", fn := fun _ => fun
  | [d] => { results := [.lit (.bool true)], args := [d] }
  | _ => none }
def envActsRow : OpenClaim := { program := "yteapcahpkapbbaa", sum := "3cc2037b2b9b178a8dcb9a56e57020a62e33e3cb445aa184057a486a54a8b1e4", func := "cuecard/cuecardlaw16.EnvActs", spec := "envActs", inPlace := ["internal/bytealg.IndexByteString", "internal/bytealg.IndexString", "internal/abi.NoEscape"], unfollowed := true, recurses := true, named := ["internal/bytealg.MaxLen"], apart := false }
def EnvActsSaid : Prop := envActsRow.holds Try.pinned (OpenSpec.ofChange envActsSpec)

/-- ITS FALSE NEIGHBOUR: 'it returns false'. Refute it at one input. -/
def envActsWrong : ChangeSpec := { name := "envActs", fn := fun _ => fun
  | [d] => { results := [.lit (.bool false)], args := [d] }
  | _ => none }
def EnvActsWrongFalsely : Prop := envActsRow.holds Try.pinned (OpenSpec.ofChange envActsWrong)

/-- 'cuecardlaw16.EnvNumbers': WHATEVER THE INPUT: true; the input reads as it did. -/
def envNumbersSpec : ChangeSpec := { name := "envNumbers", fn := fun _ => fun
  | [d1, d2, d3] => { results := [.lit (.bool true)], args := [d1, d2, d3] }
  | _ => none }
def envNumbersRow : OpenClaim := { program := "yteapcahpkapbbaa", sum := "3cc2037b2b9b178a8dcb9a56e57020a62e33e3cb445aa184057a486a54a8b1e4", func := "cuecard/cuecardlaw16.EnvNumbers", spec := "envNumbers", inPlace := ["internal/bytealg.IndexByteString", "internal/bytealg.IndexString", "internal/abi.NoEscape"], named := ["internal/bytealg.MaxLen"], apart := false }
def EnvNumbersSaid : Prop := envNumbersRow.holds Try.pinned (OpenSpec.ofChange envNumbersSpec)

/-- ITS FALSE NEIGHBOUR: 'it returns false'. Refute it at one input. -/
def envNumbersWrong : ChangeSpec := { name := "envNumbers", fn := fun _ => fun
  | [d1, d2, d3] => { results := [.lit (.bool false)], args := [d1, d2, d3] }
  | _ => none }
def EnvNumbersWrongFalsely : Prop := envNumbersRow.holds Try.pinned (OpenSpec.ofChange envNumbersWrong)

/-- 'cuecardlaw16.EnvNone': WHATEVER THE INPUT: true; the input reads as it did. -/
def envNoneSpec : ChangeSpec := { name := "envNone", fn := fun _ => fun
  | [d1, d2] => { results := [.lit (.bool true)], args := [d1, d2] }
  | _ => none }
def envNoneRow : OpenClaim := { program := "yteapcahpkapbbaa", sum := "3cc2037b2b9b178a8dcb9a56e57020a62e33e3cb445aa184057a486a54a8b1e4", func := "cuecard/cuecardlaw16.EnvNone", spec := "envNone", inPlace := ["internal/bytealg.IndexByteString", "internal/bytealg.IndexString", "internal/abi.NoEscape"], unfollowed := true, recurses := true, named := ["internal/bytealg.MaxLen"], apart := false }
def EnvNoneSaid : Prop := envNoneRow.holds Try.pinned (OpenSpec.ofChange envNoneSpec)

/-- ITS FALSE NEIGHBOUR: 'it returns false'. Refute it at one input. -/
def envNoneWrong : ChangeSpec := { name := "envNone", fn := fun _ => fun
  | [d1, d2] => { results := [.lit (.bool false)], args := [d1, d2] }
  | _ => none }
def EnvNoneWrongFalsely : Prop := envNoneRow.holds Try.pinned (OpenSpec.ofChange envNoneWrong)

/-- 'cuecardlaw16.EnvKeeps': WHATEVER THE INPUT: true; the input reads as it did. -/
def envKeepsSpec : ChangeSpec := { name := "envKeeps", fn := fun _ => fun
  | [d1, d2, d3] => { results := [.lit (.bool true)], args := [d1, d2, d3] }
  | _ => none }
def envKeepsRow : OpenClaim := { program := "yteapcahpkapbbaa", sum := "3cc2037b2b9b178a8dcb9a56e57020a62e33e3cb445aa184057a486a54a8b1e4", func := "cuecard/cuecardlaw16.EnvKeeps", spec := "envKeeps", inPlace := ["internal/bytealg.IndexByteString", "internal/bytealg.IndexString", "internal/abi.NoEscape"], unfollowed := true, recurses := true, named := ["internal/bytealg.MaxLen"], apart := false }
def EnvKeepsSaid : Prop := envKeepsRow.holds Try.pinned (OpenSpec.ofChange envKeepsSpec)

/-- ITS FALSE NEIGHBOUR: 'it returns false'. Refute it at one input. -/
def envKeepsWrong : ChangeSpec := { name := "envKeeps", fn := fun _ => fun
  | [d1, d2, d3] => { results := [.lit (.bool false)], args := [d1, d2, d3] }
  | _ => none }
def EnvKeepsWrongFalsely : Prop := envKeepsRow.holds Try.pinned (OpenSpec.ofChange envKeepsWrong)

/-- 'cuecardlaw16.EnvWords': WHATEVER THE INPUT: true; the input reads as it did. -/
def envWordsSpec : ChangeSpec := { name := "envWords", fn := fun _ => fun
  | [d1, d2, d3] => { results := [.lit (.bool true)], args := [d1, d2, d3] }
  | _ => none }
def envWordsRow : OpenClaim := { program := "yteapcahpkapbbaa", sum := "3cc2037b2b9b178a8dcb9a56e57020a62e33e3cb445aa184057a486a54a8b1e4", func := "cuecard/cuecardlaw16.EnvWords", spec := "envWords", inPlace := ["internal/bytealg.IndexByteString", "internal/bytealg.IndexString", "internal/abi.NoEscape"], unfollowed := true, recurses := true, named := ["internal/bytealg.MaxLen"], apart := false }
def EnvWordsSaid : Prop := envWordsRow.holds Try.pinned (OpenSpec.ofChange envWordsSpec)

/-- ITS FALSE NEIGHBOUR: 'it returns false'. Refute it at one input. -/
def envWordsWrong : ChangeSpec := { name := "envWords", fn := fun _ => fun
  | [d1, d2, d3] => { results := [.lit (.bool false)], args := [d1, d2, d3] }
  | _ => none }
def EnvWordsWrongFalsely : Prop := envWordsRow.holds Try.pinned (OpenSpec.ofChange envWordsWrong)

/-- 'cuecardlaw16.EnvDigits': WHATEVER THE INPUT: true; the input reads as it did. -/
def envDigitsSpec : ChangeSpec := { name := "envDigits", fn := fun _ => fun
  | [d] => { results := [.lit (.bool true)], args := [d] }
  | _ => none }
def envDigitsRow : OpenClaim := { program := "yteapcahpkapbbaa", sum := "3cc2037b2b9b178a8dcb9a56e57020a62e33e3cb445aa184057a486a54a8b1e4", func := "cuecard/cuecardlaw16.EnvDigits", spec := "envDigits", inPlace := ["internal/bytealg.IndexByteString", "internal/bytealg.IndexString", "internal/abi.NoEscape"], named := ["internal/bytealg.MaxLen"], apart := false }
def EnvDigitsSaid : Prop := envDigitsRow.holds Try.pinned (OpenSpec.ofChange envDigitsSpec)

/-- ITS FALSE NEIGHBOUR: 'it returns false'. Refute it at one input. -/
def envDigitsWrong : ChangeSpec := { name := "envDigits", fn := fun _ => fun
  | [d] => { results := [.lit (.bool false)], args := [d] }
  | _ => none }
def EnvDigitsWrongFalsely : Prop := envDigitsRow.holds Try.pinned (OpenSpec.ofChange envDigitsWrong)

/-- 'cuecardlaw16.EnvMany': WHATEVER THE INPUT: true; the input reads as it did. -/
def envManySpec : ChangeSpec := { name := "envMany", fn := fun _ => fun
  | [d1, d2] => { results := [.lit (.bool true)], args := [d1, d2] }
  | _ => none }
def envManyRow : OpenClaim := { program := "yteapcahpkapbbaa", sum := "3cc2037b2b9b178a8dcb9a56e57020a62e33e3cb445aa184057a486a54a8b1e4", func := "cuecard/cuecardlaw16.EnvMany", spec := "envMany", inPlace := ["internal/bytealg.IndexByteString", "internal/bytealg.IndexString", "internal/abi.NoEscape"], unfollowed := true, recurses := true, named := ["internal/bytealg.MaxLen"], apart := false }
def EnvManySaid : Prop := envManyRow.holds Try.pinned (OpenSpec.ofChange envManySpec)

/-- ITS FALSE NEIGHBOUR: 'it returns false'. Refute it at one input. -/
def envManyWrong : ChangeSpec := { name := "envMany", fn := fun _ => fun
  | [d1, d2] => { results := [.lit (.bool false)], args := [d1, d2] }
  | _ => none }
def EnvManyWrongFalsely : Prop := envManyRow.holds Try.pinned (OpenSpec.ofChange envManyWrong)

/- THE SECOND FORM. 'bulk': how many values and letters a reading holds, each counted each time it is reached (what is shared counts as often as it is met; a slice's spare places count too). A statement '..UptoSaid' is the law's where the arguments, and the package variables that the reading takes, are together of bulk at most 1048576: NARROWER than '..Said'. Prove '..Said' where nothing that the law and all that it calls make is longer than what came in: it says more and counts as full. Else prove '..UptoSaid'. A law counts once. -/
mutual
def uptoBulk {H : Type} : DataW H → Nat
  | .lit (.string bytes) => bytes.length + 1
  | .lit _ => 1
  | .nil => 1
  | .ptr d => uptoBulk d + 1
  | .slice elems spare => uptoBulkAll elems + uptoBulkAll spare + 1
  | .agg parts => uptoBulkAll parts + 1
  | .iface _ d => uptoBulk d + 1
  | .map entries => uptoBulkEntries entries + 1
  | .held _ => 1
def uptoBulkAll {H : Type} : List (DataW H) → Nat
  | [] => 0
  | d :: r => uptoBulk d + uptoBulkAll r
def uptoBulkEntries {H : Type} : List (Lit × DataW H) → Nat
  | [] => 0
  | x :: r => uptoBulkEntry x + uptoBulkEntries r
def uptoBulkEntry {H : Type} : Lit × DataW H → Nat
  | (.string bytes, d) => bytes.length + uptoBulk d + 1
  | (_, d) => uptoBulk d + 1
 end
def uptoSmall : (H : Type) → List (DataW H) → Bool := fun _ ds => decide (uptoBulkAll ds ≤ 1048576)
def OpenSpec.upto (s : _root_.Go.ChangeSpec) : _root_.Go.OpenSpec := { _root_.Go.OpenSpec.ofChange s with cond := some uptoSmall }

/-- 'cuecardlaw16.EnvActs', WHERE WHAT IT READS IS OF BULK AT MOST 1048576: true; the input reads as it did. -/
def envActsUptoRow : OpenClaim := { program := "yteapcahpkapbbaa", sum := "3cc2037b2b9b178a8dcb9a56e57020a62e33e3cb445aa184057a486a54a8b1e4", func := "cuecard/cuecardlaw16.EnvActs", spec := "envActs", inPlace := ["internal/bytealg.IndexByteString", "internal/bytealg.IndexString", "internal/abi.NoEscape"], unfollowed := true, recurses := true, named := ["internal/bytealg.MaxLen"], apart := false, narrowed := true }
def EnvActsUptoSaid : Prop := envActsUptoRow.holds Try.pinned (OpenSpec.upto envActsSpec)

/-- 'cuecardlaw16.EnvNumbers', WHERE WHAT IT READS IS OF BULK AT MOST 1048576: true; the input reads as it did. -/
def envNumbersUptoRow : OpenClaim := { program := "yteapcahpkapbbaa", sum := "3cc2037b2b9b178a8dcb9a56e57020a62e33e3cb445aa184057a486a54a8b1e4", func := "cuecard/cuecardlaw16.EnvNumbers", spec := "envNumbers", inPlace := ["internal/bytealg.IndexByteString", "internal/bytealg.IndexString", "internal/abi.NoEscape"], named := ["internal/bytealg.MaxLen"], apart := false, narrowed := true }
def EnvNumbersUptoSaid : Prop := envNumbersUptoRow.holds Try.pinned (OpenSpec.upto envNumbersSpec)

/-- 'cuecardlaw16.EnvNone', WHERE WHAT IT READS IS OF BULK AT MOST 1048576: true; the input reads as it did. -/
def envNoneUptoRow : OpenClaim := { program := "yteapcahpkapbbaa", sum := "3cc2037b2b9b178a8dcb9a56e57020a62e33e3cb445aa184057a486a54a8b1e4", func := "cuecard/cuecardlaw16.EnvNone", spec := "envNone", inPlace := ["internal/bytealg.IndexByteString", "internal/bytealg.IndexString", "internal/abi.NoEscape"], unfollowed := true, recurses := true, named := ["internal/bytealg.MaxLen"], apart := false, narrowed := true }
def EnvNoneUptoSaid : Prop := envNoneUptoRow.holds Try.pinned (OpenSpec.upto envNoneSpec)

/-- 'cuecardlaw16.EnvKeeps', WHERE WHAT IT READS IS OF BULK AT MOST 1048576: true; the input reads as it did. -/
def envKeepsUptoRow : OpenClaim := { program := "yteapcahpkapbbaa", sum := "3cc2037b2b9b178a8dcb9a56e57020a62e33e3cb445aa184057a486a54a8b1e4", func := "cuecard/cuecardlaw16.EnvKeeps", spec := "envKeeps", inPlace := ["internal/bytealg.IndexByteString", "internal/bytealg.IndexString", "internal/abi.NoEscape"], unfollowed := true, recurses := true, named := ["internal/bytealg.MaxLen"], apart := false, narrowed := true }
def EnvKeepsUptoSaid : Prop := envKeepsUptoRow.holds Try.pinned (OpenSpec.upto envKeepsSpec)

/-- 'cuecardlaw16.EnvWords', WHERE WHAT IT READS IS OF BULK AT MOST 1048576: true; the input reads as it did. -/
def envWordsUptoRow : OpenClaim := { program := "yteapcahpkapbbaa", sum := "3cc2037b2b9b178a8dcb9a56e57020a62e33e3cb445aa184057a486a54a8b1e4", func := "cuecard/cuecardlaw16.EnvWords", spec := "envWords", inPlace := ["internal/bytealg.IndexByteString", "internal/bytealg.IndexString", "internal/abi.NoEscape"], unfollowed := true, recurses := true, named := ["internal/bytealg.MaxLen"], apart := false, narrowed := true }
def EnvWordsUptoSaid : Prop := envWordsUptoRow.holds Try.pinned (OpenSpec.upto envWordsSpec)

/-- 'cuecardlaw16.EnvDigits', WHERE WHAT IT READS IS OF BULK AT MOST 1048576: true; the input reads as it did. -/
def envDigitsUptoRow : OpenClaim := { program := "yteapcahpkapbbaa", sum := "3cc2037b2b9b178a8dcb9a56e57020a62e33e3cb445aa184057a486a54a8b1e4", func := "cuecard/cuecardlaw16.EnvDigits", spec := "envDigits", inPlace := ["internal/bytealg.IndexByteString", "internal/bytealg.IndexString", "internal/abi.NoEscape"], named := ["internal/bytealg.MaxLen"], apart := false, narrowed := true }
def EnvDigitsUptoSaid : Prop := envDigitsUptoRow.holds Try.pinned (OpenSpec.upto envDigitsSpec)

/-- 'cuecardlaw16.EnvMany', WHERE WHAT IT READS IS OF BULK AT MOST 1048576: true; the input reads as it did. -/
def envManyUptoRow : OpenClaim := { program := "yteapcahpkapbbaa", sum := "3cc2037b2b9b178a8dcb9a56e57020a62e33e3cb445aa184057a486a54a8b1e4", func := "cuecard/cuecardlaw16.EnvMany", spec := "envMany", inPlace := ["internal/bytealg.IndexByteString", "internal/bytealg.IndexString", "internal/abi.NoEscape"], unfollowed := true, recurses := true, named := ["internal/bytealg.MaxLen"], apart := false, narrowed := true }
def EnvManyUptoSaid : Prop := envManyUptoRow.holds Try.pinned (OpenSpec.upto envManySpec)

end Rows
end Go.Proofs.Yteapcahpkapbbaa
