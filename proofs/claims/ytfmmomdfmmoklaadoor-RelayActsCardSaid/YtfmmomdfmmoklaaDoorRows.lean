/-
  NARROWER THAN 'FOR EVERY INPUT', by the rows' own cells (each row's printed sentence says how): RelayActs: laid · RelayNews: laid · RelayPrefix: laid · RelayTimes: laid · RelayEnds: laid · RelayOwn: laid.
  DERIVED. THE GIVEN ROWS OF THIS SEAT. 6 by the template 'for every input the law returns true; each argument reads behind the call as it read before'; 0 by the template 'total and deterministic' (their statements: YtfmmomdfmmoklaaDoorTotals.lean).
  GIVEN WITH THE SEED: the statements are not yours to turn. If you find one false, say at which input.
  Laid BY PROGRAM, IN A SANDBOX (cutbox-rows.mjs): the forced cells as the released guide's own fill.sh prints them over the translation 81ed809309e1ba47… (all of the seat's roots in one cut). By AI agents, Wed Nov 11 2026. No macro, syntax, notation, axiom, sorry.
-/
import Derived.Test.YtfmmomdfmmoklaaDoorChecked
import GoSem.Claim
import GoSem.ClaimJoined
import GoSem.ClaimMapViews
import Derived.JoinedTies
import Derived.KernelRfl
namespace Go.Proofs.YtfmmomdfmmoklaaDoor
/- THE CELL 'sum', in the pinned program and in every row, IS THE sha256 OF THE DUMP (.gsa) THAT YtfmmomdfmmoklaaDoorProg.lean LOADS. Nothing in Lean hashes anything: it is a label: what it is worth is what the hold of that sum in a sandbox is worth. -/
noncomputable def Tryd.pinned : Pinned := { name := "ytfmmomdfmmoklaadoor", sum := "81ed809309e1ba4799a412e4c20a86a6827337bfbb0e2f14f9844dde7049f87e", checked := Tryd.checked }
namespace Rows
def none {H : Type} : Left H := { results := [], args := [] }

/- WHAT THE LISTED PACKAGE-LEVEL VARIABLES READ AS WHEN THE CALL BEGINS. Each datum BY PROGRAM (the guide's laid-datum.mjs) off the statement by which the dump's own 'gosem.cut.vars' lays the variable. In a bare row this is a premise. The card (YtfmmomdfmmoklaaDoorCards.lean) ties it to the program's text. -/
def laid_cuecard_pty_other {H : Type} : DataW H := .agg [.lit (.int .i64 1), .lit (.int .i64 0)]

/-- 'cuecardlaw07.RelayActs': WHATEVER THE INPUT: true; the input reads as it did. -/
def relayActsSpec : ChangeSpec := { name := "relayActs", fn := fun _ => fun
  | [d1, d2] => { results := [.lit (.bool true)], args := [d1, d2] }
  | _ => none }
def relayActsRow : OpenClaim := { program := "ytfmmomdfmmoklaadoor", sum := "81ed809309e1ba4799a412e4c20a86a6827337bfbb0e2f14f9844dde7049f87e", func := "cuecard/cuecardlaw07.RelayActs", spec := "relayActs", named := ["cuecard/pty.other"], apart := false, laid := [("cuecard/pty.other", laid_cuecard_pty_other)] }
def RelayActsSaid : Prop := relayActsRow.holds Tryd.pinned (OpenSpec.ofChange relayActsSpec)

/-- ITS FALSE NEIGHBOUR: 'it returns false'. Refute it at one input. -/
def relayActsWrong : ChangeSpec := { name := "relayActs", fn := fun _ => fun
  | [d1, d2] => { results := [.lit (.bool false)], args := [d1, d2] }
  | _ => none }
def RelayActsWrongFalsely : Prop := relayActsRow.holds Tryd.pinned (OpenSpec.ofChange relayActsWrong)

/-- 'cuecardlaw07.RelayNews': WHATEVER THE INPUT: true; the input reads as it did. -/
def relayNewsSpec : ChangeSpec := { name := "relayNews", fn := fun _ => fun
  | [d1, d2, d3] => { results := [.lit (.bool true)], args := [d1, d2, d3] }
  | _ => none }
def relayNewsRow : OpenClaim := { program := "ytfmmomdfmmoklaadoor", sum := "81ed809309e1ba4799a412e4c20a86a6827337bfbb0e2f14f9844dde7049f87e", func := "cuecard/cuecardlaw07.RelayNews", spec := "relayNews", named := ["cuecard/pty.other"], apart := false, laid := [("cuecard/pty.other", laid_cuecard_pty_other)] }
def RelayNewsSaid : Prop := relayNewsRow.holds Tryd.pinned (OpenSpec.ofChange relayNewsSpec)

/-- ITS FALSE NEIGHBOUR: 'it returns false'. Refute it at one input. -/
def relayNewsWrong : ChangeSpec := { name := "relayNews", fn := fun _ => fun
  | [d1, d2, d3] => { results := [.lit (.bool false)], args := [d1, d2, d3] }
  | _ => none }
def RelayNewsWrongFalsely : Prop := relayNewsRow.holds Tryd.pinned (OpenSpec.ofChange relayNewsWrong)

/-- 'cuecardlaw07.RelayPrefix': WHATEVER THE INPUT: true; the input reads as it did. -/
def relayPrefixSpec : ChangeSpec := { name := "relayPrefix", fn := fun _ => fun
  | [d1, d2] => { results := [.lit (.bool true)], args := [d1, d2] }
  | _ => none }
def relayPrefixRow : OpenClaim := { program := "ytfmmomdfmmoklaadoor", sum := "81ed809309e1ba4799a412e4c20a86a6827337bfbb0e2f14f9844dde7049f87e", func := "cuecard/cuecardlaw07.RelayPrefix", spec := "relayPrefix", named := ["cuecard/pty.other"], apart := false, laid := [("cuecard/pty.other", laid_cuecard_pty_other)] }
def RelayPrefixSaid : Prop := relayPrefixRow.holds Tryd.pinned (OpenSpec.ofChange relayPrefixSpec)

/-- ITS FALSE NEIGHBOUR: 'it returns false'. Refute it at one input. -/
def relayPrefixWrong : ChangeSpec := { name := "relayPrefix", fn := fun _ => fun
  | [d1, d2] => { results := [.lit (.bool false)], args := [d1, d2] }
  | _ => none }
def RelayPrefixWrongFalsely : Prop := relayPrefixRow.holds Tryd.pinned (OpenSpec.ofChange relayPrefixWrong)

/-- 'cuecardlaw07.RelayTimes': WHATEVER THE INPUT: true; the input reads as it did. -/
def relayTimesSpec : ChangeSpec := { name := "relayTimes", fn := fun _ => fun
  | [d1, d2] => { results := [.lit (.bool true)], args := [d1, d2] }
  | _ => none }
def relayTimesRow : OpenClaim := { program := "ytfmmomdfmmoklaadoor", sum := "81ed809309e1ba4799a412e4c20a86a6827337bfbb0e2f14f9844dde7049f87e", func := "cuecard/cuecardlaw07.RelayTimes", spec := "relayTimes", named := ["cuecard/pty.other"], apart := false, laid := [("cuecard/pty.other", laid_cuecard_pty_other)] }
def RelayTimesSaid : Prop := relayTimesRow.holds Tryd.pinned (OpenSpec.ofChange relayTimesSpec)

/-- ITS FALSE NEIGHBOUR: 'it returns false'. Refute it at one input. -/
def relayTimesWrong : ChangeSpec := { name := "relayTimes", fn := fun _ => fun
  | [d1, d2] => { results := [.lit (.bool false)], args := [d1, d2] }
  | _ => none }
def RelayTimesWrongFalsely : Prop := relayTimesRow.holds Tryd.pinned (OpenSpec.ofChange relayTimesWrong)

/-- 'cuecardlaw07.RelayEnds': WHATEVER THE INPUT: true; the input reads as it did. -/
def relayEndsSpec : ChangeSpec := { name := "relayEnds", fn := fun _ => fun
  | [d1, d2, d3] => { results := [.lit (.bool true)], args := [d1, d2, d3] }
  | _ => none }
def relayEndsRow : OpenClaim := { program := "ytfmmomdfmmoklaadoor", sum := "81ed809309e1ba4799a412e4c20a86a6827337bfbb0e2f14f9844dde7049f87e", func := "cuecard/cuecardlaw07.RelayEnds", spec := "relayEnds", named := ["cuecard/pty.other"], apart := false, laid := [("cuecard/pty.other", laid_cuecard_pty_other)] }
def RelayEndsSaid : Prop := relayEndsRow.holds Tryd.pinned (OpenSpec.ofChange relayEndsSpec)

/-- ITS FALSE NEIGHBOUR: 'it returns false'. Refute it at one input. -/
def relayEndsWrong : ChangeSpec := { name := "relayEnds", fn := fun _ => fun
  | [d1, d2, d3] => { results := [.lit (.bool false)], args := [d1, d2, d3] }
  | _ => none }
def RelayEndsWrongFalsely : Prop := relayEndsRow.holds Tryd.pinned (OpenSpec.ofChange relayEndsWrong)

/-- 'cuecardlaw07.RelayOwn': WHATEVER THE INPUT: true; the input reads as it did. -/
def relayOwnSpec : ChangeSpec := { name := "relayOwn", fn := fun _ => fun
  | [d1, d2] => { results := [.lit (.bool true)], args := [d1, d2] }
  | _ => none }
def relayOwnRow : OpenClaim := { program := "ytfmmomdfmmoklaadoor", sum := "81ed809309e1ba4799a412e4c20a86a6827337bfbb0e2f14f9844dde7049f87e", func := "cuecard/cuecardlaw07.RelayOwn", spec := "relayOwn", named := ["cuecard/pty.other"], apart := false, laid := [("cuecard/pty.other", laid_cuecard_pty_other)] }
def RelayOwnSaid : Prop := relayOwnRow.holds Tryd.pinned (OpenSpec.ofChange relayOwnSpec)

/-- ITS FALSE NEIGHBOUR: 'it returns false'. Refute it at one input. -/
def relayOwnWrong : ChangeSpec := { name := "relayOwn", fn := fun _ => fun
  | [d1, d2] => { results := [.lit (.bool false)], args := [d1, d2] }
  | _ => none }
def RelayOwnWrongFalsely : Prop := relayOwnRow.holds Tryd.pinned (OpenSpec.ofChange relayOwnWrong)

/- THE SECOND FORM. 'bulk': how many values and letters a reading holds, each counted each time it is reached (what is shared counts as often as it is met; a slice's spare places count too). A statement '..UptoSaid' is the law's where the arguments, and the package variables that the reading takes, are together of bulk at most 1048576: NARROWER than '..Said'. Prove '..Said' where nothing that the law and all that it calls make is longer than what came in: it says more and counts as full. Else prove '..UptoSaid'. A law counts once. -/
mutual
def uptoBulk {H : Type} : DataW H → Nat
  | .lit (.string bytes) => bytes.length + 1
  | .lit _ => 1
  | .nil => 1
  | .ptr d => uptoBulk d + 1
  | .slice elems spare => uptoBulkAll elems + uptoBulkAll spare + 1
  | .agg parts => uptoBulkAll parts + 1
  | .iface _ d => uptoBulk d + 1
  | .map entries => uptoBulkEntries entries + 1
  | .held _ => 1
def uptoBulkAll {H : Type} : List (DataW H) → Nat
  | [] => 0
  | d :: r => uptoBulk d + uptoBulkAll r
def uptoBulkEntries {H : Type} : List (Lit × DataW H) → Nat
  | [] => 0
  | x :: r => uptoBulkEntry x + uptoBulkEntries r
def uptoBulkEntry {H : Type} : Lit × DataW H → Nat
  | (.string bytes, d) => bytes.length + uptoBulk d + 1
  | (_, d) => uptoBulk d + 1
 end
def uptoSmall : (H : Type) → List (DataW H) → Bool := fun _ ds => decide (uptoBulkAll ds ≤ 1048576)
def OpenSpec.upto (s : _root_.Go.ChangeSpec) : _root_.Go.OpenSpec := { _root_.Go.OpenSpec.ofChange s with cond := some uptoSmall }

/-- 'cuecardlaw07.RelayActs', WHERE WHAT IT READS IS OF BULK AT MOST 1048576: true; the input reads as it did. -/
def relayActsUptoRow : OpenClaim := { program := "ytfmmomdfmmoklaadoor", sum := "81ed809309e1ba4799a412e4c20a86a6827337bfbb0e2f14f9844dde7049f87e", func := "cuecard/cuecardlaw07.RelayActs", spec := "relayActs", named := ["cuecard/pty.other"], apart := false, laid := [("cuecard/pty.other", laid_cuecard_pty_other)], narrowed := true }
def RelayActsUptoSaid : Prop := relayActsUptoRow.holds Tryd.pinned (OpenSpec.upto relayActsSpec)

/-- 'cuecardlaw07.RelayNews', WHERE WHAT IT READS IS OF BULK AT MOST 1048576: true; the input reads as it did. -/
def relayNewsUptoRow : OpenClaim := { program := "ytfmmomdfmmoklaadoor", sum := "81ed809309e1ba4799a412e4c20a86a6827337bfbb0e2f14f9844dde7049f87e", func := "cuecard/cuecardlaw07.RelayNews", spec := "relayNews", named := ["cuecard/pty.other"], apart := false, laid := [("cuecard/pty.other", laid_cuecard_pty_other)], narrowed := true }
def RelayNewsUptoSaid : Prop := relayNewsUptoRow.holds Tryd.pinned (OpenSpec.upto relayNewsSpec)

/-- 'cuecardlaw07.RelayPrefix', WHERE WHAT IT READS IS OF BULK AT MOST 1048576: true; the input reads as it did. -/
def relayPrefixUptoRow : OpenClaim := { program := "ytfmmomdfmmoklaadoor", sum := "81ed809309e1ba4799a412e4c20a86a6827337bfbb0e2f14f9844dde7049f87e", func := "cuecard/cuecardlaw07.RelayPrefix", spec := "relayPrefix", named := ["cuecard/pty.other"], apart := false, laid := [("cuecard/pty.other", laid_cuecard_pty_other)], narrowed := true }
def RelayPrefixUptoSaid : Prop := relayPrefixUptoRow.holds Tryd.pinned (OpenSpec.upto relayPrefixSpec)

/-- 'cuecardlaw07.RelayTimes', WHERE WHAT IT READS IS OF BULK AT MOST 1048576: true; the input reads as it did. -/
def relayTimesUptoRow : OpenClaim := { program := "ytfmmomdfmmoklaadoor", sum := "81ed809309e1ba4799a412e4c20a86a6827337bfbb0e2f14f9844dde7049f87e", func := "cuecard/cuecardlaw07.RelayTimes", spec := "relayTimes", named := ["cuecard/pty.other"], apart := false, laid := [("cuecard/pty.other", laid_cuecard_pty_other)], narrowed := true }
def RelayTimesUptoSaid : Prop := relayTimesUptoRow.holds Tryd.pinned (OpenSpec.upto relayTimesSpec)

/-- 'cuecardlaw07.RelayEnds', WHERE WHAT IT READS IS OF BULK AT MOST 1048576: true; the input reads as it did. -/
def relayEndsUptoRow : OpenClaim := { program := "ytfmmomdfmmoklaadoor", sum := "81ed809309e1ba4799a412e4c20a86a6827337bfbb0e2f14f9844dde7049f87e", func := "cuecard/cuecardlaw07.RelayEnds", spec := "relayEnds", named := ["cuecard/pty.other"], apart := false, laid := [("cuecard/pty.other", laid_cuecard_pty_other)], narrowed := true }
def RelayEndsUptoSaid : Prop := relayEndsUptoRow.holds Tryd.pinned (OpenSpec.upto relayEndsSpec)

/-- 'cuecardlaw07.RelayOwn', WHERE WHAT IT READS IS OF BULK AT MOST 1048576: true; the input reads as it did. -/
def relayOwnUptoRow : OpenClaim := { program := "ytfmmomdfmmoklaadoor", sum := "81ed809309e1ba4799a412e4c20a86a6827337bfbb0e2f14f9844dde7049f87e", func := "cuecard/cuecardlaw07.RelayOwn", spec := "relayOwn", named := ["cuecard/pty.other"], apart := false, laid := [("cuecard/pty.other", laid_cuecard_pty_other)], narrowed := true }
def RelayOwnUptoSaid : Prop := relayOwnUptoRow.holds Tryd.pinned (OpenSpec.upto relayOwnSpec)

end Rows
end Go.Proofs.YtfmmomdfmmoklaaDoor
