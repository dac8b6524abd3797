/-
  NARROWER THAN 'FOR EVERY INPUT', by the rows' own cells (each row's printed sentence says how): PtyActs: laid · PtyNews: laid · PtyPrefix: laid · PtyWays: laid · PtyWhole: laid.
  DERIVED. THE GIVEN ROWS OF THIS SEAT. 5 by the template 'for every input the law returns true; each argument reads behind the call as it read before'; 0 by the template 'total and deterministic' (their statements: YtniikeciccfjoaaDoorTotals.lean).
  GIVEN WITH THE SEED: the statements are not yours to turn. If you find one false, say at which input.
  Laid BY PROGRAM, IN A SANDBOX (cutbox-rows.mjs): the forced cells as the released guide's own fill.sh prints them over the translation 038fa8fbfbe648ce… (all of the seat's roots in one cut). By AI agents, Wed Nov 11 2026. No macro, syntax, notation, axiom, sorry.
-/
import Derived.Test.YtniikeciccfjoaaDoorChecked
import GoSem.Claim
import GoSem.ClaimJoined
import GoSem.ClaimMapViews
import Derived.JoinedTies
import Derived.KernelRfl
namespace Go.Proofs.YtniikeciccfjoaaDoor
/- THE CELL 'sum', in the pinned program and in every row, IS THE sha256 OF THE DUMP (.gsa) THAT YtniikeciccfjoaaDoorProg.lean LOADS. Nothing in Lean hashes anything: it is a label: what it is worth is what the hold of that sum in a sandbox is worth. -/
noncomputable def Tryd.pinned : Pinned := { name := "ytniikeciccfjoaadoor", sum := "038fa8fbfbe648ce538e89eaf90ad2ce0fa71d56e44cdaddc6a60fbd9ee23fa5", checked := Tryd.checked }
namespace Rows
def none {H : Type} : Left H := { results := [], args := [] }

/- WHAT THE LISTED PACKAGE-LEVEL VARIABLES READ AS WHEN THE CALL BEGINS. Each datum BY PROGRAM (the guide's laid-datum.mjs) off the statement by which the dump's own 'gosem.cut.vars' lays the variable. In a bare row this is a premise. The card (YtniikeciccfjoaaDoorCards.lean) ties it to the program's text. -/
def laid_cuecard_pty_other {H : Type} : DataW H := .agg [.lit (.int .i64 1), .lit (.int .i64 0)]

/-- 'cuecardlaw06.PtyActs': WHATEVER THE INPUT: true; the input reads as it did. -/
def ptyActsSpec : ChangeSpec := { name := "ptyActs", fn := fun _ => fun
  | [d1, d2] => { results := [.lit (.bool true)], args := [d1, d2] }
  | _ => none }
def ptyActsRow : OpenClaim := { program := "ytniikeciccfjoaadoor", sum := "038fa8fbfbe648ce538e89eaf90ad2ce0fa71d56e44cdaddc6a60fbd9ee23fa5", func := "cuecard/cuecardlaw06.PtyActs", spec := "ptyActs", named := ["cuecard/pty.other"], apart := false, laid := [("cuecard/pty.other", laid_cuecard_pty_other)] }
def PtyActsSaid : Prop := ptyActsRow.holds Tryd.pinned (OpenSpec.ofChange ptyActsSpec)

/-- ITS FALSE NEIGHBOUR: 'it returns false'. Refute it at one input. -/
def ptyActsWrong : ChangeSpec := { name := "ptyActs", fn := fun _ => fun
  | [d1, d2] => { results := [.lit (.bool false)], args := [d1, d2] }
  | _ => none }
def PtyActsWrongFalsely : Prop := ptyActsRow.holds Tryd.pinned (OpenSpec.ofChange ptyActsWrong)

/-- 'cuecardlaw06.PtyNews': WHATEVER THE INPUT: true; the input reads as it did. -/
def ptyNewsSpec : ChangeSpec := { name := "ptyNews", fn := fun _ => fun
  | [d1, d2] => { results := [.lit (.bool true)], args := [d1, d2] }
  | _ => none }
def ptyNewsRow : OpenClaim := { program := "ytniikeciccfjoaadoor", sum := "038fa8fbfbe648ce538e89eaf90ad2ce0fa71d56e44cdaddc6a60fbd9ee23fa5", func := "cuecard/cuecardlaw06.PtyNews", spec := "ptyNews", named := ["cuecard/pty.other"], apart := false, laid := [("cuecard/pty.other", laid_cuecard_pty_other)] }
def PtyNewsSaid : Prop := ptyNewsRow.holds Tryd.pinned (OpenSpec.ofChange ptyNewsSpec)

/-- ITS FALSE NEIGHBOUR: 'it returns false'. Refute it at one input. -/
def ptyNewsWrong : ChangeSpec := { name := "ptyNews", fn := fun _ => fun
  | [d1, d2] => { results := [.lit (.bool false)], args := [d1, d2] }
  | _ => none }
def PtyNewsWrongFalsely : Prop := ptyNewsRow.holds Tryd.pinned (OpenSpec.ofChange ptyNewsWrong)

/-- 'cuecardlaw06.PtyPrefix': WHATEVER THE INPUT: true; the input reads as it did. -/
def ptyPrefixSpec : ChangeSpec := { name := "ptyPrefix", fn := fun _ => fun
  | [d1, d2] => { results := [.lit (.bool true)], args := [d1, d2] }
  | _ => none }
def ptyPrefixRow : OpenClaim := { program := "ytniikeciccfjoaadoor", sum := "038fa8fbfbe648ce538e89eaf90ad2ce0fa71d56e44cdaddc6a60fbd9ee23fa5", func := "cuecard/cuecardlaw06.PtyPrefix", spec := "ptyPrefix", named := ["cuecard/pty.other"], apart := false, laid := [("cuecard/pty.other", laid_cuecard_pty_other)] }
def PtyPrefixSaid : Prop := ptyPrefixRow.holds Tryd.pinned (OpenSpec.ofChange ptyPrefixSpec)

/-- ITS FALSE NEIGHBOUR: 'it returns false'. Refute it at one input. -/
def ptyPrefixWrong : ChangeSpec := { name := "ptyPrefix", fn := fun _ => fun
  | [d1, d2] => { results := [.lit (.bool false)], args := [d1, d2] }
  | _ => none }
def PtyPrefixWrongFalsely : Prop := ptyPrefixRow.holds Tryd.pinned (OpenSpec.ofChange ptyPrefixWrong)

/-- 'cuecardlaw06.PtyWays': WHATEVER THE INPUT: true; the input reads as it did. -/
def ptyWaysSpec : ChangeSpec := { name := "ptyWays", fn := fun _ => fun
  | [d1, d2, d3] => { results := [.lit (.bool true)], args := [d1, d2, d3] }
  | _ => none }
def ptyWaysRow : OpenClaim := { program := "ytniikeciccfjoaadoor", sum := "038fa8fbfbe648ce538e89eaf90ad2ce0fa71d56e44cdaddc6a60fbd9ee23fa5", func := "cuecard/cuecardlaw06.PtyWays", spec := "ptyWays", named := ["cuecard/pty.other"], apart := false, laid := [("cuecard/pty.other", laid_cuecard_pty_other)] }
def PtyWaysSaid : Prop := ptyWaysRow.holds Tryd.pinned (OpenSpec.ofChange ptyWaysSpec)

/-- ITS FALSE NEIGHBOUR: 'it returns false'. Refute it at one input. -/
def ptyWaysWrong : ChangeSpec := { name := "ptyWays", fn := fun _ => fun
  | [d1, d2, d3] => { results := [.lit (.bool false)], args := [d1, d2, d3] }
  | _ => none }
def PtyWaysWrongFalsely : Prop := ptyWaysRow.holds Tryd.pinned (OpenSpec.ofChange ptyWaysWrong)

/-- 'cuecardlaw06.PtyWhole': WHATEVER THE INPUT: true; the input reads as it did. -/
def ptyWholeSpec : ChangeSpec := { name := "ptyWhole", fn := fun _ => fun
  | [d1, d2, d3] => { results := [.lit (.bool true)], args := [d1, d2, d3] }
  | _ => none }
def ptyWholeRow : OpenClaim := { program := "ytniikeciccfjoaadoor", sum := "038fa8fbfbe648ce538e89eaf90ad2ce0fa71d56e44cdaddc6a60fbd9ee23fa5", func := "cuecard/cuecardlaw06.PtyWhole", spec := "ptyWhole", named := ["cuecard/pty.other"], apart := false, laid := [("cuecard/pty.other", laid_cuecard_pty_other)] }
def PtyWholeSaid : Prop := ptyWholeRow.holds Tryd.pinned (OpenSpec.ofChange ptyWholeSpec)

/-- ITS FALSE NEIGHBOUR: 'it returns false'. Refute it at one input. -/
def ptyWholeWrong : ChangeSpec := { name := "ptyWhole", fn := fun _ => fun
  | [d1, d2, d3] => { results := [.lit (.bool false)], args := [d1, d2, d3] }
  | _ => none }
def PtyWholeWrongFalsely : Prop := ptyWholeRow.holds Tryd.pinned (OpenSpec.ofChange ptyWholeWrong)

/- THE SECOND FORM. 'bulk': how many values and letters a reading holds, each counted each time it is reached (what is shared counts as often as it is met; a slice's spare places count too). A statement '..UptoSaid' is the law's where the arguments, and the package variables that the reading takes, are together of bulk at most 1048576: NARROWER than '..Said'. Prove '..Said' where nothing that the law and all that it calls make is longer than what came in: it says more and counts as full. Else prove '..UptoSaid'. A law counts once. -/
mutual
def uptoBulk {H : Type} : DataW H → Nat
  | .lit (.string bytes) => bytes.length + 1
  | .lit _ => 1
  | .nil => 1
  | .ptr d => uptoBulk d + 1
  | .slice elems spare => uptoBulkAll elems + uptoBulkAll spare + 1
  | .agg parts => uptoBulkAll parts + 1
  | .iface _ d => uptoBulk d + 1
  | .map entries => uptoBulkEntries entries + 1
  | .held _ => 1
def uptoBulkAll {H : Type} : List (DataW H) → Nat
  | [] => 0
  | d :: r => uptoBulk d + uptoBulkAll r
def uptoBulkEntries {H : Type} : List (Lit × DataW H) → Nat
  | [] => 0
  | x :: r => uptoBulkEntry x + uptoBulkEntries r
def uptoBulkEntry {H : Type} : Lit × DataW H → Nat
  | (.string bytes, d) => bytes.length + uptoBulk d + 1
  | (_, d) => uptoBulk d + 1
 end
def uptoSmall : (H : Type) → List (DataW H) → Bool := fun _ ds => decide (uptoBulkAll ds ≤ 1048576)
def OpenSpec.upto (s : _root_.Go.ChangeSpec) : _root_.Go.OpenSpec := { _root_.Go.OpenSpec.ofChange s with cond := some uptoSmall }

/-- 'cuecardlaw06.PtyActs', WHERE WHAT IT READS IS OF BULK AT MOST 1048576: true; the input reads as it did. -/
def ptyActsUptoRow : OpenClaim := { program := "ytniikeciccfjoaadoor", sum := "038fa8fbfbe648ce538e89eaf90ad2ce0fa71d56e44cdaddc6a60fbd9ee23fa5", func := "cuecard/cuecardlaw06.PtyActs", spec := "ptyActs", named := ["cuecard/pty.other"], apart := false, laid := [("cuecard/pty.other", laid_cuecard_pty_other)], narrowed := true }
def PtyActsUptoSaid : Prop := ptyActsUptoRow.holds Tryd.pinned (OpenSpec.upto ptyActsSpec)

/-- 'cuecardlaw06.PtyNews', WHERE WHAT IT READS IS OF BULK AT MOST 1048576: true; the input reads as it did. -/
def ptyNewsUptoRow : OpenClaim := { program := "ytniikeciccfjoaadoor", sum := "038fa8fbfbe648ce538e89eaf90ad2ce0fa71d56e44cdaddc6a60fbd9ee23fa5", func := "cuecard/cuecardlaw06.PtyNews", spec := "ptyNews", named := ["cuecard/pty.other"], apart := false, laid := [("cuecard/pty.other", laid_cuecard_pty_other)], narrowed := true }
def PtyNewsUptoSaid : Prop := ptyNewsUptoRow.holds Tryd.pinned (OpenSpec.upto ptyNewsSpec)

/-- 'cuecardlaw06.PtyPrefix', WHERE WHAT IT READS IS OF BULK AT MOST 1048576: true; the input reads as it did. -/
def ptyPrefixUptoRow : OpenClaim := { program := "ytniikeciccfjoaadoor", sum := "038fa8fbfbe648ce538e89eaf90ad2ce0fa71d56e44cdaddc6a60fbd9ee23fa5", func := "cuecard/cuecardlaw06.PtyPrefix", spec := "ptyPrefix", named := ["cuecard/pty.other"], apart := false, laid := [("cuecard/pty.other", laid_cuecard_pty_other)], narrowed := true }
def PtyPrefixUptoSaid : Prop := ptyPrefixUptoRow.holds Tryd.pinned (OpenSpec.upto ptyPrefixSpec)

/-- 'cuecardlaw06.PtyWays', WHERE WHAT IT READS IS OF BULK AT MOST 1048576: true; the input reads as it did. -/
def ptyWaysUptoRow : OpenClaim := { program := "ytniikeciccfjoaadoor", sum := "038fa8fbfbe648ce538e89eaf90ad2ce0fa71d56e44cdaddc6a60fbd9ee23fa5", func := "cuecard/cuecardlaw06.PtyWays", spec := "ptyWays", named := ["cuecard/pty.other"], apart := false, laid := [("cuecard/pty.other", laid_cuecard_pty_other)], narrowed := true }
def PtyWaysUptoSaid : Prop := ptyWaysUptoRow.holds Tryd.pinned (OpenSpec.upto ptyWaysSpec)

/-- 'cuecardlaw06.PtyWhole', WHERE WHAT IT READS IS OF BULK AT MOST 1048576: true; the input reads as it did. -/
def ptyWholeUptoRow : OpenClaim := { program := "ytniikeciccfjoaadoor", sum := "038fa8fbfbe648ce538e89eaf90ad2ce0fa71d56e44cdaddc6a60fbd9ee23fa5", func := "cuecard/cuecardlaw06.PtyWhole", spec := "ptyWhole", named := ["cuecard/pty.other"], apart := false, laid := [("cuecard/pty.other", laid_cuecard_pty_other)], narrowed := true }
def PtyWholeUptoSaid : Prop := ptyWholeUptoRow.holds Tryd.pinned (OpenSpec.upto ptyWholeSpec)

end Rows
end Go.Proofs.YtniikeciccfjoaaDoor
