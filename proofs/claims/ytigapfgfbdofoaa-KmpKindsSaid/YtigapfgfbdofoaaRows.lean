/-
  No cell of these rows narrows 'for every input' (looked for: loops, veiled, ifaces, maps, wideKeys, modest, calm, conditions, laid).
  DERIVED. THE GIVEN ROWS OF THIS SEAT. 7 by the template 'for every input the law returns true; each argument reads behind the call as it read before'; 0 by the template 'total and deterministic' (their statements: YtigapfgfbdofoaaTotals.lean).
  GIVEN WITH THE SEED: the statements are not yours to turn. If you find one false, say at which input.
  Laid BY PROGRAM, IN A SANDBOX (cutbox-rows.mjs): the forced cells as the released guide's own fill.sh prints them over the translation e0e3911a14139a5a… (all of the seat's roots in one cut). By AI agents, Wed Nov 11 2026. No macro, syntax, notation, axiom, sorry.
-/
import Derived.Test.YtigapfgfbdofoaaChecked
import GoSem.Claim
import GoSem.ClaimJoined
import GoSem.ClaimMapViews
import Derived.JoinedTies
import Derived.KernelRfl
namespace Go.Proofs.Ytigapfgfbdofoaa
/- THE CELL 'sum', in the pinned program and in every row, IS THE sha256 OF THE DUMP (.gsa) THAT YtigapfgfbdofoaaProg.lean LOADS. Nothing in Lean hashes anything: it is a label: what it is worth is what the hold of that sum in a sandbox is worth. -/
noncomputable def Try.pinned : Pinned := { name := "ytigapfgfbdofoaa", sum := "e0e3911a14139a5ae2847f1527d68c97c133a0a142fcf8bbf90a3b43b2049817", checked := Try.checked }
namespace Rows
def none {H : Type} : Left H := { results := [], args := [] }

/-- 'cuecardlaw08.KmpPlaces': WHATEVER THE INPUT: true; the input reads as it did. -/
def kmpPlacesSpec : ChangeSpec := { name := "kmpPlaces", fn := fun _ => fun
  | [d1, d2] => { results := [.lit (.bool true)], args := [d1, d2] }
  | _ => none }
def kmpPlacesRow : OpenClaim := { program := "ytigapfgfbdofoaa", sum := "e0e3911a14139a5ae2847f1527d68c97c133a0a142fcf8bbf90a3b43b2049817", func := "cuecard/cuecardlaw08.KmpPlaces", spec := "kmpPlaces", unfollowed := true, recurses := true, apart := false }
def KmpPlacesSaid : Prop := kmpPlacesRow.holds Try.pinned (OpenSpec.ofChange kmpPlacesSpec)

/-- ITS FALSE NEIGHBOUR: 'it returns false'. Refute it at one input. -/
def kmpPlacesWrong : ChangeSpec := { name := "kmpPlaces", fn := fun _ => fun
  | [d1, d2] => { results := [.lit (.bool false)], args := [d1, d2] }
  | _ => none }
def KmpPlacesWrongFalsely : Prop := kmpPlacesRow.holds Try.pinned (OpenSpec.ofChange kmpPlacesWrong)

/-- 'cuecardlaw08.KmpFeeds': WHATEVER THE INPUT: true; the input reads as it did. -/
def kmpFeedsSpec : ChangeSpec := { name := "kmpFeeds", fn := fun _ => fun
  | [d1, d2, d3] => { results := [.lit (.bool true)], args := [d1, d2, d3] }
  | _ => none }
def kmpFeedsRow : OpenClaim := { program := "ytigapfgfbdofoaa", sum := "e0e3911a14139a5ae2847f1527d68c97c133a0a142fcf8bbf90a3b43b2049817", func := "cuecard/cuecardlaw08.KmpFeeds", spec := "kmpFeeds", unfollowed := true, recurses := true, apart := false }
def KmpFeedsSaid : Prop := kmpFeedsRow.holds Try.pinned (OpenSpec.ofChange kmpFeedsSpec)

/-- ITS FALSE NEIGHBOUR: 'it returns false'. Refute it at one input. -/
def kmpFeedsWrong : ChangeSpec := { name := "kmpFeeds", fn := fun _ => fun
  | [d1, d2, d3] => { results := [.lit (.bool false)], args := [d1, d2, d3] }
  | _ => none }
def KmpFeedsWrongFalsely : Prop := kmpFeedsRow.holds Try.pinned (OpenSpec.ofChange kmpFeedsWrong)

/-- 'cuecardlaw08.KmpKinds': WHATEVER THE INPUT: true; the input reads as it did. -/
def kmpKindsSpec : ChangeSpec := { name := "kmpKinds", fn := fun _ => fun
  | [d1, d2] => { results := [.lit (.bool true)], args := [d1, d2] }
  | _ => none }
def kmpKindsRow : OpenClaim := { program := "ytigapfgfbdofoaa", sum := "e0e3911a14139a5ae2847f1527d68c97c133a0a142fcf8bbf90a3b43b2049817", func := "cuecard/cuecardlaw08.KmpKinds", spec := "kmpKinds", unfollowed := true, recurses := true, apart := false }
def KmpKindsSaid : Prop := kmpKindsRow.holds Try.pinned (OpenSpec.ofChange kmpKindsSpec)

/-- ITS FALSE NEIGHBOUR: 'it returns false'. Refute it at one input. -/
def kmpKindsWrong : ChangeSpec := { name := "kmpKinds", fn := fun _ => fun
  | [d1, d2] => { results := [.lit (.bool false)], args := [d1, d2] }
  | _ => none }
def KmpKindsWrongFalsely : Prop := kmpKindsRow.holds Try.pinned (OpenSpec.ofChange kmpKindsWrong)

/-- 'cuecardlaw08.KmpCuts': WHATEVER THE INPUT: true; the input reads as it did. -/
def kmpCutsSpec : ChangeSpec := { name := "kmpCuts", fn := fun _ => fun
  | [d1, d2, d3] => { results := [.lit (.bool true)], args := [d1, d2, d3] }
  | _ => none }
def kmpCutsRow : OpenClaim := { program := "ytigapfgfbdofoaa", sum := "e0e3911a14139a5ae2847f1527d68c97c133a0a142fcf8bbf90a3b43b2049817", func := "cuecard/cuecardlaw08.KmpCuts", spec := "kmpCuts", unfollowed := true, recurses := true, apart := false }
def KmpCutsSaid : Prop := kmpCutsRow.holds Try.pinned (OpenSpec.ofChange kmpCutsSpec)

/-- ITS FALSE NEIGHBOUR: 'it returns false'. Refute it at one input. -/
def kmpCutsWrong : ChangeSpec := { name := "kmpCuts", fn := fun _ => fun
  | [d1, d2, d3] => { results := [.lit (.bool false)], args := [d1, d2, d3] }
  | _ => none }
def KmpCutsWrongFalsely : Prop := kmpCutsRow.holds Try.pinned (OpenSpec.ofChange kmpCutsWrong)

/-- 'cuecardlaw08.KmpBorders': WHATEVER THE INPUT: true; the input reads as it did. -/
def kmpBordersSpec : ChangeSpec := { name := "kmpBorders", fn := fun _ => fun
  | [d] => { results := [.lit (.bool true)], args := [d] }
  | _ => none }
def kmpBordersRow : OpenClaim := { program := "ytigapfgfbdofoaa", sum := "e0e3911a14139a5ae2847f1527d68c97c133a0a142fcf8bbf90a3b43b2049817", func := "cuecard/cuecardlaw08.KmpBorders", spec := "kmpBorders", unfollowed := true, recurses := true, apart := false }
def KmpBordersSaid : Prop := kmpBordersRow.holds Try.pinned (OpenSpec.ofChange kmpBordersSpec)

/-- ITS FALSE NEIGHBOUR: 'it returns false'. Refute it at one input. -/
def kmpBordersWrong : ChangeSpec := { name := "kmpBorders", fn := fun _ => fun
  | [d] => { results := [.lit (.bool false)], args := [d] }
  | _ => none }
def KmpBordersWrongFalsely : Prop := kmpBordersRow.holds Try.pinned (OpenSpec.ofChange kmpBordersWrong)

/-- 'cuecardlaw08.KmpEnds': WHATEVER THE INPUT: true; the input reads as it did. -/
def kmpEndsSpec : ChangeSpec := { name := "kmpEnds", fn := fun _ => fun
  | [d1, d2, d3] => { results := [.lit (.bool true)], args := [d1, d2, d3] }
  | _ => none }
def kmpEndsRow : OpenClaim := { program := "ytigapfgfbdofoaa", sum := "e0e3911a14139a5ae2847f1527d68c97c133a0a142fcf8bbf90a3b43b2049817", func := "cuecard/cuecardlaw08.KmpEnds", spec := "kmpEnds", unfollowed := true, recurses := true, apart := false }
def KmpEndsSaid : Prop := kmpEndsRow.holds Try.pinned (OpenSpec.ofChange kmpEndsSpec)

/-- ITS FALSE NEIGHBOUR: 'it returns false'. Refute it at one input. -/
def kmpEndsWrong : ChangeSpec := { name := "kmpEnds", fn := fun _ => fun
  | [d1, d2, d3] => { results := [.lit (.bool false)], args := [d1, d2, d3] }
  | _ => none }
def KmpEndsWrongFalsely : Prop := kmpEndsRow.holds Try.pinned (OpenSpec.ofChange kmpEndsWrong)

/-- 'cuecardlaw08.KmpJoins': WHATEVER THE INPUT: true; the input reads as it did. -/
def kmpJoinsSpec : ChangeSpec := { name := "kmpJoins", fn := fun _ => fun
  | [d1, d2, d3] => { results := [.lit (.bool true)], args := [d1, d2, d3] }
  | _ => none }
def kmpJoinsRow : OpenClaim := { program := "ytigapfgfbdofoaa", sum := "e0e3911a14139a5ae2847f1527d68c97c133a0a142fcf8bbf90a3b43b2049817", func := "cuecard/cuecardlaw08.KmpJoins", spec := "kmpJoins", unfollowed := true, recurses := true, apart := false }
def KmpJoinsSaid : Prop := kmpJoinsRow.holds Try.pinned (OpenSpec.ofChange kmpJoinsSpec)

/-- ITS FALSE NEIGHBOUR: 'it returns false'. Refute it at one input. -/
def kmpJoinsWrong : ChangeSpec := { name := "kmpJoins", fn := fun _ => fun
  | [d1, d2, d3] => { results := [.lit (.bool false)], args := [d1, d2, d3] }
  | _ => none }
def KmpJoinsWrongFalsely : Prop := kmpJoinsRow.holds Try.pinned (OpenSpec.ofChange kmpJoinsWrong)

/- THE SECOND FORM. 'bulk': how many values and letters a reading holds, each counted each time it is reached (what is shared counts as often as it is met; a slice's spare places count too). A statement '..UptoSaid' is the law's where the arguments, and the package variables that the reading takes, are together of bulk at most 1048576: NARROWER than '..Said'. Prove '..Said' where nothing that the law and all that it calls make is longer than what came in: it says more and counts as full. Else prove '..UptoSaid'. A law counts once. -/
mutual
def uptoBulk {H : Type} : DataW H → Nat
  | .lit (.string bytes) => bytes.length + 1
  | .lit _ => 1
  | .nil => 1
  | .ptr d => uptoBulk d + 1
  | .slice elems spare => uptoBulkAll elems + uptoBulkAll spare + 1
  | .agg parts => uptoBulkAll parts + 1
  | .iface _ d => uptoBulk d + 1
  | .map entries => uptoBulkEntries entries + 1
  | .held _ => 1
def uptoBulkAll {H : Type} : List (DataW H) → Nat
  | [] => 0
  | d :: r => uptoBulk d + uptoBulkAll r
def uptoBulkEntries {H : Type} : List (Lit × DataW H) → Nat
  | [] => 0
  | x :: r => uptoBulkEntry x + uptoBulkEntries r
def uptoBulkEntry {H : Type} : Lit × DataW H → Nat
  | (.string bytes, d) => bytes.length + uptoBulk d + 1
  | (_, d) => uptoBulk d + 1
 end
def uptoSmall : (H : Type) → List (DataW H) → Bool := fun _ ds => decide (uptoBulkAll ds ≤ 1048576)
def OpenSpec.upto (s : _root_.Go.ChangeSpec) : _root_.Go.OpenSpec := { _root_.Go.OpenSpec.ofChange s with cond := some uptoSmall }

/-- 'cuecardlaw08.KmpPlaces', WHERE WHAT IT READS IS OF BULK AT MOST 1048576: true; the input reads as it did. -/
def kmpPlacesUptoRow : OpenClaim := { program := "ytigapfgfbdofoaa", sum := "e0e3911a14139a5ae2847f1527d68c97c133a0a142fcf8bbf90a3b43b2049817", func := "cuecard/cuecardlaw08.KmpPlaces", spec := "kmpPlaces", unfollowed := true, recurses := true, apart := false, narrowed := true }
def KmpPlacesUptoSaid : Prop := kmpPlacesUptoRow.holds Try.pinned (OpenSpec.upto kmpPlacesSpec)

/-- 'cuecardlaw08.KmpFeeds', WHERE WHAT IT READS IS OF BULK AT MOST 1048576: true; the input reads as it did. -/
def kmpFeedsUptoRow : OpenClaim := { program := "ytigapfgfbdofoaa", sum := "e0e3911a14139a5ae2847f1527d68c97c133a0a142fcf8bbf90a3b43b2049817", func := "cuecard/cuecardlaw08.KmpFeeds", spec := "kmpFeeds", unfollowed := true, recurses := true, apart := false, narrowed := true }
def KmpFeedsUptoSaid : Prop := kmpFeedsUptoRow.holds Try.pinned (OpenSpec.upto kmpFeedsSpec)

/-- 'cuecardlaw08.KmpKinds', WHERE WHAT IT READS IS OF BULK AT MOST 1048576: true; the input reads as it did. -/
def kmpKindsUptoRow : OpenClaim := { program := "ytigapfgfbdofoaa", sum := "e0e3911a14139a5ae2847f1527d68c97c133a0a142fcf8bbf90a3b43b2049817", func := "cuecard/cuecardlaw08.KmpKinds", spec := "kmpKinds", unfollowed := true, recurses := true, apart := false, narrowed := true }
def KmpKindsUptoSaid : Prop := kmpKindsUptoRow.holds Try.pinned (OpenSpec.upto kmpKindsSpec)

/-- 'cuecardlaw08.KmpCuts', WHERE WHAT IT READS IS OF BULK AT MOST 1048576: true; the input reads as it did. -/
def kmpCutsUptoRow : OpenClaim := { program := "ytigapfgfbdofoaa", sum := "e0e3911a14139a5ae2847f1527d68c97c133a0a142fcf8bbf90a3b43b2049817", func := "cuecard/cuecardlaw08.KmpCuts", spec := "kmpCuts", unfollowed := true, recurses := true, apart := false, narrowed := true }
def KmpCutsUptoSaid : Prop := kmpCutsUptoRow.holds Try.pinned (OpenSpec.upto kmpCutsSpec)

/-- 'cuecardlaw08.KmpBorders', WHERE WHAT IT READS IS OF BULK AT MOST 1048576: true; the input reads as it did. -/
def kmpBordersUptoRow : OpenClaim := { program := "ytigapfgfbdofoaa", sum := "e0e3911a14139a5ae2847f1527d68c97c133a0a142fcf8bbf90a3b43b2049817", func := "cuecard/cuecardlaw08.KmpBorders", spec := "kmpBorders", unfollowed := true, recurses := true, apart := false, narrowed := true }
def KmpBordersUptoSaid : Prop := kmpBordersUptoRow.holds Try.pinned (OpenSpec.upto kmpBordersSpec)

/-- 'cuecardlaw08.KmpEnds', WHERE WHAT IT READS IS OF BULK AT MOST 1048576: true; the input reads as it did. -/
def kmpEndsUptoRow : OpenClaim := { program := "ytigapfgfbdofoaa", sum := "e0e3911a14139a5ae2847f1527d68c97c133a0a142fcf8bbf90a3b43b2049817", func := "cuecard/cuecardlaw08.KmpEnds", spec := "kmpEnds", unfollowed := true, recurses := true, apart := false, narrowed := true }
def KmpEndsUptoSaid : Prop := kmpEndsUptoRow.holds Try.pinned (OpenSpec.upto kmpEndsSpec)

/-- 'cuecardlaw08.KmpJoins', WHERE WHAT IT READS IS OF BULK AT MOST 1048576: true; the input reads as it did. -/
def kmpJoinsUptoRow : OpenClaim := { program := "ytigapfgfbdofoaa", sum := "e0e3911a14139a5ae2847f1527d68c97c133a0a142fcf8bbf90a3b43b2049817", func := "cuecard/cuecardlaw08.KmpJoins", spec := "kmpJoins", unfollowed := true, recurses := true, apart := false, narrowed := true }
def KmpJoinsUptoSaid : Prop := kmpJoinsUptoRow.holds Try.pinned (OpenSpec.upto kmpJoinsSpec)

end Rows
end Go.Proofs.Ytigapfgfbdofoaa
