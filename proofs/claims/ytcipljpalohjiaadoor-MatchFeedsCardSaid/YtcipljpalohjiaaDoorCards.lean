/-
  DERIVED. GIVEN WITH THE SEED: THE CARDS: each row of YtcipljpalohjiaaDoorRows.lean that lists a variable, with what it lists TIED to the program's text (the seventh form; the later family's looks); each row that meets fmt, with fmt's text TOLD by the authors' own Lean function (tested against real Go, not proved from fmt's source: count such statements apart). THE CARD IS WHAT COUNTS. Prove the row's statement (the work); the ties are given (YtcipljpalohjiaaDoorTie.lean); close each card by the builder's one call (the guide's Derived/Test/ToyasCard.lean, 'card_holds'). Laid BY PROGRAM, IN A SANDBOX (cutbox-door.mjs). By AI agents, Wed Nov 11 2026. No macro, syntax, notation, axiom, sorry.
-/
import Derived.Test.YtcipljpalohjiaaDoorRows
import GoSem.ClaimSeven
namespace Go.Proofs.YtcipljpalohjiaaDoor
namespace Rows

/-- THE TIED CARD OF 'cuecardlaw15.MatchFeeds'. -/
def matchFeedsCard : Claim7 := { stood := { row := matchFeedsRow, standIns := [], harness := (true, "438016eecaf08f894837c66d3d24e12b431e7892d6dd9ff29b64254bc0f541ac"), looks := false }, kinds := [], alts := [], laidByText := true, laidKinds := [.data], laidTests := true, laidLooks := .later }
def MatchFeedsCardSaid : Prop := Claim7.holds Tryd.pinned (.plain (OpenSpec.ofChange matchFeedsSpec)) matchFeedsCard

/-- THE TIED CARD OF 'cuecardlaw15.MatchFirst'. -/
def matchFirstCard : Claim7 := { stood := { row := matchFirstRow, standIns := [], harness := (true, "438016eecaf08f894837c66d3d24e12b431e7892d6dd9ff29b64254bc0f541ac"), looks := false }, kinds := [], alts := [], laidByText := true, laidKinds := [.data], laidTests := true, laidLooks := .later }
def MatchFirstCardSaid : Prop := Claim7.holds Tryd.pinned (.plain (OpenSpec.ofChange matchFirstSpec)) matchFirstCard

/-- THE TIED CARD OF 'cuecardlaw15.MatchExact'. -/
def matchExactCard : Claim7 := { stood := { row := matchExactRow, standIns := [], harness := (true, "438016eecaf08f894837c66d3d24e12b431e7892d6dd9ff29b64254bc0f541ac"), looks := false }, kinds := [], alts := [], laidByText := true, laidKinds := [.data], laidTests := true, laidLooks := .later }
def MatchExactCardSaid : Prop := Claim7.holds Tryd.pinned (.plain (OpenSpec.ofChange matchExactSpec)) matchExactCard

/-- THE TIED CARD OF 'cuecardlaw15.MatchMore'. -/
def matchMoreCard : Claim7 := { stood := { row := matchMoreRow, standIns := [], harness := (true, "438016eecaf08f894837c66d3d24e12b431e7892d6dd9ff29b64254bc0f541ac"), looks := false }, kinds := [], alts := [], laidByText := true, laidKinds := [.data], laidTests := true, laidLooks := .later }
def MatchMoreCardSaid : Prop := Claim7.holds Tryd.pinned (.plain (OpenSpec.ofChange matchMoreSpec)) matchMoreCard

/-- THE TIED CARD OF 'cuecardlaw15.MatchSpan'. -/
def matchSpanCard : Claim7 := { stood := { row := matchSpanRow, standIns := [], harness := (true, "438016eecaf08f894837c66d3d24e12b431e7892d6dd9ff29b64254bc0f541ac"), looks := false }, kinds := [], alts := [], laidByText := true, laidKinds := [.data], laidTests := true, laidLooks := .later }
def MatchSpanCardSaid : Prop := Claim7.holds Tryd.pinned (.plain (OpenSpec.ofChange matchSpanSpec)) matchSpanCard

/-- THE TIED CARD OF 'cuecardlaw15.MatchBehind'. -/
def matchBehindCard : Claim7 := { stood := { row := matchBehindRow, standIns := [], harness := (true, "438016eecaf08f894837c66d3d24e12b431e7892d6dd9ff29b64254bc0f541ac"), looks := false }, kinds := [], alts := [], laidByText := true, laidKinds := [.data], laidTests := true, laidLooks := .later }
def MatchBehindCardSaid : Prop := Claim7.holds Tryd.pinned (.plain (OpenSpec.ofChange matchBehindSpec)) matchBehindCard

/-- THE SECOND FORM's CARD OF 'cuecardlaw15.MatchFeeds'. -/
def matchFeedsUptoCard : Claim7 := { stood := { row := matchFeedsUptoRow, standIns := [], harness := (true, "438016eecaf08f894837c66d3d24e12b431e7892d6dd9ff29b64254bc0f541ac"), looks := false }, kinds := [], alts := [], laidByText := true, laidKinds := [.data], laidTests := true, laidLooks := .later }
def MatchFeedsUptoCardSaid : Prop := Claim7.holds Tryd.pinned (.plain (OpenSpec.upto matchFeedsSpec)) matchFeedsUptoCard

/-- THE SECOND FORM's CARD OF 'cuecardlaw15.MatchFirst'. -/
def matchFirstUptoCard : Claim7 := { stood := { row := matchFirstUptoRow, standIns := [], harness := (true, "438016eecaf08f894837c66d3d24e12b431e7892d6dd9ff29b64254bc0f541ac"), looks := false }, kinds := [], alts := [], laidByText := true, laidKinds := [.data], laidTests := true, laidLooks := .later }
def MatchFirstUptoCardSaid : Prop := Claim7.holds Tryd.pinned (.plain (OpenSpec.upto matchFirstSpec)) matchFirstUptoCard

/-- THE SECOND FORM's CARD OF 'cuecardlaw15.MatchExact'. -/
def matchExactUptoCard : Claim7 := { stood := { row := matchExactUptoRow, standIns := [], harness := (true, "438016eecaf08f894837c66d3d24e12b431e7892d6dd9ff29b64254bc0f541ac"), looks := false }, kinds := [], alts := [], laidByText := true, laidKinds := [.data], laidTests := true, laidLooks := .later }
def MatchExactUptoCardSaid : Prop := Claim7.holds Tryd.pinned (.plain (OpenSpec.upto matchExactSpec)) matchExactUptoCard

/-- THE SECOND FORM's CARD OF 'cuecardlaw15.MatchMore'. -/
def matchMoreUptoCard : Claim7 := { stood := { row := matchMoreUptoRow, standIns := [], harness := (true, "438016eecaf08f894837c66d3d24e12b431e7892d6dd9ff29b64254bc0f541ac"), looks := false }, kinds := [], alts := [], laidByText := true, laidKinds := [.data], laidTests := true, laidLooks := .later }
def MatchMoreUptoCardSaid : Prop := Claim7.holds Tryd.pinned (.plain (OpenSpec.upto matchMoreSpec)) matchMoreUptoCard

/-- THE SECOND FORM's CARD OF 'cuecardlaw15.MatchSpan'. -/
def matchSpanUptoCard : Claim7 := { stood := { row := matchSpanUptoRow, standIns := [], harness := (true, "438016eecaf08f894837c66d3d24e12b431e7892d6dd9ff29b64254bc0f541ac"), looks := false }, kinds := [], alts := [], laidByText := true, laidKinds := [.data], laidTests := true, laidLooks := .later }
def MatchSpanUptoCardSaid : Prop := Claim7.holds Tryd.pinned (.plain (OpenSpec.upto matchSpanSpec)) matchSpanUptoCard

/-- THE SECOND FORM's CARD OF 'cuecardlaw15.MatchBehind'. -/
def matchBehindUptoCard : Claim7 := { stood := { row := matchBehindUptoRow, standIns := [], harness := (true, "438016eecaf08f894837c66d3d24e12b431e7892d6dd9ff29b64254bc0f541ac"), looks := false }, kinds := [], alts := [], laidByText := true, laidKinds := [.data], laidTests := true, laidLooks := .later }
def MatchBehindUptoCardSaid : Prop := Claim7.holds Tryd.pinned (.plain (OpenSpec.upto matchBehindSpec)) matchBehindUptoCard
end Rows
end Go.Proofs.YtcipljpalohjiaaDoor
