/-
  DERIVED. GIVEN WITH THE SEED: THE CARDS: each row of YtniikeciccfjoaaDoorRows.lean that lists a variable, with what it lists TIED to the program's text (the seventh form; the later family's looks); each row that meets fmt, with fmt's text TOLD by the authors' own Lean function (tested against real Go, not proved from fmt's source: count such statements apart). THE CARD IS WHAT COUNTS. Prove the row's statement (the work); the ties are given (YtniikeciccfjoaaDoorTie.lean); close each card by the builder's one call (the guide's Derived/Test/ToyasCard.lean, 'card_holds'). Laid BY PROGRAM, IN A SANDBOX (cutbox-door.mjs). By AI agents, Wed Nov 11 2026. No macro, syntax, notation, axiom, sorry.
-/
import Derived.Test.YtniikeciccfjoaaDoorRows
import GoSem.ClaimSeven
namespace Go.Proofs.YtniikeciccfjoaaDoor
namespace Rows

/-- THE TIED CARD OF 'cuecardlaw06.PtyActs'. -/
def ptyActsCard : Claim7 := { stood := { row := ptyActsRow, standIns := [], harness := (true, "efe357334e20fb6b421f73c3963cb6aa419f4dab2255653e6b22c92fae4820e0"), looks := false }, kinds := [], alts := [], laidByText := true, laidKinds := [.data], laidTests := true, laidLooks := .later }
def PtyActsCardSaid : Prop := Claim7.holds Tryd.pinned (.plain (OpenSpec.ofChange ptyActsSpec)) ptyActsCard

/-- THE TIED CARD OF 'cuecardlaw06.PtyNews'. -/
def ptyNewsCard : Claim7 := { stood := { row := ptyNewsRow, standIns := [], harness := (true, "efe357334e20fb6b421f73c3963cb6aa419f4dab2255653e6b22c92fae4820e0"), looks := false }, kinds := [], alts := [], laidByText := true, laidKinds := [.data], laidTests := true, laidLooks := .later }
def PtyNewsCardSaid : Prop := Claim7.holds Tryd.pinned (.plain (OpenSpec.ofChange ptyNewsSpec)) ptyNewsCard

/-- THE TIED CARD OF 'cuecardlaw06.PtyPrefix'. -/
def ptyPrefixCard : Claim7 := { stood := { row := ptyPrefixRow, standIns := [], harness := (true, "efe357334e20fb6b421f73c3963cb6aa419f4dab2255653e6b22c92fae4820e0"), looks := false }, kinds := [], alts := [], laidByText := true, laidKinds := [.data], laidTests := true, laidLooks := .later }
def PtyPrefixCardSaid : Prop := Claim7.holds Tryd.pinned (.plain (OpenSpec.ofChange ptyPrefixSpec)) ptyPrefixCard

/-- THE TIED CARD OF 'cuecardlaw06.PtyWays'. -/
def ptyWaysCard : Claim7 := { stood := { row := ptyWaysRow, standIns := [], harness := (true, "efe357334e20fb6b421f73c3963cb6aa419f4dab2255653e6b22c92fae4820e0"), looks := false }, kinds := [], alts := [], laidByText := true, laidKinds := [.data], laidTests := true, laidLooks := .later }
def PtyWaysCardSaid : Prop := Claim7.holds Tryd.pinned (.plain (OpenSpec.ofChange ptyWaysSpec)) ptyWaysCard

/-- THE TIED CARD OF 'cuecardlaw06.PtyWhole'. -/
def ptyWholeCard : Claim7 := { stood := { row := ptyWholeRow, standIns := [], harness := (true, "efe357334e20fb6b421f73c3963cb6aa419f4dab2255653e6b22c92fae4820e0"), looks := false }, kinds := [], alts := [], laidByText := true, laidKinds := [.data], laidTests := true, laidLooks := .later }
def PtyWholeCardSaid : Prop := Claim7.holds Tryd.pinned (.plain (OpenSpec.ofChange ptyWholeSpec)) ptyWholeCard

/-- THE SECOND FORM's CARD OF 'cuecardlaw06.PtyActs'. -/
def ptyActsUptoCard : Claim7 := { stood := { row := ptyActsUptoRow, standIns := [], harness := (true, "efe357334e20fb6b421f73c3963cb6aa419f4dab2255653e6b22c92fae4820e0"), looks := false }, kinds := [], alts := [], laidByText := true, laidKinds := [.data], laidTests := true, laidLooks := .later }
def PtyActsUptoCardSaid : Prop := Claim7.holds Tryd.pinned (.plain (OpenSpec.upto ptyActsSpec)) ptyActsUptoCard

/-- THE SECOND FORM's CARD OF 'cuecardlaw06.PtyNews'. -/
def ptyNewsUptoCard : Claim7 := { stood := { row := ptyNewsUptoRow, standIns := [], harness := (true, "efe357334e20fb6b421f73c3963cb6aa419f4dab2255653e6b22c92fae4820e0"), looks := false }, kinds := [], alts := [], laidByText := true, laidKinds := [.data], laidTests := true, laidLooks := .later }
def PtyNewsUptoCardSaid : Prop := Claim7.holds Tryd.pinned (.plain (OpenSpec.upto ptyNewsSpec)) ptyNewsUptoCard

/-- THE SECOND FORM's CARD OF 'cuecardlaw06.PtyPrefix'. -/
def ptyPrefixUptoCard : Claim7 := { stood := { row := ptyPrefixUptoRow, standIns := [], harness := (true, "efe357334e20fb6b421f73c3963cb6aa419f4dab2255653e6b22c92fae4820e0"), looks := false }, kinds := [], alts := [], laidByText := true, laidKinds := [.data], laidTests := true, laidLooks := .later }
def PtyPrefixUptoCardSaid : Prop := Claim7.holds Tryd.pinned (.plain (OpenSpec.upto ptyPrefixSpec)) ptyPrefixUptoCard

/-- THE SECOND FORM's CARD OF 'cuecardlaw06.PtyWays'. -/
def ptyWaysUptoCard : Claim7 := { stood := { row := ptyWaysUptoRow, standIns := [], harness := (true, "efe357334e20fb6b421f73c3963cb6aa419f4dab2255653e6b22c92fae4820e0"), looks := false }, kinds := [], alts := [], laidByText := true, laidKinds := [.data], laidTests := true, laidLooks := .later }
def PtyWaysUptoCardSaid : Prop := Claim7.holds Tryd.pinned (.plain (OpenSpec.upto ptyWaysSpec)) ptyWaysUptoCard

/-- THE SECOND FORM's CARD OF 'cuecardlaw06.PtyWhole'. -/
def ptyWholeUptoCard : Claim7 := { stood := { row := ptyWholeUptoRow, standIns := [], harness := (true, "efe357334e20fb6b421f73c3963cb6aa419f4dab2255653e6b22c92fae4820e0"), looks := false }, kinds := [], alts := [], laidByText := true, laidKinds := [.data], laidTests := true, laidLooks := .later }
def PtyWholeUptoCardSaid : Prop := Claim7.holds Tryd.pinned (.plain (OpenSpec.upto ptyWholeSpec)) ptyWholeUptoCard
end Rows
end Go.Proofs.YtniikeciccfjoaaDoor
