/-
  DERIVED. GIVEN WITH THE SEED: THE CARDS: each row of YtfmmomdfmmoklaaDoorRows.lean that lists a variable, with what it lists TIED to the program's text (the seventh form; the later family's looks); each row that meets fmt, with fmt's text TOLD by the authors' own Lean function (tested against real Go, not proved from fmt's source: count such statements apart). THE CARD IS WHAT COUNTS. Prove the row's statement (the work); the ties are given (YtfmmomdfmmoklaaDoorTie.lean); close each card by the builder's one call (the guide's Derived/Test/ToyasCard.lean, 'card_holds'). Laid BY PROGRAM, IN A SANDBOX (cutbox-door.mjs). By AI agents, Wed Nov 11 2026. No macro, syntax, notation, axiom, sorry.
-/
import Derived.Test.YtfmmomdfmmoklaaDoorRows
import GoSem.ClaimSeven
namespace Go.Proofs.YtfmmomdfmmoklaaDoor
namespace Rows

/-- THE TIED CARD OF 'cuecardlaw07.RelayActs'. -/
def relayActsCard : Claim7 := { stood := { row := relayActsRow, standIns := [], harness := (true, "57e11eac905682448d9113ffec97c20be9263574151c6a0e6d096f799e983481"), looks := false }, kinds := [], alts := [], laidByText := true, laidKinds := [.data], laidTests := true, laidLooks := .later }
def RelayActsCardSaid : Prop := Claim7.holds Tryd.pinned (.plain (OpenSpec.ofChange relayActsSpec)) relayActsCard

/-- THE TIED CARD OF 'cuecardlaw07.RelayNews'. -/
def relayNewsCard : Claim7 := { stood := { row := relayNewsRow, standIns := [], harness := (true, "57e11eac905682448d9113ffec97c20be9263574151c6a0e6d096f799e983481"), looks := false }, kinds := [], alts := [], laidByText := true, laidKinds := [.data], laidTests := true, laidLooks := .later }
def RelayNewsCardSaid : Prop := Claim7.holds Tryd.pinned (.plain (OpenSpec.ofChange relayNewsSpec)) relayNewsCard

/-- THE TIED CARD OF 'cuecardlaw07.RelayPrefix'. -/
def relayPrefixCard : Claim7 := { stood := { row := relayPrefixRow, standIns := [], harness := (true, "57e11eac905682448d9113ffec97c20be9263574151c6a0e6d096f799e983481"), looks := false }, kinds := [], alts := [], laidByText := true, laidKinds := [.data], laidTests := true, laidLooks := .later }
def RelayPrefixCardSaid : Prop := Claim7.holds Tryd.pinned (.plain (OpenSpec.ofChange relayPrefixSpec)) relayPrefixCard

/-- THE TIED CARD OF 'cuecardlaw07.RelayTimes'. -/
def relayTimesCard : Claim7 := { stood := { row := relayTimesRow, standIns := [], harness := (true, "57e11eac905682448d9113ffec97c20be9263574151c6a0e6d096f799e983481"), looks := false }, kinds := [], alts := [], laidByText := true, laidKinds := [.data], laidTests := true, laidLooks := .later }
def RelayTimesCardSaid : Prop := Claim7.holds Tryd.pinned (.plain (OpenSpec.ofChange relayTimesSpec)) relayTimesCard

/-- THE TIED CARD OF 'cuecardlaw07.RelayEnds'. -/
def relayEndsCard : Claim7 := { stood := { row := relayEndsRow, standIns := [], harness := (true, "57e11eac905682448d9113ffec97c20be9263574151c6a0e6d096f799e983481"), looks := false }, kinds := [], alts := [], laidByText := true, laidKinds := [.data], laidTests := true, laidLooks := .later }
def RelayEndsCardSaid : Prop := Claim7.holds Tryd.pinned (.plain (OpenSpec.ofChange relayEndsSpec)) relayEndsCard

/-- THE TIED CARD OF 'cuecardlaw07.RelayOwn'. -/
def relayOwnCard : Claim7 := { stood := { row := relayOwnRow, standIns := [], harness := (true, "57e11eac905682448d9113ffec97c20be9263574151c6a0e6d096f799e983481"), looks := false }, kinds := [], alts := [], laidByText := true, laidKinds := [.data], laidTests := true, laidLooks := .later }
def RelayOwnCardSaid : Prop := Claim7.holds Tryd.pinned (.plain (OpenSpec.ofChange relayOwnSpec)) relayOwnCard

/-- THE SECOND FORM's CARD OF 'cuecardlaw07.RelayActs'. -/
def relayActsUptoCard : Claim7 := { stood := { row := relayActsUptoRow, standIns := [], harness := (true, "57e11eac905682448d9113ffec97c20be9263574151c6a0e6d096f799e983481"), looks := false }, kinds := [], alts := [], laidByText := true, laidKinds := [.data], laidTests := true, laidLooks := .later }
def RelayActsUptoCardSaid : Prop := Claim7.holds Tryd.pinned (.plain (OpenSpec.upto relayActsSpec)) relayActsUptoCard

/-- THE SECOND FORM's CARD OF 'cuecardlaw07.RelayNews'. -/
def relayNewsUptoCard : Claim7 := { stood := { row := relayNewsUptoRow, standIns := [], harness := (true, "57e11eac905682448d9113ffec97c20be9263574151c6a0e6d096f799e983481"), looks := false }, kinds := [], alts := [], laidByText := true, laidKinds := [.data], laidTests := true, laidLooks := .later }
def RelayNewsUptoCardSaid : Prop := Claim7.holds Tryd.pinned (.plain (OpenSpec.upto relayNewsSpec)) relayNewsUptoCard

/-- THE SECOND FORM's CARD OF 'cuecardlaw07.RelayPrefix'. -/
def relayPrefixUptoCard : Claim7 := { stood := { row := relayPrefixUptoRow, standIns := [], harness := (true, "57e11eac905682448d9113ffec97c20be9263574151c6a0e6d096f799e983481"), looks := false }, kinds := [], alts := [], laidByText := true, laidKinds := [.data], laidTests := true, laidLooks := .later }
def RelayPrefixUptoCardSaid : Prop := Claim7.holds Tryd.pinned (.plain (OpenSpec.upto relayPrefixSpec)) relayPrefixUptoCard

/-- THE SECOND FORM's CARD OF 'cuecardlaw07.RelayTimes'. -/
def relayTimesUptoCard : Claim7 := { stood := { row := relayTimesUptoRow, standIns := [], harness := (true, "57e11eac905682448d9113ffec97c20be9263574151c6a0e6d096f799e983481"), looks := false }, kinds := [], alts := [], laidByText := true, laidKinds := [.data], laidTests := true, laidLooks := .later }
def RelayTimesUptoCardSaid : Prop := Claim7.holds Tryd.pinned (.plain (OpenSpec.upto relayTimesSpec)) relayTimesUptoCard

/-- THE SECOND FORM's CARD OF 'cuecardlaw07.RelayEnds'. -/
def relayEndsUptoCard : Claim7 := { stood := { row := relayEndsUptoRow, standIns := [], harness := (true, "57e11eac905682448d9113ffec97c20be9263574151c6a0e6d096f799e983481"), looks := false }, kinds := [], alts := [], laidByText := true, laidKinds := [.data], laidTests := true, laidLooks := .later }
def RelayEndsUptoCardSaid : Prop := Claim7.holds Tryd.pinned (.plain (OpenSpec.upto relayEndsSpec)) relayEndsUptoCard

/-- THE SECOND FORM's CARD OF 'cuecardlaw07.RelayOwn'. -/
def relayOwnUptoCard : Claim7 := { stood := { row := relayOwnUptoRow, standIns := [], harness := (true, "57e11eac905682448d9113ffec97c20be9263574151c6a0e6d096f799e983481"), looks := false }, kinds := [], alts := [], laidByText := true, laidKinds := [.data], laidTests := true, laidLooks := .later }
def RelayOwnUptoCardSaid : Prop := Claim7.holds Tryd.pinned (.plain (OpenSpec.upto relayOwnSpec)) relayOwnUptoCard
end Rows
end Go.Proofs.YtfmmomdfmmoklaaDoor
