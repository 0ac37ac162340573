/-
  DERIVED. GIVEN WITH THE SEED: THE CARDS: each row of YtjpchbcenbjibaaDoorRows.lean that lists a variable, with what it lists TIED to the program's text (the seventh form; the later family's looks); each row that meets fmt, with fmt's text TOLD by the authors' own Lean function (tested against real Go, not proved from fmt's source: count such statements apart). THE CARD IS WHAT COUNTS. Prove the row's statement (the work); the ties are given (YtjpchbcenbjibaaDoorTie.lean); close each card by the builder's one call (the guide's Derived/Test/ToyasCard.lean, 'card_holds'). Laid BY PROGRAM, IN A SANDBOX (cutbox-door.mjs). By AI agents, Wed Nov 11 2026. No macro, syntax, notation, axiom, sorry.
-/
import Derived.Test.YtjpchbcenbjibaaDoorRows
import GoSem.ClaimSeven
namespace Go.Proofs.YtjpchbcenbjibaaDoor
namespace Rows

/-- THE TIED CARD OF 'relucertlaw04.DecimalText'. -/
def decimalTextCard : Claim7 := { stood := { row := decimalTextRow, standIns := [], harness := (true, "efa94499b5eb57e365bdfdf661118a36af1287699d537a82828033dfb0594a74"), looks := false }, kinds := [], alts := [], laidByText := true, laidKinds := [.data, .pinned], laidTests := true, laidLooks := .later }
def DecimalTextCardSaid : Prop := Claim7.holds Tryd.pinned (.plain (OpenSpec.ofChange decimalTextSpec)) decimalTextCard

/-- THE TIED CARD OF 'relucertlaw04.DecimalParse'. -/
def decimalParseCard : Claim7 := { stood := { row := decimalParseRow, standIns := [], harness := (true, "efa94499b5eb57e365bdfdf661118a36af1287699d537a82828033dfb0594a74"), looks := false }, kinds := [], alts := [], laidByText := true, laidKinds := [.data, .pinned], laidTests := true, laidLooks := .later }
def DecimalParseCardSaid : Prop := Claim7.holds Tryd.pinned (.plain (OpenSpec.ofChange decimalParseSpec)) decimalParseCard

/-- THE TIED CARD OF 'relucertlaw04.DecimalLong'. -/
def decimalLongCard : Claim7 := { stood := { row := decimalLongRow, standIns := [], harness := (true, "efa94499b5eb57e365bdfdf661118a36af1287699d537a82828033dfb0594a74"), looks := false }, kinds := [], alts := [], laidByText := true, laidKinds := [.data, .pinned], laidTests := true, laidLooks := .later }
def DecimalLongCardSaid : Prop := Claim7.holds Tryd.pinned (.plain (OpenSpec.ofChange decimalLongSpec)) decimalLongCard

/-- THE TIED CARD OF 'relucertlaw04.DecimalRoundTrip'. -/
def decimalRoundTripCard : Claim7 := { stood := { row := decimalRoundTripRow, standIns := [], harness := (true, "efa94499b5eb57e365bdfdf661118a36af1287699d537a82828033dfb0594a74"), looks := false }, kinds := [], alts := [], laidByText := true, laidKinds := [.data, .pinned], laidTests := true, laidLooks := .later }
def DecimalRoundTripCardSaid : Prop := Claim7.holds Tryd.pinned (.plain (OpenSpec.ofChange decimalRoundTripSpec)) decimalRoundTripCard

/-- THE SECOND FORM's CARD OF 'relucertlaw04.DecimalText'. -/
def decimalTextUptoCard : Claim7 := { stood := { row := decimalTextUptoRow, standIns := [], harness := (true, "efa94499b5eb57e365bdfdf661118a36af1287699d537a82828033dfb0594a74"), looks := false }, kinds := [], alts := [], laidByText := true, laidKinds := [.data, .pinned], laidTests := true, laidLooks := .later }
def DecimalTextUptoCardSaid : Prop := Claim7.holds Tryd.pinned (.plain (OpenSpec.upto decimalTextSpec)) decimalTextUptoCard

/-- THE SECOND FORM's CARD OF 'relucertlaw04.DecimalParse'. -/
def decimalParseUptoCard : Claim7 := { stood := { row := decimalParseUptoRow, standIns := [], harness := (true, "efa94499b5eb57e365bdfdf661118a36af1287699d537a82828033dfb0594a74"), looks := false }, kinds := [], alts := [], laidByText := true, laidKinds := [.data, .pinned], laidTests := true, laidLooks := .later }
def DecimalParseUptoCardSaid : Prop := Claim7.holds Tryd.pinned (.plain (OpenSpec.upto decimalParseSpec)) decimalParseUptoCard

/-- THE SECOND FORM's CARD OF 'relucertlaw04.DecimalLong'. -/
def decimalLongUptoCard : Claim7 := { stood := { row := decimalLongUptoRow, standIns := [], harness := (true, "efa94499b5eb57e365bdfdf661118a36af1287699d537a82828033dfb0594a74"), looks := false }, kinds := [], alts := [], laidByText := true, laidKinds := [.data, .pinned], laidTests := true, laidLooks := .later }
def DecimalLongUptoCardSaid : Prop := Claim7.holds Tryd.pinned (.plain (OpenSpec.upto decimalLongSpec)) decimalLongUptoCard

/-- THE SECOND FORM's CARD OF 'relucertlaw04.DecimalRoundTrip'. -/
def decimalRoundTripUptoCard : Claim7 := { stood := { row := decimalRoundTripUptoRow, standIns := [], harness := (true, "efa94499b5eb57e365bdfdf661118a36af1287699d537a82828033dfb0594a74"), looks := false }, kinds := [], alts := [], laidByText := true, laidKinds := [.data, .pinned], laidTests := true, laidLooks := .later }
def DecimalRoundTripUptoCardSaid : Prop := Claim7.holds Tryd.pinned (.plain (OpenSpec.upto decimalRoundTripSpec)) decimalRoundTripUptoCard
end Rows
end Go.Proofs.YtjpchbcenbjibaaDoor
