/-
  DERIVED. GIVEN WITH THE SEED: THE CARDS: each row of YtjpchbcenbjibaaGreatDoorRows.lean that lists a variable, with what it lists TIED to the program's text (the seventh form; the later family's looks); each row that meets fmt, with fmt's text TOLD by the authors' own Lean function (tested against real Go, not proved from fmt's source: count such statements apart). THE CARD IS WHAT COUNTS. Prove the row's statement (the work); the ties are given (YtjpchbcenbjibaaGreatDoorTie.lean); close each card by the builder's one call (the guide's Derived/Test/ToyasCard.lean, 'card_holds'). Laid BY PROGRAM, IN A SANDBOX (cutbox-door.mjs). By AI agents, Wed Nov 11 2026. No macro, syntax, notation, axiom, sorry.
-/
import Derived.Test.YtjpchbcenbjibaaGreatDoorRows
import GoSem.ClaimSeven
namespace Go.Proofs.YtjpchbcenbjibaaGreatDoor
namespace Rows

/-- THE TIED CARD OF 'relucertlaw04.DecimalFixed'. -/
def decimalFixedCard : Claim7 := { stood := { row := decimalFixedRow, standIns := [], harness := (true, "f500a884b44ff6cdeacc2e3c6ea8176c76c6a5d84e00e4e0785f43a412219684"), looks := false }, kinds := [], alts := [], laidByText := true, laidKinds := [.data, .pinned], laidTests := true, laidLooks := .later }
def DecimalFixedCardSaid : Prop := Claim7.holds Tryz.pinned (.plain (OpenSpec.ofChange decimalFixedSpec)) decimalFixedCard

/-- THE TIED CARD OF 'relucertlaw04.DecimalRounding'. -/
def decimalRoundingCard : Claim7 := { stood := { row := decimalRoundingRow, standIns := [], harness := (true, "f500a884b44ff6cdeacc2e3c6ea8176c76c6a5d84e00e4e0785f43a412219684"), looks := false }, kinds := [], alts := [], laidByText := true, laidKinds := [.data, .pinned], laidTests := true, laidLooks := .later }
def DecimalRoundingCardSaid : Prop := Claim7.holds Tryz.pinned (.plain (OpenSpec.ofChange decimalRoundingSpec)) decimalRoundingCard

/-- THE TIED CARD OF 'relucertlaw04.DecimalExact'. -/
def decimalExactCard : Claim7 := { stood := { row := decimalExactRow, standIns := [], harness := (true, "f500a884b44ff6cdeacc2e3c6ea8176c76c6a5d84e00e4e0785f43a412219684"), looks := false }, kinds := [], alts := [], laidByText := true, laidKinds := [.data, .pinned], laidTests := true, laidLooks := .later }
def DecimalExactCardSaid : Prop := Claim7.holds Tryz.pinned (.plain (OpenSpec.ofChange decimalExactSpec)) decimalExactCard

/-- THE SECOND FORM's CARD OF 'relucertlaw04.DecimalFixed'. -/
def decimalFixedUptoCard : Claim7 := { stood := { row := decimalFixedUptoRow, standIns := [], harness := (true, "f500a884b44ff6cdeacc2e3c6ea8176c76c6a5d84e00e4e0785f43a412219684"), looks := false }, kinds := [], alts := [], laidByText := true, laidKinds := [.data, .pinned], laidTests := true, laidLooks := .later }
def DecimalFixedUptoCardSaid : Prop := Claim7.holds Tryz.pinned (.plain (OpenSpec.upto decimalFixedSpec)) decimalFixedUptoCard

/-- THE SECOND FORM's CARD OF 'relucertlaw04.DecimalRounding'. -/
def decimalRoundingUptoCard : Claim7 := { stood := { row := decimalRoundingUptoRow, standIns := [], harness := (true, "f500a884b44ff6cdeacc2e3c6ea8176c76c6a5d84e00e4e0785f43a412219684"), looks := false }, kinds := [], alts := [], laidByText := true, laidKinds := [.data, .pinned], laidTests := true, laidLooks := .later }
def DecimalRoundingUptoCardSaid : Prop := Claim7.holds Tryz.pinned (.plain (OpenSpec.upto decimalRoundingSpec)) decimalRoundingUptoCard

/-- THE SECOND FORM's CARD OF 'relucertlaw04.DecimalExact'. -/
def decimalExactUptoCard : Claim7 := { stood := { row := decimalExactUptoRow, standIns := [], harness := (true, "f500a884b44ff6cdeacc2e3c6ea8176c76c6a5d84e00e4e0785f43a412219684"), looks := false }, kinds := [], alts := [], laidByText := true, laidKinds := [.data, .pinned], laidTests := true, laidLooks := .later }
def DecimalExactUptoCardSaid : Prop := Claim7.holds Tryz.pinned (.plain (OpenSpec.upto decimalExactSpec)) decimalExactUptoCard
end Rows
end Go.Proofs.YtjpchbcenbjibaaGreatDoor
