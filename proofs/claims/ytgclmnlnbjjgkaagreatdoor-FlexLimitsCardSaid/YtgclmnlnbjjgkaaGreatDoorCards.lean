/-
  DERIVED. GIVEN WITH THE SEED: THE CARDS: each row of YtgclmnlnbjjgkaaGreatDoorRows.lean that lists a variable, with what it lists TIED to the program's text (the seventh form; the later family's looks); each row that meets fmt, with fmt's text TOLD by the authors' own Lean function (tested against real Go, not proved from fmt's source: count such statements apart). THE CARD IS WHAT COUNTS. Prove the row's statement (the work); the ties are given (YtgclmnlnbjjgkaaGreatDoorTie.lean); close each card by the builder's one call (the guide's Derived/Test/ToyasCard.lean, 'card_holds'). Laid BY PROGRAM, IN A SANDBOX (cutbox-door.mjs). By AI agents, Wed Nov 11 2026. No macro, syntax, notation, axiom, sorry.
-/
import Derived.Test.YtgclmnlnbjjgkaaGreatDoorRows
import GoSem.ClaimSeven
namespace Go.Proofs.YtgclmnlnbjjgkaaGreatDoor
namespace Rows

/-- THE TIED CARD OF 'ndjqlaw10.FlexLex'. -/
def flexLexCard : Claim7 := { stood := { row := flexLexRow, standIns := [], harness := (true, "29d704a58f0798cee87339f5e9d132d896a4449902dc0c10e7729dd475e27f98"), looks := true }, kinds := [], alts := [], laidByText := true, laidKinds := [.data, .data, .data, .sentinel, .sentinel, .data], laidTests := true, laidLooks := .later }
def FlexLexCardSaid : Prop := Claim7.holds Tryz.pinned (.plain (OpenSpec.ofChange flexLexSpec)) flexLexCard

/-- THE TIED CARD OF 'ndjqlaw10.FlexLimits'. -/
def flexLimitsCard : Claim7 := { stood := { row := flexLimitsRow, standIns := [], harness := (true, "29d704a58f0798cee87339f5e9d132d896a4449902dc0c10e7729dd475e27f98"), looks := true }, kinds := [], alts := [], laidByText := true, laidKinds := [.data, .data, .data, .sentinel, .sentinel, .data], laidTests := true, laidLooks := .later }
def FlexLimitsCardSaid : Prop := Claim7.holds Tryz.pinned (.plain (OpenSpec.ofChange flexLimitsSpec)) flexLimitsCard

/-- THE SECOND FORM's CARD OF 'ndjqlaw10.FlexLex'. -/
def flexLexUptoCard : Claim7 := { stood := { row := flexLexUptoRow, standIns := [], harness := (true, "29d704a58f0798cee87339f5e9d132d896a4449902dc0c10e7729dd475e27f98"), looks := true }, kinds := [], alts := [], laidByText := true, laidKinds := [.data, .data, .data, .sentinel, .sentinel, .data], laidTests := true, laidLooks := .later }
def FlexLexUptoCardSaid : Prop := Claim7.holds Tryz.pinned (.plain (OpenSpec.upto flexLexSpec)) flexLexUptoCard

/-- THE SECOND FORM's CARD OF 'ndjqlaw10.FlexLimits'. -/
def flexLimitsUptoCard : Claim7 := { stood := { row := flexLimitsUptoRow, standIns := [], harness := (true, "29d704a58f0798cee87339f5e9d132d896a4449902dc0c10e7729dd475e27f98"), looks := true }, kinds := [], alts := [], laidByText := true, laidKinds := [.data, .data, .data, .sentinel, .sentinel, .data], laidTests := true, laidLooks := .later }
def FlexLimitsUptoCardSaid : Prop := Claim7.holds Tryz.pinned (.plain (OpenSpec.upto flexLimitsSpec)) flexLimitsUptoCard
end Rows
end Go.Proofs.YtgclmnlnbjjgkaaGreatDoor
