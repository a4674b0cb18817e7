/-
  DERIVED. GIVEN WITH THE SEED: THE CARDS: each row of YtmagdlddaoonmaaDoorRows.lean that lists a variable, with what it lists TIED to the program's text (the seventh form; the later family's looks); each row that meets fmt, with fmt's text TOLD by the authors' own Lean function (tested against real Go, not proved from fmt's source: count such statements apart). THE CARD IS WHAT COUNTS. Prove the row's statement (the work); the ties are given (YtmagdlddaoonmaaDoorTie.lean); close each card by the builder's one call (the guide's Derived/Test/ToyasCard.lean, 'card_holds'). Laid BY PROGRAM, IN A SANDBOX (cutbox-door.mjs). By AI agents, Wed Nov 11 2026. No macro, syntax, notation, axiom, sorry.
-/
import Derived.Test.YtmagdlddaoonmaaDoorRows
import GoSem.ClaimSeven
namespace Go.Proofs.YtmagdlddaoonmaaDoor
namespace Rows

/-- THE TIED CARD OF 'ndjqlaw03.JsonlexNext'. -/
def jsonlexNextCard : Claim7 := { stood := { row := jsonlexNextRow, standIns := [], harness := (true, "7fe14cd9d9711e46c818024155bd6f39474a594c327bb80a0bc46d8dc0c110bf"), looks := true }, kinds := [], alts := [], laidByText := true, laidKinds := [.data, .data, .data, .sentinel, .sentinel], laidTests := true, laidLooks := .later }
def JsonlexNextCardSaid : Prop := Claim7.holds Tryd.pinned (.plain (OpenSpec.ofChange jsonlexNextSpec)) jsonlexNextCard

/-- THE TIED CARD OF 'ndjqlaw03.JsonlexStrings'. -/
def jsonlexStringsCard : Claim7 := { stood := { row := jsonlexStringsRow, standIns := [], harness := (true, "7fe14cd9d9711e46c818024155bd6f39474a594c327bb80a0bc46d8dc0c110bf"), looks := true }, kinds := [], alts := [], laidByText := true, laidKinds := [.data, .data, .data, .sentinel, .sentinel], laidTests := true, laidLooks := .later }
def JsonlexStringsCardSaid : Prop := Claim7.holds Tryd.pinned (.plain (OpenSpec.ofChange jsonlexStringsSpec)) jsonlexStringsCard

/-- THE TIED CARD OF 'ndjqlaw03.JsonlexNumbers'. -/
def jsonlexNumbersCard : Claim7 := { stood := { row := jsonlexNumbersRow, standIns := [], harness := (true, "7fe14cd9d9711e46c818024155bd6f39474a594c327bb80a0bc46d8dc0c110bf"), looks := true }, kinds := [], alts := [], laidByText := true, laidKinds := [.data, .data, .data, .sentinel, .sentinel], laidTests := true, laidLooks := .later }
def JsonlexNumbersCardSaid : Prop := Claim7.holds Tryd.pinned (.plain (OpenSpec.ofChange jsonlexNumbersSpec)) jsonlexNumbersCard

/-- THE TIED CARD OF 'ndjqlaw03.JsonlexCover'. -/
def jsonlexCoverCard : Claim7 := { stood := { row := jsonlexCoverRow, standIns := [], harness := (true, "7fe14cd9d9711e46c818024155bd6f39474a594c327bb80a0bc46d8dc0c110bf"), looks := true }, kinds := [], alts := [], laidByText := true, laidKinds := [.data, .data, .data, .sentinel, .sentinel], laidTests := true, laidLooks := .later }
def JsonlexCoverCardSaid : Prop := Claim7.holds Tryd.pinned (.plain (OpenSpec.ofChange jsonlexCoverSpec)) jsonlexCoverCard

/-- THE TIED CARD OF 'ndjqlaw03.JsonlexQuoted'. -/
def jsonlexQuotedCard : Claim7 := { stood := { row := jsonlexQuotedRow, standIns := [], harness := (true, "7fe14cd9d9711e46c818024155bd6f39474a594c327bb80a0bc46d8dc0c110bf"), looks := true }, kinds := [], alts := [], laidByText := true, laidKinds := [.data, .data, .data, .sentinel, .sentinel], laidTests := true, laidLooks := .later }
def JsonlexQuotedCardSaid : Prop := Claim7.holds Tryd.pinned (.plain (OpenSpec.ofChange jsonlexQuotedSpec)) jsonlexQuotedCard

/-- THE SECOND FORM's CARD OF 'ndjqlaw03.JsonlexNext'. -/
def jsonlexNextUptoCard : Claim7 := { stood := { row := jsonlexNextUptoRow, standIns := [], harness := (true, "7fe14cd9d9711e46c818024155bd6f39474a594c327bb80a0bc46d8dc0c110bf"), looks := true }, kinds := [], alts := [], laidByText := true, laidKinds := [.data, .data, .data, .sentinel, .sentinel], laidTests := true, laidLooks := .later }
def JsonlexNextUptoCardSaid : Prop := Claim7.holds Tryd.pinned (.plain (OpenSpec.upto jsonlexNextSpec)) jsonlexNextUptoCard

/-- THE SECOND FORM's CARD OF 'ndjqlaw03.JsonlexStrings'. -/
def jsonlexStringsUptoCard : Claim7 := { stood := { row := jsonlexStringsUptoRow, standIns := [], harness := (true, "7fe14cd9d9711e46c818024155bd6f39474a594c327bb80a0bc46d8dc0c110bf"), looks := true }, kinds := [], alts := [], laidByText := true, laidKinds := [.data, .data, .data, .sentinel, .sentinel], laidTests := true, laidLooks := .later }
def JsonlexStringsUptoCardSaid : Prop := Claim7.holds Tryd.pinned (.plain (OpenSpec.upto jsonlexStringsSpec)) jsonlexStringsUptoCard

/-- THE SECOND FORM's CARD OF 'ndjqlaw03.JsonlexNumbers'. -/
def jsonlexNumbersUptoCard : Claim7 := { stood := { row := jsonlexNumbersUptoRow, standIns := [], harness := (true, "7fe14cd9d9711e46c818024155bd6f39474a594c327bb80a0bc46d8dc0c110bf"), looks := true }, kinds := [], alts := [], laidByText := true, laidKinds := [.data, .data, .data, .sentinel, .sentinel], laidTests := true, laidLooks := .later }
def JsonlexNumbersUptoCardSaid : Prop := Claim7.holds Tryd.pinned (.plain (OpenSpec.upto jsonlexNumbersSpec)) jsonlexNumbersUptoCard

/-- THE SECOND FORM's CARD OF 'ndjqlaw03.JsonlexCover'. -/
def jsonlexCoverUptoCard : Claim7 := { stood := { row := jsonlexCoverUptoRow, standIns := [], harness := (true, "7fe14cd9d9711e46c818024155bd6f39474a594c327bb80a0bc46d8dc0c110bf"), looks := true }, kinds := [], alts := [], laidByText := true, laidKinds := [.data, .data, .data, .sentinel, .sentinel], laidTests := true, laidLooks := .later }
def JsonlexCoverUptoCardSaid : Prop := Claim7.holds Tryd.pinned (.plain (OpenSpec.upto jsonlexCoverSpec)) jsonlexCoverUptoCard

/-- THE SECOND FORM's CARD OF 'ndjqlaw03.JsonlexQuoted'. -/
def jsonlexQuotedUptoCard : Claim7 := { stood := { row := jsonlexQuotedUptoRow, standIns := [], harness := (true, "7fe14cd9d9711e46c818024155bd6f39474a594c327bb80a0bc46d8dc0c110bf"), looks := true }, kinds := [], alts := [], laidByText := true, laidKinds := [.data, .data, .data, .sentinel, .sentinel], laidTests := true, laidLooks := .later }
def JsonlexQuotedUptoCardSaid : Prop := Claim7.holds Tryd.pinned (.plain (OpenSpec.upto jsonlexQuotedSpec)) jsonlexQuotedUptoCard
end Rows
end Go.Proofs.YtmagdlddaoonmaaDoor
