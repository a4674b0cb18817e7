/-
  DERIVED. GIVEN WITH THE SEED: THE CARDS: each row of YtgdnkankleoaoaaGreatDoorRows.lean that lists a variable, with what it lists TIED to the program's text (the seventh form; the later family's looks); each row that meets fmt, with fmt's text TOLD by the authors' own Lean function (tested against real Go, not proved from fmt's source: count such statements apart). THE CARD IS WHAT COUNTS. Prove the row's statement (the work); the ties are given (YtgdnkankleoaoaaGreatDoorTie.lean); close each card by the builder's one call (the guide's Derived/Test/ToyasCard.lean, 'card_holds'). Laid BY PROGRAM, IN A SANDBOX (cutbox-door.mjs). By AI agents, Wed Nov 11 2026. No macro, syntax, notation, axiom, sorry.
-/
import Derived.Test.YtgdnkankleoaoaaGreatDoorRows
import GoSem.ClaimSeven
namespace Go.Proofs.YtgdnkankleoaoaaGreatDoor
namespace Rows

/-- THE TIED CARD OF 'ndjqlaw06.ArithBinary'. -/
def arithBinaryCard : Claim7 := { stood := { row := arithBinaryRow, standIns := [], harness := (true, "4a8036f639cad7cfedba9d1729d76ece66cd87d7e20266413e2259023461e791"), looks := true }, kinds := [], alts := [], laidByText := true, laidKinds := [.data, .pinned], laidTests := true, laidLooks := .later }
def ArithBinaryCardSaid : Prop := Claim7.holds Tryz.pinned (.plain (OpenSpec.ofChange arithBinarySpec)) arithBinaryCard

/-- THE TIED CARD OF 'ndjqlaw06.ArithOther'. -/
def arithOtherCard : Claim7 := { stood := { row := arithOtherRow, standIns := [], harness := (true, "4a8036f639cad7cfedba9d1729d76ece66cd87d7e20266413e2259023461e791"), looks := true }, kinds := [], alts := [], laidByText := true, laidKinds := [.data, .pinned], laidTests := true, laidLooks := .later }
def ArithOtherCardSaid : Prop := Claim7.holds Tryz.pinned (.plain (OpenSpec.ofChange arithOtherSpec)) arithOtherCard

/-- THE TIED CARD OF 'ndjqlaw08.TextOne'. -/
def textOneCard : Claim7 := { stood := { row := textOneRow, standIns := [], harness := (true, "4a8036f639cad7cfedba9d1729d76ece66cd87d7e20266413e2259023461e791"), looks := true }, kinds := [], alts := [], laidByText := true, laidKinds := [.data, .data, .data, .data, .sentinel, .sentinel, .pinned], laidTests := true, laidLooks := .later }
def TextOneCardSaid : Prop := Claim7.holds Tryz.pinned (.plain (OpenSpec.ofChange textOneSpec)) textOneCard

/-- THE TIED CARD OF 'ndjqlaw08.TextTwo'. -/
def textTwoCard : Claim7 := { stood := { row := textTwoRow, standIns := [], harness := (true, "4a8036f639cad7cfedba9d1729d76ece66cd87d7e20266413e2259023461e791"), looks := true }, kinds := [], alts := [], laidByText := true, laidKinds := [.data, .data, .data, .data, .sentinel, .sentinel, .pinned], laidTests := true, laidLooks := .later }
def TextTwoCardSaid : Prop := Claim7.holds Tryz.pinned (.plain (OpenSpec.ofChange textTwoSpec)) textTwoCard

/-- THE TIED CARD OF 'ndjqlaw09.TableOne'. -/
def tableOneCard : Claim7 := { stood := { row := tableOneRow, standIns := [], harness := (true, "4a8036f639cad7cfedba9d1729d76ece66cd87d7e20266413e2259023461e791"), looks := true }, kinds := [], alts := [], laidByText := true, laidKinds := [.data, .data, .data, .data, .pinned], laidTests := true, laidLooks := .later }
def TableOneCardSaid : Prop := Claim7.holds Tryz.pinned (.plain (OpenSpec.ofChange tableOneSpec)) tableOneCard

/-- THE TIED CARD OF 'ndjqlaw09.TableTwo'. -/
def tableTwoCard : Claim7 := { stood := { row := tableTwoRow, standIns := [], harness := (true, "4a8036f639cad7cfedba9d1729d76ece66cd87d7e20266413e2259023461e791"), looks := true }, kinds := [], alts := [], laidByText := true, laidKinds := [.data, .pinned], laidTests := true, laidLooks := .later }
def TableTwoCardSaid : Prop := Claim7.holds Tryz.pinned (.plain (OpenSpec.ofChange tableTwoSpec)) tableTwoCard

/-- THE TIED CARD OF 'ndjqlaw09.TableSorted'. -/
def tableSortedCard : Claim7 := { stood := { row := tableSortedRow, standIns := [], harness := (true, "4a8036f639cad7cfedba9d1729d76ece66cd87d7e20266413e2259023461e791"), looks := true }, kinds := [], alts := [], laidByText := true, laidKinds := [.data, .pinned], laidTests := true, laidLooks := .later }
def TableSortedCardSaid : Prop := Claim7.holds Tryz.pinned (.plain (OpenSpec.ofChange tableSortedSpec)) tableSortedCard

/-- THE TIED CARD OF 'ndjqlaw09.TableSums'. -/
def tableSumsCard : Claim7 := { stood := { row := tableSumsRow, standIns := [], harness := (true, "4a8036f639cad7cfedba9d1729d76ece66cd87d7e20266413e2259023461e791"), looks := true }, kinds := [], alts := [], laidByText := true, laidKinds := [.data, .pinned], laidTests := true, laidLooks := .later }
def TableSumsCardSaid : Prop := Claim7.holds Tryz.pinned (.plain (OpenSpec.ofChange tableSumsSpec)) tableSumsCard

/-- THE SECOND FORM's CARD OF 'ndjqlaw06.ArithBinary'. -/
def arithBinaryUptoCard : Claim7 := { stood := { row := arithBinaryUptoRow, standIns := [], harness := (true, "4a8036f639cad7cfedba9d1729d76ece66cd87d7e20266413e2259023461e791"), looks := true }, kinds := [], alts := [], laidByText := true, laidKinds := [.data, .pinned], laidTests := true, laidLooks := .later }
def ArithBinaryUptoCardSaid : Prop := Claim7.holds Tryz.pinned (.plain (OpenSpec.upto arithBinarySpec)) arithBinaryUptoCard

/-- THE SECOND FORM's CARD OF 'ndjqlaw06.ArithOther'. -/
def arithOtherUptoCard : Claim7 := { stood := { row := arithOtherUptoRow, standIns := [], harness := (true, "4a8036f639cad7cfedba9d1729d76ece66cd87d7e20266413e2259023461e791"), looks := true }, kinds := [], alts := [], laidByText := true, laidKinds := [.data, .pinned], laidTests := true, laidLooks := .later }
def ArithOtherUptoCardSaid : Prop := Claim7.holds Tryz.pinned (.plain (OpenSpec.upto arithOtherSpec)) arithOtherUptoCard

/-- THE SECOND FORM's CARD OF 'ndjqlaw08.TextOne'. -/
def textOneUptoCard : Claim7 := { stood := { row := textOneUptoRow, standIns := [], harness := (true, "4a8036f639cad7cfedba9d1729d76ece66cd87d7e20266413e2259023461e791"), looks := true }, kinds := [], alts := [], laidByText := true, laidKinds := [.data, .data, .data, .data, .sentinel, .sentinel, .pinned], laidTests := true, laidLooks := .later }
def TextOneUptoCardSaid : Prop := Claim7.holds Tryz.pinned (.plain (OpenSpec.upto textOneSpec)) textOneUptoCard

/-- THE SECOND FORM's CARD OF 'ndjqlaw08.TextTwo'. -/
def textTwoUptoCard : Claim7 := { stood := { row := textTwoUptoRow, standIns := [], harness := (true, "4a8036f639cad7cfedba9d1729d76ece66cd87d7e20266413e2259023461e791"), looks := true }, kinds := [], alts := [], laidByText := true, laidKinds := [.data, .data, .data, .data, .sentinel, .sentinel, .pinned], laidTests := true, laidLooks := .later }
def TextTwoUptoCardSaid : Prop := Claim7.holds Tryz.pinned (.plain (OpenSpec.upto textTwoSpec)) textTwoUptoCard

/-- THE SECOND FORM's CARD OF 'ndjqlaw09.TableOne'. -/
def tableOneUptoCard : Claim7 := { stood := { row := tableOneUptoRow, standIns := [], harness := (true, "4a8036f639cad7cfedba9d1729d76ece66cd87d7e20266413e2259023461e791"), looks := true }, kinds := [], alts := [], laidByText := true, laidKinds := [.data, .data, .data, .data, .pinned], laidTests := true, laidLooks := .later }
def TableOneUptoCardSaid : Prop := Claim7.holds Tryz.pinned (.plain (OpenSpec.upto tableOneSpec)) tableOneUptoCard

/-- THE SECOND FORM's CARD OF 'ndjqlaw09.TableTwo'. -/
def tableTwoUptoCard : Claim7 := { stood := { row := tableTwoUptoRow, standIns := [], harness := (true, "4a8036f639cad7cfedba9d1729d76ece66cd87d7e20266413e2259023461e791"), looks := true }, kinds := [], alts := [], laidByText := true, laidKinds := [.data, .pinned], laidTests := true, laidLooks := .later }
def TableTwoUptoCardSaid : Prop := Claim7.holds Tryz.pinned (.plain (OpenSpec.upto tableTwoSpec)) tableTwoUptoCard

/-- THE SECOND FORM's CARD OF 'ndjqlaw09.TableSorted'. -/
def tableSortedUptoCard : Claim7 := { stood := { row := tableSortedUptoRow, standIns := [], harness := (true, "4a8036f639cad7cfedba9d1729d76ece66cd87d7e20266413e2259023461e791"), looks := true }, kinds := [], alts := [], laidByText := true, laidKinds := [.data, .pinned], laidTests := true, laidLooks := .later }
def TableSortedUptoCardSaid : Prop := Claim7.holds Tryz.pinned (.plain (OpenSpec.upto tableSortedSpec)) tableSortedUptoCard

/-- THE SECOND FORM's CARD OF 'ndjqlaw09.TableSums'. -/
def tableSumsUptoCard : Claim7 := { stood := { row := tableSumsUptoRow, standIns := [], harness := (true, "4a8036f639cad7cfedba9d1729d76ece66cd87d7e20266413e2259023461e791"), looks := true }, kinds := [], alts := [], laidByText := true, laidKinds := [.data, .pinned], laidTests := true, laidLooks := .later }
def TableSumsUptoCardSaid : Prop := Claim7.holds Tryz.pinned (.plain (OpenSpec.upto tableSumsSpec)) tableSumsUptoCard
end Rows
end Go.Proofs.YtgdnkankleoaoaaGreatDoor
