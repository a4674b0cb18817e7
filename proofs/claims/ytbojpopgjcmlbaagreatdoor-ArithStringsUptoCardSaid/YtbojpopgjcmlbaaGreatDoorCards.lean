/-
  DERIVED. GIVEN WITH THE SEED: THE CARDS: each row of YtbojpopgjcmlbaaGreatDoorRows.lean that lists a variable, with what it lists TIED to the program's text (the seventh form; the later family's looks); each row that meets fmt, with fmt's text TOLD by the authors' own Lean function (tested against real Go, not proved from fmt's source: count such statements apart). THE CARD IS WHAT COUNTS. Prove the row's statement (the work); the ties are given (YtbojpopgjcmlbaaGreatDoorTie.lean); close each card by the builder's one call (the guide's Derived/Test/ToyasCard.lean, 'card_holds'). Laid BY PROGRAM, IN A SANDBOX (cutbox-door.mjs). By AI agents, Wed Nov 11 2026. No macro, syntax, notation, axiom, sorry.
-/
import Derived.Test.YtbojpopgjcmlbaaGreatDoorRows
import GoSem.ClaimSeven
namespace Go.Proofs.YtbojpopgjcmlbaaGreatDoor
namespace Rows

/-- THE TIED CARD OF 'ndjqlaw05.JsonwriteCanonical'. -/
def jsonwriteCanonicalCard : Claim7 := { stood := { row := jsonwriteCanonicalRow, standIns := [], harness := (true, "a48003ef2c339f8ad0c8986880b2773408704da933b235954eb04b11d3c2a43d"), looks := true }, kinds := [], alts := [], laidByText := true, laidKinds := [.data, .data, .data, .sentinel, .sentinel], laidTests := true, laidLooks := .later }
def JsonwriteCanonicalCardSaid : Prop := Claim7.holds Tryz.pinned (.plain (OpenSpec.ofChange jsonwriteCanonicalSpec)) jsonwriteCanonicalCard

/-- THE TIED CARD OF 'ndjqlaw06.ArithBinary'. -/
def arithBinaryCard : Claim7 := { stood := { row := arithBinaryRow, standIns := [], harness := (true, "a48003ef2c339f8ad0c8986880b2773408704da933b235954eb04b11d3c2a43d"), looks := true }, kinds := [], alts := [], laidByText := true, laidKinds := [.data, .pinned], laidTests := true, laidLooks := .later }
def ArithBinaryCardSaid : Prop := Claim7.holds Tryz.pinned (.plain (OpenSpec.ofChange arithBinarySpec)) arithBinaryCard

/-- THE TIED CARD OF 'ndjqlaw06.ArithOther'. -/
def arithOtherCard : Claim7 := { stood := { row := arithOtherRow, standIns := [], harness := (true, "a48003ef2c339f8ad0c8986880b2773408704da933b235954eb04b11d3c2a43d"), looks := true }, kinds := [], alts := [], laidByText := true, laidKinds := [.data, .pinned], laidTests := true, laidLooks := .later }
def ArithOtherCardSaid : Prop := Claim7.holds Tryz.pinned (.plain (OpenSpec.ofChange arithOtherSpec)) arithOtherCard

/-- THE TIED CARD OF 'ndjqlaw06.ArithStrings'. -/
def arithStringsCard : Claim7 := { stood := { row := arithStringsRow, standIns := [], harness := (true, "a48003ef2c339f8ad0c8986880b2773408704da933b235954eb04b11d3c2a43d"), looks := true }, kinds := [], alts := [], laidByText := true, laidKinds := [.data, .pinned], laidTests := true, laidLooks := .later }
def ArithStringsCardSaid : Prop := Claim7.holds Tryz.pinned (.plain (OpenSpec.ofChange arithStringsSpec)) arithStringsCard

/-- THE TIED CARD OF 'ndjqlaw06.ArithMerge'. -/
def arithMergeCard : Claim7 := { stood := { row := arithMergeRow, standIns := [], harness := (true, "a48003ef2c339f8ad0c8986880b2773408704da933b235954eb04b11d3c2a43d"), looks := true }, kinds := [], alts := [], laidByText := true, laidKinds := [.data, .pinned], laidTests := true, laidLooks := .later }
def ArithMergeCardSaid : Prop := Claim7.holds Tryz.pinned (.plain (OpenSpec.ofChange arithMergeSpec)) arithMergeCard

/-- THE SECOND FORM's CARD OF 'ndjqlaw05.JsonwriteCanonical'. -/
def jsonwriteCanonicalUptoCard : Claim7 := { stood := { row := jsonwriteCanonicalUptoRow, standIns := [], harness := (true, "a48003ef2c339f8ad0c8986880b2773408704da933b235954eb04b11d3c2a43d"), looks := true }, kinds := [], alts := [], laidByText := true, laidKinds := [.data, .data, .data, .sentinel, .sentinel], laidTests := true, laidLooks := .later }
def JsonwriteCanonicalUptoCardSaid : Prop := Claim7.holds Tryz.pinned (.plain (OpenSpec.upto jsonwriteCanonicalSpec)) jsonwriteCanonicalUptoCard

/-- THE SECOND FORM's CARD OF 'ndjqlaw06.ArithBinary'. -/
def arithBinaryUptoCard : Claim7 := { stood := { row := arithBinaryUptoRow, standIns := [], harness := (true, "a48003ef2c339f8ad0c8986880b2773408704da933b235954eb04b11d3c2a43d"), looks := true }, kinds := [], alts := [], laidByText := true, laidKinds := [.data, .pinned], laidTests := true, laidLooks := .later }
def ArithBinaryUptoCardSaid : Prop := Claim7.holds Tryz.pinned (.plain (OpenSpec.upto arithBinarySpec)) arithBinaryUptoCard

/-- THE SECOND FORM's CARD OF 'ndjqlaw06.ArithOther'. -/
def arithOtherUptoCard : Claim7 := { stood := { row := arithOtherUptoRow, standIns := [], harness := (true, "a48003ef2c339f8ad0c8986880b2773408704da933b235954eb04b11d3c2a43d"), looks := true }, kinds := [], alts := [], laidByText := true, laidKinds := [.data, .pinned], laidTests := true, laidLooks := .later }
def ArithOtherUptoCardSaid : Prop := Claim7.holds Tryz.pinned (.plain (OpenSpec.upto arithOtherSpec)) arithOtherUptoCard

/-- THE SECOND FORM's CARD OF 'ndjqlaw06.ArithStrings'. -/
def arithStringsUptoCard : Claim7 := { stood := { row := arithStringsUptoRow, standIns := [], harness := (true, "a48003ef2c339f8ad0c8986880b2773408704da933b235954eb04b11d3c2a43d"), looks := true }, kinds := [], alts := [], laidByText := true, laidKinds := [.data, .pinned], laidTests := true, laidLooks := .later }
def ArithStringsUptoCardSaid : Prop := Claim7.holds Tryz.pinned (.plain (OpenSpec.upto arithStringsSpec)) arithStringsUptoCard

/-- THE SECOND FORM's CARD OF 'ndjqlaw06.ArithMerge'. -/
def arithMergeUptoCard : Claim7 := { stood := { row := arithMergeUptoRow, standIns := [], harness := (true, "a48003ef2c339f8ad0c8986880b2773408704da933b235954eb04b11d3c2a43d"), looks := true }, kinds := [], alts := [], laidByText := true, laidKinds := [.data, .pinned], laidTests := true, laidLooks := .later }
def ArithMergeUptoCardSaid : Prop := Claim7.holds Tryz.pinned (.plain (OpenSpec.upto arithMergeSpec)) arithMergeUptoCard
end Rows
end Go.Proofs.YtbojpopgjcmlbaaGreatDoor
