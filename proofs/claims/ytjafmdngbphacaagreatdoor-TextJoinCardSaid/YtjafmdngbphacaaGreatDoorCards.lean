/-
  DERIVED. GIVEN WITH THE SEED: THE CARDS: each row of YtjafmdngbphacaaGreatDoorRows.lean that lists a variable, with what it lists TIED to the program's text (the seventh form; the later family's looks); each row that meets fmt, with fmt's text TOLD by the authors' own Lean function (tested against real Go, not proved from fmt's source: count such statements apart). THE CARD IS WHAT COUNTS. Prove the row's statement (the work); the ties are given (YtjafmdngbphacaaGreatDoorTie.lean); close each card by the builder's one call (the guide's Derived/Test/ToyasCard.lean, 'card_holds'). Laid BY PROGRAM, IN A SANDBOX (cutbox-door.mjs). By AI agents, Wed Nov 11 2026. No macro, syntax, notation, axiom, sorry.
-/
import Derived.Test.YtjafmdngbphacaaGreatDoorRows
import GoSem.ClaimSeven
namespace Go.Proofs.YtjafmdngbphacaaGreatDoor
namespace Rows

/-- THE TIED CARD OF 'ndjqlaw06.ArithBinary'. -/
def arithBinaryCard : Claim7 := { stood := { row := arithBinaryRow, standIns := [], harness := (true, "10c1372dec826cae65f3e66b417b983d7671a28685dd456c4a7323bee10aa888"), looks := true }, kinds := [], alts := [], laidByText := true, laidKinds := [.data, .pinned], laidTests := true, laidLooks := .later }
def ArithBinaryCardSaid : Prop := Claim7.holds Tryz.pinned (.plain (OpenSpec.ofChange arithBinarySpec)) arithBinaryCard

/-- THE TIED CARD OF 'ndjqlaw06.ArithOther'. -/
def arithOtherCard : Claim7 := { stood := { row := arithOtherRow, standIns := [], harness := (true, "10c1372dec826cae65f3e66b417b983d7671a28685dd456c4a7323bee10aa888"), looks := true }, kinds := [], alts := [], laidByText := true, laidKinds := [.data, .pinned], laidTests := true, laidLooks := .later }
def ArithOtherCardSaid : Prop := Claim7.holds Tryz.pinned (.plain (OpenSpec.ofChange arithOtherSpec)) arithOtherCard

/-- THE TIED CARD OF 'ndjqlaw06.ArithMerge'. -/
def arithMergeCard : Claim7 := { stood := { row := arithMergeRow, standIns := [], harness := (true, "10c1372dec826cae65f3e66b417b983d7671a28685dd456c4a7323bee10aa888"), looks := true }, kinds := [], alts := [], laidByText := true, laidKinds := [.data, .pinned], laidTests := true, laidLooks := .later }
def ArithMergeCardSaid : Prop := Claim7.holds Tryz.pinned (.plain (OpenSpec.ofChange arithMergeSpec)) arithMergeCard

/-- THE TIED CARD OF 'ndjqlaw08.TextOne'. -/
def textOneCard : Claim7 := { stood := { row := textOneRow, standIns := [], harness := (true, "10c1372dec826cae65f3e66b417b983d7671a28685dd456c4a7323bee10aa888"), looks := true }, kinds := [], alts := [], laidByText := true, laidKinds := [.data, .data, .data, .data, .sentinel, .sentinel, .pinned], laidTests := true, laidLooks := .later }
def TextOneCardSaid : Prop := Claim7.holds Tryz.pinned (.plain (OpenSpec.ofChange textOneSpec)) textOneCard

/-- THE TIED CARD OF 'ndjqlaw08.TextTwo'. -/
def textTwoCard : Claim7 := { stood := { row := textTwoRow, standIns := [], harness := (true, "10c1372dec826cae65f3e66b417b983d7671a28685dd456c4a7323bee10aa888"), looks := true }, kinds := [], alts := [], laidByText := true, laidKinds := [.data, .data, .data, .data, .sentinel, .sentinel, .pinned], laidTests := true, laidLooks := .later }
def TextTwoCardSaid : Prop := Claim7.holds Tryz.pinned (.plain (OpenSpec.ofChange textTwoSpec)) textTwoCard

/-- THE TIED CARD OF 'ndjqlaw08.TextBack'. -/
def textBackCard : Claim7 := { stood := { row := textBackRow, standIns := [], harness := (true, "10c1372dec826cae65f3e66b417b983d7671a28685dd456c4a7323bee10aa888"), looks := true }, kinds := [], alts := [], laidByText := true, laidKinds := [.data, .data, .data, .data, .sentinel, .sentinel, .pinned], laidTests := true, laidLooks := .later }
def TextBackCardSaid : Prop := Claim7.holds Tryz.pinned (.plain (OpenSpec.ofChange textBackSpec)) textBackCard

/-- THE TIED CARD OF 'ndjqlaw08.TextJoin'. -/
def textJoinCard : Claim7 := { stood := { row := textJoinRow, standIns := [], harness := (true, "10c1372dec826cae65f3e66b417b983d7671a28685dd456c4a7323bee10aa888"), looks := true }, kinds := [], alts := [], laidByText := true, laidKinds := [.data, .data, .data, .data, .sentinel, .sentinel, .pinned], laidTests := true, laidLooks := .later }
def TextJoinCardSaid : Prop := Claim7.holds Tryz.pinned (.plain (OpenSpec.ofChange textJoinSpec)) textJoinCard

/-- THE TIED CARD OF 'ndjqlaw08.TextCut'. -/
def textCutCard : Claim7 := { stood := { row := textCutRow, standIns := [], harness := (true, "10c1372dec826cae65f3e66b417b983d7671a28685dd456c4a7323bee10aa888"), looks := true }, kinds := [], alts := [], laidByText := true, laidKinds := [.data, .data, .data, .data, .sentinel, .sentinel, .pinned], laidTests := true, laidLooks := .later }
def TextCutCardSaid : Prop := Claim7.holds Tryz.pinned (.plain (OpenSpec.ofChange textCutSpec)) textCutCard

/-- THE TIED CARD OF 'ndjqlaw08.TextCase'. -/
def textCaseCard : Claim7 := { stood := { row := textCaseRow, standIns := [], harness := (true, "10c1372dec826cae65f3e66b417b983d7671a28685dd456c4a7323bee10aa888"), looks := true }, kinds := [], alts := [], laidByText := true, laidKinds := [.data, .data, .data, .data, .sentinel, .sentinel, .pinned], laidTests := true, laidLooks := .later }
def TextCaseCardSaid : Prop := Claim7.holds Tryz.pinned (.plain (OpenSpec.ofChange textCaseSpec)) textCaseCard

/-- THE SECOND FORM's CARD OF 'ndjqlaw06.ArithBinary'. -/
def arithBinaryUptoCard : Claim7 := { stood := { row := arithBinaryUptoRow, standIns := [], harness := (true, "10c1372dec826cae65f3e66b417b983d7671a28685dd456c4a7323bee10aa888"), looks := true }, kinds := [], alts := [], laidByText := true, laidKinds := [.data, .pinned], laidTests := true, laidLooks := .later }
def ArithBinaryUptoCardSaid : Prop := Claim7.holds Tryz.pinned (.plain (OpenSpec.upto arithBinarySpec)) arithBinaryUptoCard

/-- THE SECOND FORM's CARD OF 'ndjqlaw06.ArithOther'. -/
def arithOtherUptoCard : Claim7 := { stood := { row := arithOtherUptoRow, standIns := [], harness := (true, "10c1372dec826cae65f3e66b417b983d7671a28685dd456c4a7323bee10aa888"), looks := true }, kinds := [], alts := [], laidByText := true, laidKinds := [.data, .pinned], laidTests := true, laidLooks := .later }
def ArithOtherUptoCardSaid : Prop := Claim7.holds Tryz.pinned (.plain (OpenSpec.upto arithOtherSpec)) arithOtherUptoCard

/-- THE SECOND FORM's CARD OF 'ndjqlaw06.ArithMerge'. -/
def arithMergeUptoCard : Claim7 := { stood := { row := arithMergeUptoRow, standIns := [], harness := (true, "10c1372dec826cae65f3e66b417b983d7671a28685dd456c4a7323bee10aa888"), looks := true }, kinds := [], alts := [], laidByText := true, laidKinds := [.data, .pinned], laidTests := true, laidLooks := .later }
def ArithMergeUptoCardSaid : Prop := Claim7.holds Tryz.pinned (.plain (OpenSpec.upto arithMergeSpec)) arithMergeUptoCard

/-- THE SECOND FORM's CARD OF 'ndjqlaw08.TextOne'. -/
def textOneUptoCard : Claim7 := { stood := { row := textOneUptoRow, standIns := [], harness := (true, "10c1372dec826cae65f3e66b417b983d7671a28685dd456c4a7323bee10aa888"), looks := true }, kinds := [], alts := [], laidByText := true, laidKinds := [.data, .data, .data, .data, .sentinel, .sentinel, .pinned], laidTests := true, laidLooks := .later }
def TextOneUptoCardSaid : Prop := Claim7.holds Tryz.pinned (.plain (OpenSpec.upto textOneSpec)) textOneUptoCard

/-- THE SECOND FORM's CARD OF 'ndjqlaw08.TextTwo'. -/
def textTwoUptoCard : Claim7 := { stood := { row := textTwoUptoRow, standIns := [], harness := (true, "10c1372dec826cae65f3e66b417b983d7671a28685dd456c4a7323bee10aa888"), looks := true }, kinds := [], alts := [], laidByText := true, laidKinds := [.data, .data, .data, .data, .sentinel, .sentinel, .pinned], laidTests := true, laidLooks := .later }
def TextTwoUptoCardSaid : Prop := Claim7.holds Tryz.pinned (.plain (OpenSpec.upto textTwoSpec)) textTwoUptoCard

/-- THE SECOND FORM's CARD OF 'ndjqlaw08.TextBack'. -/
def textBackUptoCard : Claim7 := { stood := { row := textBackUptoRow, standIns := [], harness := (true, "10c1372dec826cae65f3e66b417b983d7671a28685dd456c4a7323bee10aa888"), looks := true }, kinds := [], alts := [], laidByText := true, laidKinds := [.data, .data, .data, .data, .sentinel, .sentinel, .pinned], laidTests := true, laidLooks := .later }
def TextBackUptoCardSaid : Prop := Claim7.holds Tryz.pinned (.plain (OpenSpec.upto textBackSpec)) textBackUptoCard

/-- THE SECOND FORM's CARD OF 'ndjqlaw08.TextJoin'. -/
def textJoinUptoCard : Claim7 := { stood := { row := textJoinUptoRow, standIns := [], harness := (true, "10c1372dec826cae65f3e66b417b983d7671a28685dd456c4a7323bee10aa888"), looks := true }, kinds := [], alts := [], laidByText := true, laidKinds := [.data, .data, .data, .data, .sentinel, .sentinel, .pinned], laidTests := true, laidLooks := .later }
def TextJoinUptoCardSaid : Prop := Claim7.holds Tryz.pinned (.plain (OpenSpec.upto textJoinSpec)) textJoinUptoCard

/-- THE SECOND FORM's CARD OF 'ndjqlaw08.TextCut'. -/
def textCutUptoCard : Claim7 := { stood := { row := textCutUptoRow, standIns := [], harness := (true, "10c1372dec826cae65f3e66b417b983d7671a28685dd456c4a7323bee10aa888"), looks := true }, kinds := [], alts := [], laidByText := true, laidKinds := [.data, .data, .data, .data, .sentinel, .sentinel, .pinned], laidTests := true, laidLooks := .later }
def TextCutUptoCardSaid : Prop := Claim7.holds Tryz.pinned (.plain (OpenSpec.upto textCutSpec)) textCutUptoCard

/-- THE SECOND FORM's CARD OF 'ndjqlaw08.TextCase'. -/
def textCaseUptoCard : Claim7 := { stood := { row := textCaseUptoRow, standIns := [], harness := (true, "10c1372dec826cae65f3e66b417b983d7671a28685dd456c4a7323bee10aa888"), looks := true }, kinds := [], alts := [], laidByText := true, laidKinds := [.data, .data, .data, .data, .sentinel, .sentinel, .pinned], laidTests := true, laidLooks := .later }
def TextCaseUptoCardSaid : Prop := Claim7.holds Tryz.pinned (.plain (OpenSpec.upto textCaseSpec)) textCaseUptoCard
end Rows
end Go.Proofs.YtjafmdngbphacaaGreatDoor
