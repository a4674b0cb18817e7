/-
  DERIVED. GIVEN WITH THE SEED: THE CARDS: each row of YtkohnkofnobakaaGreatDoorRows.lean that lists a variable, with what it lists TIED to the program's text (the seventh form; the later family's looks); each row that meets fmt, with fmt's text TOLD by the authors' own Lean function (tested against real Go, not proved from fmt's source: count such statements apart). THE CARD IS WHAT COUNTS. Prove the row's statement (the work); the ties are given (YtkohnkofnobakaaGreatDoorTie.lean); close each card by the builder's one call (the guide's Derived/Test/ToyasCard.lean, 'card_holds'). Laid BY PROGRAM, IN A SANDBOX (cutbox-door.mjs). By AI agents, Wed Nov 11 2026. No macro, syntax, notation, axiom, sorry.
-/
import Derived.Test.YtkohnkofnobakaaGreatDoorRows
import GoSem.ClaimSeven
namespace Go.Proofs.YtkohnkofnobakaaGreatDoor
namespace Rows

/-- THE TIED CARD OF 'ndjqlaw05.JsonwriteCanonical'. -/
def jsonwriteCanonicalCard : Claim7 := { stood := { row := jsonwriteCanonicalRow, standIns := [], harness := (true, "e8e259c136b5ba57a44b22e2b5aba8ac8222e6cb075d156e758b7739cb995dd2"), looks := true }, kinds := [], alts := [], laidByText := true, laidKinds := [.data, .data, .data, .sentinel, .sentinel], laidTests := true, laidLooks := .later }
def JsonwriteCanonicalCardSaid : Prop := Claim7.holds Tryz.pinned (.plain (OpenSpec.ofChange jsonwriteCanonicalSpec)) jsonwriteCanonicalCard

/-- THE TIED CARD OF 'ndjqlaw06.ArithBinary'. -/
def arithBinaryCard : Claim7 := { stood := { row := arithBinaryRow, standIns := [], harness := (true, "e8e259c136b5ba57a44b22e2b5aba8ac8222e6cb075d156e758b7739cb995dd2"), looks := true }, kinds := [], alts := [], laidByText := true, laidKinds := [.data, .pinned], laidTests := true, laidLooks := .later }
def ArithBinaryCardSaid : Prop := Claim7.holds Tryz.pinned (.plain (OpenSpec.ofChange arithBinarySpec)) arithBinaryCard

/-- THE TIED CARD OF 'ndjqlaw06.ArithOther'. -/
def arithOtherCard : Claim7 := { stood := { row := arithOtherRow, standIns := [], harness := (true, "e8e259c136b5ba57a44b22e2b5aba8ac8222e6cb075d156e758b7739cb995dd2"), looks := true }, kinds := [], alts := [], laidByText := true, laidKinds := [.data, .pinned], laidTests := true, laidLooks := .later }
def ArithOtherCardSaid : Prop := Claim7.holds Tryz.pinned (.plain (OpenSpec.ofChange arithOtherSpec)) arithOtherCard

/-- THE TIED CARD OF 'ndjqlaw06.ArithNumbers'. -/
def arithNumbersCard : Claim7 := { stood := { row := arithNumbersRow, standIns := [], harness := (true, "e8e259c136b5ba57a44b22e2b5aba8ac8222e6cb075d156e758b7739cb995dd2"), looks := true }, kinds := [], alts := [], laidByText := true, laidKinds := [.data, .pinned], laidTests := true, laidLooks := .later }
def ArithNumbersCardSaid : Prop := Claim7.holds Tryz.pinned (.plain (OpenSpec.ofChange arithNumbersSpec)) arithNumbersCard

/-- THE TIED CARD OF 'ndjqlaw06.ArithSums'. -/
def arithSumsCard : Claim7 := { stood := { row := arithSumsRow, standIns := [], harness := (true, "e8e259c136b5ba57a44b22e2b5aba8ac8222e6cb075d156e758b7739cb995dd2"), looks := true }, kinds := [], alts := [], laidByText := true, laidKinds := [.data, .pinned], laidTests := true, laidLooks := .later }
def ArithSumsCardSaid : Prop := Claim7.holds Tryz.pinned (.plain (OpenSpec.ofChange arithSumsSpec)) arithSumsCard

/-- THE TIED CARD OF 'ndjqlaw06.ArithStrings'. -/
def arithStringsCard : Claim7 := { stood := { row := arithStringsRow, standIns := [], harness := (true, "e8e259c136b5ba57a44b22e2b5aba8ac8222e6cb075d156e758b7739cb995dd2"), looks := true }, kinds := [], alts := [], laidByText := true, laidKinds := [.data, .pinned], laidTests := true, laidLooks := .later }
def ArithStringsCardSaid : Prop := Claim7.holds Tryz.pinned (.plain (OpenSpec.ofChange arithStringsSpec)) arithStringsCard

/-- THE TIED CARD OF 'ndjqlaw06.ArithCompare'. -/
def arithCompareCard : Claim7 := { stood := { row := arithCompareRow, standIns := [], harness := (true, "e8e259c136b5ba57a44b22e2b5aba8ac8222e6cb075d156e758b7739cb995dd2"), looks := true }, kinds := [], alts := [], laidByText := true, laidKinds := [.data, .pinned], laidTests := true, laidLooks := .later }
def ArithCompareCardSaid : Prop := Claim7.holds Tryz.pinned (.plain (OpenSpec.ofChange arithCompareSpec)) arithCompareCard

/-- THE TIED CARD OF 'ndjqlaw06.ArithMerge'. -/
def arithMergeCard : Claim7 := { stood := { row := arithMergeRow, standIns := [], harness := (true, "e8e259c136b5ba57a44b22e2b5aba8ac8222e6cb075d156e758b7739cb995dd2"), looks := true }, kinds := [], alts := [], laidByText := true, laidKinds := [.data, .pinned], laidTests := true, laidLooks := .later }
def ArithMergeCardSaid : Prop := Claim7.holds Tryz.pinned (.plain (OpenSpec.ofChange arithMergeSpec)) arithMergeCard

/-- THE SECOND FORM's CARD OF 'ndjqlaw05.JsonwriteCanonical'. -/
def jsonwriteCanonicalUptoCard : Claim7 := { stood := { row := jsonwriteCanonicalUptoRow, standIns := [], harness := (true, "e8e259c136b5ba57a44b22e2b5aba8ac8222e6cb075d156e758b7739cb995dd2"), looks := true }, kinds := [], alts := [], laidByText := true, laidKinds := [.data, .data, .data, .sentinel, .sentinel], laidTests := true, laidLooks := .later }
def JsonwriteCanonicalUptoCardSaid : Prop := Claim7.holds Tryz.pinned (.plain (OpenSpec.upto jsonwriteCanonicalSpec)) jsonwriteCanonicalUptoCard

/-- THE SECOND FORM's CARD OF 'ndjqlaw06.ArithBinary'. -/
def arithBinaryUptoCard : Claim7 := { stood := { row := arithBinaryUptoRow, standIns := [], harness := (true, "e8e259c136b5ba57a44b22e2b5aba8ac8222e6cb075d156e758b7739cb995dd2"), looks := true }, kinds := [], alts := [], laidByText := true, laidKinds := [.data, .pinned], laidTests := true, laidLooks := .later }
def ArithBinaryUptoCardSaid : Prop := Claim7.holds Tryz.pinned (.plain (OpenSpec.upto arithBinarySpec)) arithBinaryUptoCard

/-- THE SECOND FORM's CARD OF 'ndjqlaw06.ArithOther'. -/
def arithOtherUptoCard : Claim7 := { stood := { row := arithOtherUptoRow, standIns := [], harness := (true, "e8e259c136b5ba57a44b22e2b5aba8ac8222e6cb075d156e758b7739cb995dd2"), looks := true }, kinds := [], alts := [], laidByText := true, laidKinds := [.data, .pinned], laidTests := true, laidLooks := .later }
def ArithOtherUptoCardSaid : Prop := Claim7.holds Tryz.pinned (.plain (OpenSpec.upto arithOtherSpec)) arithOtherUptoCard

/-- THE SECOND FORM's CARD OF 'ndjqlaw06.ArithNumbers'. -/
def arithNumbersUptoCard : Claim7 := { stood := { row := arithNumbersUptoRow, standIns := [], harness := (true, "e8e259c136b5ba57a44b22e2b5aba8ac8222e6cb075d156e758b7739cb995dd2"), looks := true }, kinds := [], alts := [], laidByText := true, laidKinds := [.data, .pinned], laidTests := true, laidLooks := .later }
def ArithNumbersUptoCardSaid : Prop := Claim7.holds Tryz.pinned (.plain (OpenSpec.upto arithNumbersSpec)) arithNumbersUptoCard

/-- THE SECOND FORM's CARD OF 'ndjqlaw06.ArithSums'. -/
def arithSumsUptoCard : Claim7 := { stood := { row := arithSumsUptoRow, standIns := [], harness := (true, "e8e259c136b5ba57a44b22e2b5aba8ac8222e6cb075d156e758b7739cb995dd2"), looks := true }, kinds := [], alts := [], laidByText := true, laidKinds := [.data, .pinned], laidTests := true, laidLooks := .later }
def ArithSumsUptoCardSaid : Prop := Claim7.holds Tryz.pinned (.plain (OpenSpec.upto arithSumsSpec)) arithSumsUptoCard

/-- THE SECOND FORM's CARD OF 'ndjqlaw06.ArithStrings'. -/
def arithStringsUptoCard : Claim7 := { stood := { row := arithStringsUptoRow, standIns := [], harness := (true, "e8e259c136b5ba57a44b22e2b5aba8ac8222e6cb075d156e758b7739cb995dd2"), looks := true }, kinds := [], alts := [], laidByText := true, laidKinds := [.data, .pinned], laidTests := true, laidLooks := .later }
def ArithStringsUptoCardSaid : Prop := Claim7.holds Tryz.pinned (.plain (OpenSpec.upto arithStringsSpec)) arithStringsUptoCard

/-- THE SECOND FORM's CARD OF 'ndjqlaw06.ArithCompare'. -/
def arithCompareUptoCard : Claim7 := { stood := { row := arithCompareUptoRow, standIns := [], harness := (true, "e8e259c136b5ba57a44b22e2b5aba8ac8222e6cb075d156e758b7739cb995dd2"), looks := true }, kinds := [], alts := [], laidByText := true, laidKinds := [.data, .pinned], laidTests := true, laidLooks := .later }
def ArithCompareUptoCardSaid : Prop := Claim7.holds Tryz.pinned (.plain (OpenSpec.upto arithCompareSpec)) arithCompareUptoCard

/-- THE SECOND FORM's CARD OF 'ndjqlaw06.ArithMerge'. -/
def arithMergeUptoCard : Claim7 := { stood := { row := arithMergeUptoRow, standIns := [], harness := (true, "e8e259c136b5ba57a44b22e2b5aba8ac8222e6cb075d156e758b7739cb995dd2"), looks := true }, kinds := [], alts := [], laidByText := true, laidKinds := [.data, .pinned], laidTests := true, laidLooks := .later }
def ArithMergeUptoCardSaid : Prop := Claim7.holds Tryz.pinned (.plain (OpenSpec.upto arithMergeSpec)) arithMergeUptoCard
end Rows
end Go.Proofs.YtkohnkofnobakaaGreatDoor
