/-
  DERIVED. GIVEN WITH THE SEED: THE CARDS: each row of YtoleoimmpggldaaGreatDoorRows.lean that lists a variable, with what it lists TIED to the program's text (the seventh form; the later family's looks); each row that meets fmt, with fmt's text TOLD by the authors' own Lean function (tested against real Go, not proved from fmt's source: count such statements apart). THE CARD IS WHAT COUNTS. Prove the row's statement (the work); the ties are given (YtoleoimmpggldaaGreatDoorTie.lean); close each card by the builder's one call (the guide's Derived/Test/ToyasCard.lean, 'card_holds'). Laid BY PROGRAM, IN A SANDBOX (cutbox-door.mjs). By AI agents, Wed Nov 11 2026. No macro, syntax, notation, axiom, sorry.
-/
import Derived.Test.YtoleoimmpggldaaGreatDoorRows
import GoSem.ClaimSeven
namespace Go.Proofs.YtoleoimmpggldaaGreatDoor
namespace Rows

/-- THE TIED CARD OF 'ndjqlaw11.FparseText'. -/
def fparseTextCard : Claim7 := { stood := { row := fparseTextRow, standIns := [], harness := (true, "1094e11942b7e07c7e3a26a3f37ad2bbcfddb86e201155a64aec08ba04209d28"), looks := true }, kinds := [], alts := [], laidByText := true, laidKinds := [.data, .data, .data, .sentinel, .sentinel, .data], laidTests := true, laidLooks := .later }
def FparseTextCardSaid : Prop := Claim7.holds Tryz.pinned (.plain (OpenSpec.ofChange fparseTextSpec)) fparseTextCard

/-- THE TIED CARD OF 'ndjqlaw11.FparseSpoilt'. -/
def fparseSpoiltCard : Claim7 := { stood := { row := fparseSpoiltRow, standIns := [], harness := (true, "1094e11942b7e07c7e3a26a3f37ad2bbcfddb86e201155a64aec08ba04209d28"), looks := true }, kinds := [], alts := [], laidByText := true, laidKinds := [.data, .data, .data, .sentinel, .sentinel, .data], laidTests := true, laidLooks := .later }
def FparseSpoiltCardSaid : Prop := Claim7.holds Tryz.pinned (.plain (OpenSpec.ofChange fparseSpoiltSpec)) fparseSpoiltCard

/-- THE SECOND FORM's CARD OF 'ndjqlaw11.FparseText'. -/
def fparseTextUptoCard : Claim7 := { stood := { row := fparseTextUptoRow, standIns := [], harness := (true, "1094e11942b7e07c7e3a26a3f37ad2bbcfddb86e201155a64aec08ba04209d28"), looks := true }, kinds := [], alts := [], laidByText := true, laidKinds := [.data, .data, .data, .sentinel, .sentinel, .data], laidTests := true, laidLooks := .later }
def FparseTextUptoCardSaid : Prop := Claim7.holds Tryz.pinned (.plain (OpenSpec.upto fparseTextSpec)) fparseTextUptoCard

/-- THE SECOND FORM's CARD OF 'ndjqlaw11.FparseSpoilt'. -/
def fparseSpoiltUptoCard : Claim7 := { stood := { row := fparseSpoiltUptoRow, standIns := [], harness := (true, "1094e11942b7e07c7e3a26a3f37ad2bbcfddb86e201155a64aec08ba04209d28"), looks := true }, kinds := [], alts := [], laidByText := true, laidKinds := [.data, .data, .data, .sentinel, .sentinel, .data], laidTests := true, laidLooks := .later }
def FparseSpoiltUptoCardSaid : Prop := Claim7.holds Tryz.pinned (.plain (OpenSpec.upto fparseSpoiltSpec)) fparseSpoiltUptoCard
end Rows
end Go.Proofs.YtoleoimmpggldaaGreatDoor
