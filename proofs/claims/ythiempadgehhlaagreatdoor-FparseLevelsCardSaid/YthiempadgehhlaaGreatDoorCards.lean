/-
  DERIVED. GIVEN WITH THE SEED: THE CARDS: each row of YthiempadgehhlaaGreatDoorRows.lean that lists a variable, with what it lists TIED to the program's text (the seventh form; the later family's looks); each row that meets fmt, with fmt's text TOLD by the authors' own Lean function (tested against real Go, not proved from fmt's source: count such statements apart). THE CARD IS WHAT COUNTS. Prove the row's statement (the work); the ties are given (YthiempadgehhlaaGreatDoorTie.lean); close each card by the builder's one call (the guide's Derived/Test/ToyasCard.lean, 'card_holds'). Laid BY PROGRAM, IN A SANDBOX (cutbox-door.mjs). By AI agents, Wed Nov 11 2026. No macro, syntax, notation, axiom, sorry.
-/
import Derived.Test.YthiempadgehhlaaGreatDoorRows
import GoSem.ClaimSeven
namespace Go.Proofs.YthiempadgehhlaaGreatDoor
namespace Rows

/-- THE TIED CARD OF 'ndjqlaw11.FparsePrefix'. -/
def fparsePrefixCard : Claim7 := { stood := { row := fparsePrefixRow, standIns := [], harness := (true, "68346b4f2518dc4dbdad05fdf1e24bf9370ef249ca5a731b6e5daf17350222b9"), looks := true }, kinds := [], alts := [], laidByText := true, laidKinds := [.data, .data, .data, .sentinel, .sentinel, .data], laidTests := true, laidLooks := .later }
def FparsePrefixCardSaid : Prop := Claim7.holds Tryz.pinned (.plain (OpenSpec.ofChange fparsePrefixSpec)) fparsePrefixCard

/-- THE TIED CARD OF 'ndjqlaw11.FparseParens'. -/
def fparseParensCard : Claim7 := { stood := { row := fparseParensRow, standIns := [], harness := (true, "68346b4f2518dc4dbdad05fdf1e24bf9370ef249ca5a731b6e5daf17350222b9"), looks := true }, kinds := [], alts := [], laidByText := true, laidKinds := [.data, .data, .data, .sentinel, .sentinel, .data], laidTests := true, laidLooks := .later }
def FparseParensCardSaid : Prop := Claim7.holds Tryz.pinned (.plain (OpenSpec.ofChange fparseParensSpec)) fparseParensCard

/-- THE TIED CARD OF 'ndjqlaw11.FparseLevels'. -/
def fparseLevelsCard : Claim7 := { stood := { row := fparseLevelsRow, standIns := [], harness := (true, "68346b4f2518dc4dbdad05fdf1e24bf9370ef249ca5a731b6e5daf17350222b9"), looks := true }, kinds := [], alts := [], laidByText := true, laidKinds := [.data, .data, .data, .sentinel, .sentinel, .data], laidTests := true, laidLooks := .later }
def FparseLevelsCardSaid : Prop := Claim7.holds Tryz.pinned (.plain (OpenSpec.ofChange fparseLevelsSpec)) fparseLevelsCard

/-- THE TIED CARD OF 'ndjqlaw11.FparseObject'. -/
def fparseObjectCard : Claim7 := { stood := { row := fparseObjectRow, standIns := [], harness := (true, "68346b4f2518dc4dbdad05fdf1e24bf9370ef249ca5a731b6e5daf17350222b9"), looks := true }, kinds := [], alts := [], laidByText := true, laidKinds := [.data, .data, .data, .sentinel, .sentinel, .data], laidTests := true, laidLooks := .later }
def FparseObjectCardSaid : Prop := Claim7.holds Tryz.pinned (.plain (OpenSpec.ofChange fparseObjectSpec)) fparseObjectCard

/-- THE SECOND FORM's CARD OF 'ndjqlaw11.FparsePrefix'. -/
def fparsePrefixUptoCard : Claim7 := { stood := { row := fparsePrefixUptoRow, standIns := [], harness := (true, "68346b4f2518dc4dbdad05fdf1e24bf9370ef249ca5a731b6e5daf17350222b9"), looks := true }, kinds := [], alts := [], laidByText := true, laidKinds := [.data, .data, .data, .sentinel, .sentinel, .data], laidTests := true, laidLooks := .later }
def FparsePrefixUptoCardSaid : Prop := Claim7.holds Tryz.pinned (.plain (OpenSpec.upto fparsePrefixSpec)) fparsePrefixUptoCard

/-- THE SECOND FORM's CARD OF 'ndjqlaw11.FparseParens'. -/
def fparseParensUptoCard : Claim7 := { stood := { row := fparseParensUptoRow, standIns := [], harness := (true, "68346b4f2518dc4dbdad05fdf1e24bf9370ef249ca5a731b6e5daf17350222b9"), looks := true }, kinds := [], alts := [], laidByText := true, laidKinds := [.data, .data, .data, .sentinel, .sentinel, .data], laidTests := true, laidLooks := .later }
def FparseParensUptoCardSaid : Prop := Claim7.holds Tryz.pinned (.plain (OpenSpec.upto fparseParensSpec)) fparseParensUptoCard

/-- THE SECOND FORM's CARD OF 'ndjqlaw11.FparseLevels'. -/
def fparseLevelsUptoCard : Claim7 := { stood := { row := fparseLevelsUptoRow, standIns := [], harness := (true, "68346b4f2518dc4dbdad05fdf1e24bf9370ef249ca5a731b6e5daf17350222b9"), looks := true }, kinds := [], alts := [], laidByText := true, laidKinds := [.data, .data, .data, .sentinel, .sentinel, .data], laidTests := true, laidLooks := .later }
def FparseLevelsUptoCardSaid : Prop := Claim7.holds Tryz.pinned (.plain (OpenSpec.upto fparseLevelsSpec)) fparseLevelsUptoCard

/-- THE SECOND FORM's CARD OF 'ndjqlaw11.FparseObject'. -/
def fparseObjectUptoCard : Claim7 := { stood := { row := fparseObjectUptoRow, standIns := [], harness := (true, "68346b4f2518dc4dbdad05fdf1e24bf9370ef249ca5a731b6e5daf17350222b9"), looks := true }, kinds := [], alts := [], laidByText := true, laidKinds := [.data, .data, .data, .sentinel, .sentinel, .data], laidTests := true, laidLooks := .later }
def FparseObjectUptoCardSaid : Prop := Claim7.holds Tryz.pinned (.plain (OpenSpec.upto fparseObjectSpec)) fparseObjectUptoCard
end Rows
end Go.Proofs.YthiempadgehhlaaGreatDoor
