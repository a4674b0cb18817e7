/-
  DERIVED. GIVEN WITH THE SEED: THE CARDS: each row of YthgnelkppibpeaaGreatDoorRows.lean that lists a variable, with what it lists TIED to the program's text (the seventh form; the later family's looks); each row that meets fmt, with fmt's text TOLD by the authors' own Lean function (tested against real Go, not proved from fmt's source: count such statements apart). THE CARD IS WHAT COUNTS. Prove the row's statement (the work); the ties are given (YthgnelkppibpeaaGreatDoorTie.lean); close each card by the builder's one call (the guide's Derived/Test/ToyasCard.lean, 'card_holds'). Laid BY PROGRAM, IN A SANDBOX (cutbox-door.mjs). By AI agents, Wed Nov 11 2026. No macro, syntax, notation, axiom, sorry.
-/
import Derived.Test.YthgnelkppibpeaaGreatDoorRows
import GoSem.ClaimSeven
namespace Go.Proofs.YthgnelkppibpeaaGreatDoor
namespace Rows

/-- THE TIED CARD OF 'ndjqlaw11.FparseText'. -/
def fparseTextCard : Claim7 := { stood := { row := fparseTextRow, standIns := [], harness := (true, "51c9f1beeeb428c6fbeaf22de7474c4047c6a6aa7acb238436e51cfefa4c456a"), looks := true }, kinds := [], alts := [], laidByText := true, laidKinds := [.data, .data, .data, .sentinel, .sentinel, .data], laidTests := true, laidLooks := .later }
def FparseTextCardSaid : Prop := Claim7.holds Tryz.pinned (.plain (OpenSpec.ofChange fparseTextSpec)) fparseTextCard

/-- THE TIED CARD OF 'ndjqlaw11.FparseSpoilt'. -/
def fparseSpoiltCard : Claim7 := { stood := { row := fparseSpoiltRow, standIns := [], harness := (true, "51c9f1beeeb428c6fbeaf22de7474c4047c6a6aa7acb238436e51cfefa4c456a"), looks := true }, kinds := [], alts := [], laidByText := true, laidKinds := [.data, .data, .data, .sentinel, .sentinel, .data], laidTests := true, laidLooks := .later }
def FparseSpoiltCardSaid : Prop := Claim7.holds Tryz.pinned (.plain (OpenSpec.ofChange fparseSpoiltSpec)) fparseSpoiltCard

/-- THE TIED CARD OF 'ndjqlaw11.FparsePrefix'. -/
def fparsePrefixCard : Claim7 := { stood := { row := fparsePrefixRow, standIns := [], harness := (true, "51c9f1beeeb428c6fbeaf22de7474c4047c6a6aa7acb238436e51cfefa4c456a"), looks := true }, kinds := [], alts := [], laidByText := true, laidKinds := [.data, .data, .data, .sentinel, .sentinel, .data], laidTests := true, laidLooks := .later }
def FparsePrefixCardSaid : Prop := Claim7.holds Tryz.pinned (.plain (OpenSpec.ofChange fparsePrefixSpec)) fparsePrefixCard

/-- THE TIED CARD OF 'ndjqlaw11.FparseParens'. -/
def fparseParensCard : Claim7 := { stood := { row := fparseParensRow, standIns := [], harness := (true, "51c9f1beeeb428c6fbeaf22de7474c4047c6a6aa7acb238436e51cfefa4c456a"), looks := true }, kinds := [], alts := [], laidByText := true, laidKinds := [.data, .data, .data, .sentinel, .sentinel, .data], laidTests := true, laidLooks := .later }
def FparseParensCardSaid : Prop := Claim7.holds Tryz.pinned (.plain (OpenSpec.ofChange fparseParensSpec)) fparseParensCard

/-- THE TIED CARD OF 'ndjqlaw11.FparseLevels'. -/
def fparseLevelsCard : Claim7 := { stood := { row := fparseLevelsRow, standIns := [], harness := (true, "51c9f1beeeb428c6fbeaf22de7474c4047c6a6aa7acb238436e51cfefa4c456a"), looks := true }, kinds := [], alts := [], laidByText := true, laidKinds := [.data, .data, .data, .sentinel, .sentinel, .data], laidTests := true, laidLooks := .later }
def FparseLevelsCardSaid : Prop := Claim7.holds Tryz.pinned (.plain (OpenSpec.ofChange fparseLevelsSpec)) fparseLevelsCard

/-- THE TIED CARD OF 'ndjqlaw11.FparseLimit'. -/
def fparseLimitCard : Claim7 := { stood := { row := fparseLimitRow, standIns := [], harness := (true, "51c9f1beeeb428c6fbeaf22de7474c4047c6a6aa7acb238436e51cfefa4c456a"), looks := true }, kinds := [], alts := [], laidByText := true, laidKinds := [.data, .data, .data, .sentinel, .sentinel, .data], laidTests := true, laidLooks := .later }
def FparseLimitCardSaid : Prop := Claim7.holds Tryz.pinned (.plain (OpenSpec.ofChange fparseLimitSpec)) fparseLimitCard

/-- THE SECOND FORM's CARD OF 'ndjqlaw11.FparseText'. -/
def fparseTextUptoCard : Claim7 := { stood := { row := fparseTextUptoRow, standIns := [], harness := (true, "51c9f1beeeb428c6fbeaf22de7474c4047c6a6aa7acb238436e51cfefa4c456a"), looks := true }, kinds := [], alts := [], laidByText := true, laidKinds := [.data, .data, .data, .sentinel, .sentinel, .data], laidTests := true, laidLooks := .later }
def FparseTextUptoCardSaid : Prop := Claim7.holds Tryz.pinned (.plain (OpenSpec.upto fparseTextSpec)) fparseTextUptoCard

/-- THE SECOND FORM's CARD OF 'ndjqlaw11.FparseSpoilt'. -/
def fparseSpoiltUptoCard : Claim7 := { stood := { row := fparseSpoiltUptoRow, standIns := [], harness := (true, "51c9f1beeeb428c6fbeaf22de7474c4047c6a6aa7acb238436e51cfefa4c456a"), looks := true }, kinds := [], alts := [], laidByText := true, laidKinds := [.data, .data, .data, .sentinel, .sentinel, .data], laidTests := true, laidLooks := .later }
def FparseSpoiltUptoCardSaid : Prop := Claim7.holds Tryz.pinned (.plain (OpenSpec.upto fparseSpoiltSpec)) fparseSpoiltUptoCard

/-- THE SECOND FORM's CARD OF 'ndjqlaw11.FparsePrefix'. -/
def fparsePrefixUptoCard : Claim7 := { stood := { row := fparsePrefixUptoRow, standIns := [], harness := (true, "51c9f1beeeb428c6fbeaf22de7474c4047c6a6aa7acb238436e51cfefa4c456a"), looks := true }, kinds := [], alts := [], laidByText := true, laidKinds := [.data, .data, .data, .sentinel, .sentinel, .data], laidTests := true, laidLooks := .later }
def FparsePrefixUptoCardSaid : Prop := Claim7.holds Tryz.pinned (.plain (OpenSpec.upto fparsePrefixSpec)) fparsePrefixUptoCard

/-- THE SECOND FORM's CARD OF 'ndjqlaw11.FparseParens'. -/
def fparseParensUptoCard : Claim7 := { stood := { row := fparseParensUptoRow, standIns := [], harness := (true, "51c9f1beeeb428c6fbeaf22de7474c4047c6a6aa7acb238436e51cfefa4c456a"), looks := true }, kinds := [], alts := [], laidByText := true, laidKinds := [.data, .data, .data, .sentinel, .sentinel, .data], laidTests := true, laidLooks := .later }
def FparseParensUptoCardSaid : Prop := Claim7.holds Tryz.pinned (.plain (OpenSpec.upto fparseParensSpec)) fparseParensUptoCard

/-- THE SECOND FORM's CARD OF 'ndjqlaw11.FparseLevels'. -/
def fparseLevelsUptoCard : Claim7 := { stood := { row := fparseLevelsUptoRow, standIns := [], harness := (true, "51c9f1beeeb428c6fbeaf22de7474c4047c6a6aa7acb238436e51cfefa4c456a"), looks := true }, kinds := [], alts := [], laidByText := true, laidKinds := [.data, .data, .data, .sentinel, .sentinel, .data], laidTests := true, laidLooks := .later }
def FparseLevelsUptoCardSaid : Prop := Claim7.holds Tryz.pinned (.plain (OpenSpec.upto fparseLevelsSpec)) fparseLevelsUptoCard

/-- THE SECOND FORM's CARD OF 'ndjqlaw11.FparseLimit'. -/
def fparseLimitUptoCard : Claim7 := { stood := { row := fparseLimitUptoRow, standIns := [], harness := (true, "51c9f1beeeb428c6fbeaf22de7474c4047c6a6aa7acb238436e51cfefa4c456a"), looks := true }, kinds := [], alts := [], laidByText := true, laidKinds := [.data, .data, .data, .sentinel, .sentinel, .data], laidTests := true, laidLooks := .later }
def FparseLimitUptoCardSaid : Prop := Claim7.holds Tryz.pinned (.plain (OpenSpec.upto fparseLimitSpec)) fparseLimitUptoCard
end Rows
end Go.Proofs.YthgnelkppibpeaaGreatDoor
