/-
  DERIVED. GIVEN WITH THE SEED: THE CARDS: each row of YtacnpligpbiamaaDoorRows.lean that lists a variable, with what it lists TIED to the program's text (the seventh form; the later family's looks); each row that meets fmt, with fmt's text TOLD by the authors' own Lean function (tested against real Go, not proved from fmt's source: count such statements apart). THE CARD IS WHAT COUNTS. Prove the row's statement (the work); the ties are given (YtacnpligpbiamaaDoorTie.lean); close each card by the builder's one call (the guide's Derived/Test/ToyasCard.lean, 'card_holds'). Laid BY PROGRAM, IN A SANDBOX (cutbox-door.mjs). By AI agents, Wed Nov 11 2026. No macro, syntax, notation, axiom, sorry.
-/
import Derived.Test.YtacnpligpbiamaaDoorRows
import GoSem.ClaimSeven
namespace Go.Proofs.YtacnpligpbiamaaDoor
namespace Rows

/-- THE TIED CARD OF 'ndjqlaw03.JsonlexQuoted'. -/
def jsonlexQuotedCard : Claim7 := { stood := { row := jsonlexQuotedRow, standIns := [], harness := (true, "94b029e1724316776922255b4e7b0432f34895770fb59f46833ace8ee1dce46c"), looks := true }, kinds := [], alts := [], laidByText := true, laidKinds := [.data, .data, .data, .sentinel, .sentinel], laidTests := true, laidLooks := .later }
def JsonlexQuotedCardSaid : Prop := Claim7.holds Tryd.pinned (.plain (OpenSpec.ofChange jsonlexQuotedSpec)) jsonlexQuotedCard

/-- THE TIED CARD OF 'ndjqlaw05.JsonwriteText'. -/
def jsonwriteTextCard : Claim7 := { stood := { row := jsonwriteTextRow, standIns := [], harness := (true, "94b029e1724316776922255b4e7b0432f34895770fb59f46833ace8ee1dce46c"), looks := true }, kinds := [], alts := [], laidByText := true, laidKinds := [.data, .data, .data], laidTests := true, laidLooks := .later }
def JsonwriteTextCardSaid : Prop := Claim7.holds Tryd.pinned (.plain (OpenSpec.ofChange jsonwriteTextSpec)) jsonwriteTextCard

/-- THE TIED CARD OF 'ndjqlaw05.JsonwriteOwn'. -/
def jsonwriteOwnCard : Claim7 := { stood := { row := jsonwriteOwnRow, standIns := [], harness := (true, "94b029e1724316776922255b4e7b0432f34895770fb59f46833ace8ee1dce46c"), looks := true }, kinds := [], alts := [], laidByText := true, laidKinds := [.data, .data, .data], laidTests := true, laidLooks := .later }
def JsonwriteOwnCardSaid : Prop := Claim7.holds Tryd.pinned (.plain (OpenSpec.ofChange jsonwriteOwnSpec)) jsonwriteOwnCard

/-- THE TIED CARD OF 'ndjqlaw05.JsonwriteInjective'. -/
def jsonwriteInjectiveCard : Claim7 := { stood := { row := jsonwriteInjectiveRow, standIns := [], harness := (true, "94b029e1724316776922255b4e7b0432f34895770fb59f46833ace8ee1dce46c"), looks := true }, kinds := [], alts := [], laidByText := true, laidKinds := [.data, .data, .data], laidTests := true, laidLooks := .later }
def JsonwriteInjectiveCardSaid : Prop := Claim7.holds Tryd.pinned (.plain (OpenSpec.ofChange jsonwriteInjectiveSpec)) jsonwriteInjectiveCard

/-- THE TIED CARD OF 'ndjqlaw05.JsonwriteParts'. -/
def jsonwritePartsCard : Claim7 := { stood := { row := jsonwritePartsRow, standIns := [], harness := (true, "94b029e1724316776922255b4e7b0432f34895770fb59f46833ace8ee1dce46c"), looks := true }, kinds := [], alts := [], laidByText := true, laidKinds := [.data, .data, .data], laidTests := true, laidLooks := .later }
def JsonwritePartsCardSaid : Prop := Claim7.holds Tryd.pinned (.plain (OpenSpec.ofChange jsonwritePartsSpec)) jsonwritePartsCard

/-- THE SECOND FORM's CARD OF 'ndjqlaw03.JsonlexQuoted'. -/
def jsonlexQuotedUptoCard : Claim7 := { stood := { row := jsonlexQuotedUptoRow, standIns := [], harness := (true, "94b029e1724316776922255b4e7b0432f34895770fb59f46833ace8ee1dce46c"), looks := true }, kinds := [], alts := [], laidByText := true, laidKinds := [.data, .data, .data, .sentinel, .sentinel], laidTests := true, laidLooks := .later }
def JsonlexQuotedUptoCardSaid : Prop := Claim7.holds Tryd.pinned (.plain (OpenSpec.upto jsonlexQuotedSpec)) jsonlexQuotedUptoCard

/-- THE SECOND FORM's CARD OF 'ndjqlaw05.JsonwriteText'. -/
def jsonwriteTextUptoCard : Claim7 := { stood := { row := jsonwriteTextUptoRow, standIns := [], harness := (true, "94b029e1724316776922255b4e7b0432f34895770fb59f46833ace8ee1dce46c"), looks := true }, kinds := [], alts := [], laidByText := true, laidKinds := [.data, .data, .data], laidTests := true, laidLooks := .later }
def JsonwriteTextUptoCardSaid : Prop := Claim7.holds Tryd.pinned (.plain (OpenSpec.upto jsonwriteTextSpec)) jsonwriteTextUptoCard

/-- THE SECOND FORM's CARD OF 'ndjqlaw05.JsonwriteOwn'. -/
def jsonwriteOwnUptoCard : Claim7 := { stood := { row := jsonwriteOwnUptoRow, standIns := [], harness := (true, "94b029e1724316776922255b4e7b0432f34895770fb59f46833ace8ee1dce46c"), looks := true }, kinds := [], alts := [], laidByText := true, laidKinds := [.data, .data, .data], laidTests := true, laidLooks := .later }
def JsonwriteOwnUptoCardSaid : Prop := Claim7.holds Tryd.pinned (.plain (OpenSpec.upto jsonwriteOwnSpec)) jsonwriteOwnUptoCard

/-- THE SECOND FORM's CARD OF 'ndjqlaw05.JsonwriteInjective'. -/
def jsonwriteInjectiveUptoCard : Claim7 := { stood := { row := jsonwriteInjectiveUptoRow, standIns := [], harness := (true, "94b029e1724316776922255b4e7b0432f34895770fb59f46833ace8ee1dce46c"), looks := true }, kinds := [], alts := [], laidByText := true, laidKinds := [.data, .data, .data], laidTests := true, laidLooks := .later }
def JsonwriteInjectiveUptoCardSaid : Prop := Claim7.holds Tryd.pinned (.plain (OpenSpec.upto jsonwriteInjectiveSpec)) jsonwriteInjectiveUptoCard

/-- THE SECOND FORM's CARD OF 'ndjqlaw05.JsonwriteParts'. -/
def jsonwritePartsUptoCard : Claim7 := { stood := { row := jsonwritePartsUptoRow, standIns := [], harness := (true, "94b029e1724316776922255b4e7b0432f34895770fb59f46833ace8ee1dce46c"), looks := true }, kinds := [], alts := [], laidByText := true, laidKinds := [.data, .data, .data], laidTests := true, laidLooks := .later }
def JsonwritePartsUptoCardSaid : Prop := Claim7.holds Tryd.pinned (.plain (OpenSpec.upto jsonwritePartsSpec)) jsonwritePartsUptoCard
end Rows
end Go.Proofs.YtacnpligpbiamaaDoor
