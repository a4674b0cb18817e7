/-
  NARROWER THAN 'FOR EVERY INPUT', by the rows' own cells (each row's printed sentence says how): JsonlexNext: laid · JsonlexStrings: laid · JsonlexNumbers: laid · JsonlexCover: laid · JsonlexQuoted: laid.
  DERIVED. THE GIVEN ROWS OF THIS SEAT. 5 by the template 'for every input the law returns true; each argument reads behind the call as it read before'; 0 by the template 'total and deterministic' (their statements: YtmagdlddaoonmaaDoorTotals.lean).
  GIVEN WITH THE SEED: the statements are not yours to turn. If you find one false, say at which input.
  Laid BY PROGRAM, IN A SANDBOX (cutbox-rows.mjs): the forced cells as the released guide's own fill.sh prints them over the translation 968ca6b5ce5cfbfb… (all of the seat's roots in one cut). By AI agents, Wed Nov 11 2026. No macro, syntax, notation, axiom, sorry.
-/
import Derived.Test.YtmagdlddaoonmaaDoorChecked
import GoSem.Claim
import GoSem.ClaimJoined
import GoSem.ClaimMapViews
import Derived.JoinedTies
import Derived.KernelRfl
namespace Go.Proofs.YtmagdlddaoonmaaDoor
/- THE CELL 'sum', in the pinned program and in every row, IS THE sha256 OF THE DUMP (.gsa) THAT YtmagdlddaoonmaaDoorProg.lean LOADS. Nothing in Lean hashes anything: it is a label: what it is worth is what the hold of that sum in a sandbox is worth. -/
noncomputable def Tryd.pinned : Pinned := { name := "ytmagdlddaoonmaadoor", sum := "968ca6b5ce5cfbfb9dbeb09b59dceae1eafa01cf69eae6bbe699e3bd58cb9e18", checked := Tryd.checked }
namespace Rows
def none {H : Type} : Left H := { results := [], args := [] }

/- WHAT THE LISTED PACKAGE-LEVEL VARIABLES READ AS WHEN THE CALL BEGINS. Each datum BY PROGRAM (the guide's laid-datum.mjs) off the statement by which the dump's own 'gosem.cut.vars' lays the variable. In a bare row this is a premise. The card (YtmagdlddaoonmaaDoorCards.lean) ties it to the program's text. -/
def laid_math_bits_deBruijn32tab {H : Type} : DataW H := .agg [.lit (.int .u8 0), .lit (.int .u8 1), .lit (.int .u8 28), .lit (.int .u8 2), .lit (.int .u8 29), .lit (.int .u8 14), .lit (.int .u8 24), .lit (.int .u8 3), .lit (.int .u8 30), .lit (.int .u8 22), .lit (.int .u8 20), .lit (.int .u8 15), .lit (.int .u8 25), .lit (.int .u8 17), .lit (.int .u8 4), .lit (.int .u8 8), .lit (.int .u8 31), .lit (.int .u8 27), .lit (.int .u8 13), .lit (.int .u8 23), .lit (.int .u8 21), .lit (.int .u8 19), .lit (.int .u8 16), .lit (.int .u8 7), .lit (.int .u8 26), .lit (.int .u8 12), .lit (.int .u8 18), .lit (.int .u8 6), .lit (.int .u8 11), .lit (.int .u8 5), .lit (.int .u8 10), .lit (.int .u8 9)]
def laid_math_bits_deBruijn64tab {H : Type} : DataW H := .agg [.lit (.int .u8 0), .lit (.int .u8 1), .lit (.int .u8 56), .lit (.int .u8 2), .lit (.int .u8 57), .lit (.int .u8 49), .lit (.int .u8 28), .lit (.int .u8 3), .lit (.int .u8 61), .lit (.int .u8 58), .lit (.int .u8 42), .lit (.int .u8 50), .lit (.int .u8 38), .lit (.int .u8 29), .lit (.int .u8 17), .lit (.int .u8 4), .lit (.int .u8 62), .lit (.int .u8 47), .lit (.int .u8 59), .lit (.int .u8 36), .lit (.int .u8 45), .lit (.int .u8 43), .lit (.int .u8 51), .lit (.int .u8 22), .lit (.int .u8 53), .lit (.int .u8 39), .lit (.int .u8 33), .lit (.int .u8 30), .lit (.int .u8 24), .lit (.int .u8 18), .lit (.int .u8 12), .lit (.int .u8 5), .lit (.int .u8 63), .lit (.int .u8 55), .lit (.int .u8 48), .lit (.int .u8 27), .lit (.int .u8 60), .lit (.int .u8 41), .lit (.int .u8 37), .lit (.int .u8 16), .lit (.int .u8 46), .lit (.int .u8 35), .lit (.int .u8 44), .lit (.int .u8 21), .lit (.int .u8 52), .lit (.int .u8 32), .lit (.int .u8 23), .lit (.int .u8 11), .lit (.int .u8 54), .lit (.int .u8 26), .lit (.int .u8 40), .lit (.int .u8 15), .lit (.int .u8 34), .lit (.int .u8 20), .lit (.int .u8 31), .lit (.int .u8 10), .lit (.int .u8 25), .lit (.int .u8 14), .lit (.int .u8 19), .lit (.int .u8 9), .lit (.int .u8 13), .lit (.int .u8 8), .lit (.int .u8 7), .lit (.int .u8 6)]
def laid_internal_strconv_uint64pow10 {H : Type} : DataW H := .agg [.lit (.int .u64 1), .lit (.int .u64 10), .lit (.int .u64 100), .lit (.int .u64 1000), .lit (.int .u64 10000), .lit (.int .u64 100000), .lit (.int .u64 1000000), .lit (.int .u64 10000000), .lit (.int .u64 100000000), .lit (.int .u64 1000000000), .lit (.int .u64 10000000000), .lit (.int .u64 100000000000), .lit (.int .u64 1000000000000), .lit (.int .u64 10000000000000), .lit (.int .u64 100000000000000), .lit (.int .u64 1000000000000000), .lit (.int .u64 10000000000000000), .lit (.int .u64 100000000000000000), .lit (.int .u64 1000000000000000000), .lit (.int .u64 10000000000000000000)]
def laid_strconv_ErrRange {H : Type} : DataW H := .iface "*errors.errorString" (.ptr (.agg [.lit (.string [118, 97, 108, 117, 101, 32, 111, 117, 116, 32, 111, 102, 32, 114, 97, 110, 103, 101])]))
def laid_strconv_ErrSyntax {H : Type} : DataW H := .iface "*errors.errorString" (.ptr (.agg [.lit (.string [105, 110, 118, 97, 108, 105, 100, 32, 115, 121, 110, 116, 97, 120])]))

/-- 'ndjqlaw03.JsonlexNext': WHATEVER THE INPUT: true; the input reads as it did. -/
def jsonlexNextSpec : ChangeSpec := { name := "jsonlexNext", fn := fun _ => fun
  | [d1, d2, d3] => { results := [.lit (.bool true)], args := [d1, d2, d3] }
  | _ => none }
def jsonlexNextRow : OpenClaim := { program := "ytmagdlddaoonmaadoor", sum := "968ca6b5ce5cfbfb9dbeb09b59dceae1eafa01cf69eae6bbe699e3bd58cb9e18", func := "ndjq/ndjqlaw03.JsonlexNext", spec := "jsonlexNext", named := ["strconv.ErrSyntax", "strconv.ErrRange", "internal/strconv.uint64pow10", "math/bits.deBruijn32tab", "math/bits.deBruijn64tab"], apart := false, laid := [("math/bits.deBruijn32tab", laid_math_bits_deBruijn32tab), ("math/bits.deBruijn64tab", laid_math_bits_deBruijn64tab), ("internal/strconv.uint64pow10", laid_internal_strconv_uint64pow10), ("strconv.ErrRange", laid_strconv_ErrRange), ("strconv.ErrSyntax", laid_strconv_ErrSyntax)] }
def JsonlexNextSaid : Prop := jsonlexNextRow.holds Tryd.pinned (OpenSpec.ofChange jsonlexNextSpec)

/-- ITS FALSE NEIGHBOUR: 'it returns false'. Refute it at one input. -/
def jsonlexNextWrong : ChangeSpec := { name := "jsonlexNext", fn := fun _ => fun
  | [d1, d2, d3] => { results := [.lit (.bool false)], args := [d1, d2, d3] }
  | _ => none }
def JsonlexNextWrongFalsely : Prop := jsonlexNextRow.holds Tryd.pinned (OpenSpec.ofChange jsonlexNextWrong)

/-- 'ndjqlaw03.JsonlexStrings': WHATEVER THE INPUT: true; the input reads as it did. -/
def jsonlexStringsSpec : ChangeSpec := { name := "jsonlexStrings", fn := fun _ => fun
  | [d1, d2, d3] => { results := [.lit (.bool true)], args := [d1, d2, d3] }
  | _ => none }
def jsonlexStringsRow : OpenClaim := { program := "ytmagdlddaoonmaadoor", sum := "968ca6b5ce5cfbfb9dbeb09b59dceae1eafa01cf69eae6bbe699e3bd58cb9e18", func := "ndjq/ndjqlaw03.JsonlexStrings", spec := "jsonlexStrings", named := ["strconv.ErrSyntax", "strconv.ErrRange", "internal/strconv.uint64pow10", "math/bits.deBruijn32tab", "math/bits.deBruijn64tab"], apart := false, laid := [("math/bits.deBruijn32tab", laid_math_bits_deBruijn32tab), ("math/bits.deBruijn64tab", laid_math_bits_deBruijn64tab), ("internal/strconv.uint64pow10", laid_internal_strconv_uint64pow10), ("strconv.ErrRange", laid_strconv_ErrRange), ("strconv.ErrSyntax", laid_strconv_ErrSyntax)] }
def JsonlexStringsSaid : Prop := jsonlexStringsRow.holds Tryd.pinned (OpenSpec.ofChange jsonlexStringsSpec)

/-- ITS FALSE NEIGHBOUR: 'it returns false'. Refute it at one input. -/
def jsonlexStringsWrong : ChangeSpec := { name := "jsonlexStrings", fn := fun _ => fun
  | [d1, d2, d3] => { results := [.lit (.bool false)], args := [d1, d2, d3] }
  | _ => none }
def JsonlexStringsWrongFalsely : Prop := jsonlexStringsRow.holds Tryd.pinned (OpenSpec.ofChange jsonlexStringsWrong)

/-- 'ndjqlaw03.JsonlexNumbers': WHATEVER THE INPUT: true; the input reads as it did. -/
def jsonlexNumbersSpec : ChangeSpec := { name := "jsonlexNumbers", fn := fun _ => fun
  | [d] => { results := [.lit (.bool true)], args := [d] }
  | _ => none }
def jsonlexNumbersRow : OpenClaim := { program := "ytmagdlddaoonmaadoor", sum := "968ca6b5ce5cfbfb9dbeb09b59dceae1eafa01cf69eae6bbe699e3bd58cb9e18", func := "ndjq/ndjqlaw03.JsonlexNumbers", spec := "jsonlexNumbers", recurses := true, named := ["strconv.ErrSyntax", "strconv.ErrRange", "internal/strconv.uint64pow10", "math/bits.deBruijn32tab", "math/bits.deBruijn64tab"], apart := false, laid := [("math/bits.deBruijn32tab", laid_math_bits_deBruijn32tab), ("math/bits.deBruijn64tab", laid_math_bits_deBruijn64tab), ("internal/strconv.uint64pow10", laid_internal_strconv_uint64pow10), ("strconv.ErrRange", laid_strconv_ErrRange), ("strconv.ErrSyntax", laid_strconv_ErrSyntax)] }
def JsonlexNumbersSaid : Prop := jsonlexNumbersRow.holds Tryd.pinned (OpenSpec.ofChange jsonlexNumbersSpec)

/-- ITS FALSE NEIGHBOUR: 'it returns false'. Refute it at one input. -/
def jsonlexNumbersWrong : ChangeSpec := { name := "jsonlexNumbers", fn := fun _ => fun
  | [d] => { results := [.lit (.bool false)], args := [d] }
  | _ => none }
def JsonlexNumbersWrongFalsely : Prop := jsonlexNumbersRow.holds Tryd.pinned (OpenSpec.ofChange jsonlexNumbersWrong)

/-- 'ndjqlaw03.JsonlexCover': WHATEVER THE INPUT: true; the input reads as it did. -/
def jsonlexCoverSpec : ChangeSpec := { name := "jsonlexCover", fn := fun _ => fun
  | [d] => { results := [.lit (.bool true)], args := [d] }
  | _ => none }
def jsonlexCoverRow : OpenClaim := { program := "ytmagdlddaoonmaadoor", sum := "968ca6b5ce5cfbfb9dbeb09b59dceae1eafa01cf69eae6bbe699e3bd58cb9e18", func := "ndjq/ndjqlaw03.JsonlexCover", spec := "jsonlexCover", named := ["strconv.ErrSyntax", "strconv.ErrRange", "internal/strconv.uint64pow10", "math/bits.deBruijn32tab", "math/bits.deBruijn64tab"], apart := false, laid := [("math/bits.deBruijn32tab", laid_math_bits_deBruijn32tab), ("math/bits.deBruijn64tab", laid_math_bits_deBruijn64tab), ("internal/strconv.uint64pow10", laid_internal_strconv_uint64pow10), ("strconv.ErrRange", laid_strconv_ErrRange), ("strconv.ErrSyntax", laid_strconv_ErrSyntax)] }
def JsonlexCoverSaid : Prop := jsonlexCoverRow.holds Tryd.pinned (OpenSpec.ofChange jsonlexCoverSpec)

/-- ITS FALSE NEIGHBOUR: 'it returns false'. Refute it at one input. -/
def jsonlexCoverWrong : ChangeSpec := { name := "jsonlexCover", fn := fun _ => fun
  | [d] => { results := [.lit (.bool false)], args := [d] }
  | _ => none }
def JsonlexCoverWrongFalsely : Prop := jsonlexCoverRow.holds Tryd.pinned (OpenSpec.ofChange jsonlexCoverWrong)

/-- 'ndjqlaw03.JsonlexQuoted': WHATEVER THE INPUT: true; the input reads as it did. -/
def jsonlexQuotedSpec : ChangeSpec := { name := "jsonlexQuoted", fn := fun _ => fun
  | [d1, d2] => { results := [.lit (.bool true)], args := [d1, d2] }
  | _ => none }
def jsonlexQuotedRow : OpenClaim := { program := "ytmagdlddaoonmaadoor", sum := "968ca6b5ce5cfbfb9dbeb09b59dceae1eafa01cf69eae6bbe699e3bd58cb9e18", func := "ndjq/ndjqlaw03.JsonlexQuoted", spec := "jsonlexQuoted", named := ["strconv.ErrSyntax", "strconv.ErrRange", "internal/strconv.uint64pow10", "math/bits.deBruijn32tab", "math/bits.deBruijn64tab"], apart := false, laid := [("math/bits.deBruijn32tab", laid_math_bits_deBruijn32tab), ("math/bits.deBruijn64tab", laid_math_bits_deBruijn64tab), ("internal/strconv.uint64pow10", laid_internal_strconv_uint64pow10), ("strconv.ErrRange", laid_strconv_ErrRange), ("strconv.ErrSyntax", laid_strconv_ErrSyntax)] }
def JsonlexQuotedSaid : Prop := jsonlexQuotedRow.holds Tryd.pinned (OpenSpec.ofChange jsonlexQuotedSpec)

/-- ITS FALSE NEIGHBOUR: 'it returns false'. Refute it at one input. -/
def jsonlexQuotedWrong : ChangeSpec := { name := "jsonlexQuoted", fn := fun _ => fun
  | [d1, d2] => { results := [.lit (.bool false)], args := [d1, d2] }
  | _ => none }
def JsonlexQuotedWrongFalsely : Prop := jsonlexQuotedRow.holds Tryd.pinned (OpenSpec.ofChange jsonlexQuotedWrong)

/- THE SECOND FORM. 'bulk': how many values and letters a reading holds, each counted each time it is reached (what is shared counts as often as it is met; a slice's spare places count too). A statement '..UptoSaid' is the law's where the arguments, and the package variables that the reading takes, are together of bulk at most 1048576: NARROWER than '..Said'. Prove '..Said' where nothing that the law and all that it calls make is longer than what came in: it says more and counts as full. Else prove '..UptoSaid'. A law counts once. -/
mutual
def uptoBulk {H : Type} : DataW H → Nat
  | .lit (.string bytes) => bytes.length + 1
  | .lit _ => 1
  | .nil => 1
  | .ptr d => uptoBulk d + 1
  | .slice elems spare => uptoBulkAll elems + uptoBulkAll spare + 1
  | .agg parts => uptoBulkAll parts + 1
  | .iface _ d => uptoBulk d + 1
  | .map entries => uptoBulkEntries entries + 1
  | .held _ => 1
def uptoBulkAll {H : Type} : List (DataW H) → Nat
  | [] => 0
  | d :: r => uptoBulk d + uptoBulkAll r
def uptoBulkEntries {H : Type} : List (Lit × DataW H) → Nat
  | [] => 0
  | x :: r => uptoBulkEntry x + uptoBulkEntries r
def uptoBulkEntry {H : Type} : Lit × DataW H → Nat
  | (.string bytes, d) => bytes.length + uptoBulk d + 1
  | (_, d) => uptoBulk d + 1
 end
def uptoSmall : (H : Type) → List (DataW H) → Bool := fun _ ds => decide (uptoBulkAll ds ≤ 1048576)
def OpenSpec.upto (s : _root_.Go.ChangeSpec) : _root_.Go.OpenSpec := { _root_.Go.OpenSpec.ofChange s with cond := some uptoSmall }

/-- 'ndjqlaw03.JsonlexNext', WHERE WHAT IT READS IS OF BULK AT MOST 1048576: true; the input reads as it did. -/
def jsonlexNextUptoRow : OpenClaim := { program := "ytmagdlddaoonmaadoor", sum := "968ca6b5ce5cfbfb9dbeb09b59dceae1eafa01cf69eae6bbe699e3bd58cb9e18", func := "ndjq/ndjqlaw03.JsonlexNext", spec := "jsonlexNext", named := ["strconv.ErrSyntax", "strconv.ErrRange", "internal/strconv.uint64pow10", "math/bits.deBruijn32tab", "math/bits.deBruijn64tab"], apart := false, laid := [("math/bits.deBruijn32tab", laid_math_bits_deBruijn32tab), ("math/bits.deBruijn64tab", laid_math_bits_deBruijn64tab), ("internal/strconv.uint64pow10", laid_internal_strconv_uint64pow10), ("strconv.ErrRange", laid_strconv_ErrRange), ("strconv.ErrSyntax", laid_strconv_ErrSyntax)], narrowed := true }
def JsonlexNextUptoSaid : Prop := jsonlexNextUptoRow.holds Tryd.pinned (OpenSpec.upto jsonlexNextSpec)

/-- 'ndjqlaw03.JsonlexStrings', WHERE WHAT IT READS IS OF BULK AT MOST 1048576: true; the input reads as it did. -/
def jsonlexStringsUptoRow : OpenClaim := { program := "ytmagdlddaoonmaadoor", sum := "968ca6b5ce5cfbfb9dbeb09b59dceae1eafa01cf69eae6bbe699e3bd58cb9e18", func := "ndjq/ndjqlaw03.JsonlexStrings", spec := "jsonlexStrings", named := ["strconv.ErrSyntax", "strconv.ErrRange", "internal/strconv.uint64pow10", "math/bits.deBruijn32tab", "math/bits.deBruijn64tab"], apart := false, laid := [("math/bits.deBruijn32tab", laid_math_bits_deBruijn32tab), ("math/bits.deBruijn64tab", laid_math_bits_deBruijn64tab), ("internal/strconv.uint64pow10", laid_internal_strconv_uint64pow10), ("strconv.ErrRange", laid_strconv_ErrRange), ("strconv.ErrSyntax", laid_strconv_ErrSyntax)], narrowed := true }
def JsonlexStringsUptoSaid : Prop := jsonlexStringsUptoRow.holds Tryd.pinned (OpenSpec.upto jsonlexStringsSpec)

/-- 'ndjqlaw03.JsonlexNumbers', WHERE WHAT IT READS IS OF BULK AT MOST 1048576: true; the input reads as it did. -/
def jsonlexNumbersUptoRow : OpenClaim := { program := "ytmagdlddaoonmaadoor", sum := "968ca6b5ce5cfbfb9dbeb09b59dceae1eafa01cf69eae6bbe699e3bd58cb9e18", func := "ndjq/ndjqlaw03.JsonlexNumbers", spec := "jsonlexNumbers", recurses := true, named := ["strconv.ErrSyntax", "strconv.ErrRange", "internal/strconv.uint64pow10", "math/bits.deBruijn32tab", "math/bits.deBruijn64tab"], apart := false, laid := [("math/bits.deBruijn32tab", laid_math_bits_deBruijn32tab), ("math/bits.deBruijn64tab", laid_math_bits_deBruijn64tab), ("internal/strconv.uint64pow10", laid_internal_strconv_uint64pow10), ("strconv.ErrRange", laid_strconv_ErrRange), ("strconv.ErrSyntax", laid_strconv_ErrSyntax)], narrowed := true }
def JsonlexNumbersUptoSaid : Prop := jsonlexNumbersUptoRow.holds Tryd.pinned (OpenSpec.upto jsonlexNumbersSpec)

/-- 'ndjqlaw03.JsonlexCover', WHERE WHAT IT READS IS OF BULK AT MOST 1048576: true; the input reads as it did. -/
def jsonlexCoverUptoRow : OpenClaim := { program := "ytmagdlddaoonmaadoor", sum := "968ca6b5ce5cfbfb9dbeb09b59dceae1eafa01cf69eae6bbe699e3bd58cb9e18", func := "ndjq/ndjqlaw03.JsonlexCover", spec := "jsonlexCover", named := ["strconv.ErrSyntax", "strconv.ErrRange", "internal/strconv.uint64pow10", "math/bits.deBruijn32tab", "math/bits.deBruijn64tab"], apart := false, laid := [("math/bits.deBruijn32tab", laid_math_bits_deBruijn32tab), ("math/bits.deBruijn64tab", laid_math_bits_deBruijn64tab), ("internal/strconv.uint64pow10", laid_internal_strconv_uint64pow10), ("strconv.ErrRange", laid_strconv_ErrRange), ("strconv.ErrSyntax", laid_strconv_ErrSyntax)], narrowed := true }
def JsonlexCoverUptoSaid : Prop := jsonlexCoverUptoRow.holds Tryd.pinned (OpenSpec.upto jsonlexCoverSpec)

/-- 'ndjqlaw03.JsonlexQuoted', WHERE WHAT IT READS IS OF BULK AT MOST 1048576: true; the input reads as it did. -/
def jsonlexQuotedUptoRow : OpenClaim := { program := "ytmagdlddaoonmaadoor", sum := "968ca6b5ce5cfbfb9dbeb09b59dceae1eafa01cf69eae6bbe699e3bd58cb9e18", func := "ndjq/ndjqlaw03.JsonlexQuoted", spec := "jsonlexQuoted", named := ["strconv.ErrSyntax", "strconv.ErrRange", "internal/strconv.uint64pow10", "math/bits.deBruijn32tab", "math/bits.deBruijn64tab"], apart := false, laid := [("math/bits.deBruijn32tab", laid_math_bits_deBruijn32tab), ("math/bits.deBruijn64tab", laid_math_bits_deBruijn64tab), ("internal/strconv.uint64pow10", laid_internal_strconv_uint64pow10), ("strconv.ErrRange", laid_strconv_ErrRange), ("strconv.ErrSyntax", laid_strconv_ErrSyntax)], narrowed := true }
def JsonlexQuotedUptoSaid : Prop := jsonlexQuotedUptoRow.holds Tryd.pinned (OpenSpec.upto jsonlexQuotedSpec)

end Rows
end Go.Proofs.YtmagdlddaoonmaaDoor
