/-
  NARROWER THAN 'FOR EVERY INPUT', by the rows' own cells (each row's printed sentence says how): ShowTells: laid · ShowParts: laid · ShowNested: laid.
  DERIVED. THE GIVEN ROWS OF THIS SEAT. 3 by the template 'for every input the law returns true; each argument reads behind the call as it read before'; 0 by the template 'total and deterministic' (their statements: YthehgcmhcioffaaGreatDoorTotals.lean).
  GIVEN WITH THE SEED: the statements are not yours to turn. If you find one false, say at which input.
  Laid BY PROGRAM, IN A SANDBOX (cutbox-rows.mjs): the forced cells as the released guide's own fill.sh prints them over the translation 4e5bac812db8842d… (all of the seat's roots in one cut). By AI agents, Wed Nov 11 2026. No macro, syntax, notation, axiom, sorry.
-/
import Derived.Test.YthehgcmhcioffaaGreatDoorChecked
import GoSem.PinnedTables
import GoSem.Claim
import GoSem.ClaimJoined
import GoSem.ClaimMapViews
import Derived.JoinedTies
import Derived.KernelRfl
namespace Go.Proofs.YthehgcmhcioffaaGreatDoor
/- THE CELL 'sum', in the pinned program and in every row, IS THE sha256 OF THE DUMP (.gsa) THAT YthehgcmhcioffaaGreatDoorProg.lean LOADS. Nothing in Lean hashes anything: it is a label: what it is worth is what the hold of that sum in a sandbox is worth. -/
noncomputable def Tryz.pinned : Pinned := { name := "ythehgcmhcioffaagreatdoor", sum := "4e5bac812db8842d0ecfa2ec6395493ef22c150c5959828c7cacf8e827c29185", checked := Tryz.checked }
namespace Rows
def none {H : Type} : Left H := { results := [], args := [] }

/- WHAT THE LISTED PACKAGE-LEVEL VARIABLES READ AS WHEN THE CALL BEGINS. Each datum BY PROGRAM (the guide's laid-datum.mjs) off the statement by which the dump's own 'gosem.cut.vars' lays the variable. In a bare row this is a premise. The card (YthehgcmhcioffaaGreatDoorCards.lean) ties it to the program's text. -/
def laid_math_bits_deBruijn32tab {H : Type} : DataW H := .agg [.lit (.int .u8 0), .lit (.int .u8 1), .lit (.int .u8 28), .lit (.int .u8 2), .lit (.int .u8 29), .lit (.int .u8 14), .lit (.int .u8 24), .lit (.int .u8 3), .lit (.int .u8 30), .lit (.int .u8 22), .lit (.int .u8 20), .lit (.int .u8 15), .lit (.int .u8 25), .lit (.int .u8 17), .lit (.int .u8 4), .lit (.int .u8 8), .lit (.int .u8 31), .lit (.int .u8 27), .lit (.int .u8 13), .lit (.int .u8 23), .lit (.int .u8 21), .lit (.int .u8 19), .lit (.int .u8 16), .lit (.int .u8 7), .lit (.int .u8 26), .lit (.int .u8 12), .lit (.int .u8 18), .lit (.int .u8 6), .lit (.int .u8 11), .lit (.int .u8 5), .lit (.int .u8 10), .lit (.int .u8 9)]
def laid_math_bits_deBruijn64tab {H : Type} : DataW H := .agg [.lit (.int .u8 0), .lit (.int .u8 1), .lit (.int .u8 56), .lit (.int .u8 2), .lit (.int .u8 57), .lit (.int .u8 49), .lit (.int .u8 28), .lit (.int .u8 3), .lit (.int .u8 61), .lit (.int .u8 58), .lit (.int .u8 42), .lit (.int .u8 50), .lit (.int .u8 38), .lit (.int .u8 29), .lit (.int .u8 17), .lit (.int .u8 4), .lit (.int .u8 62), .lit (.int .u8 47), .lit (.int .u8 59), .lit (.int .u8 36), .lit (.int .u8 45), .lit (.int .u8 43), .lit (.int .u8 51), .lit (.int .u8 22), .lit (.int .u8 53), .lit (.int .u8 39), .lit (.int .u8 33), .lit (.int .u8 30), .lit (.int .u8 24), .lit (.int .u8 18), .lit (.int .u8 12), .lit (.int .u8 5), .lit (.int .u8 63), .lit (.int .u8 55), .lit (.int .u8 48), .lit (.int .u8 27), .lit (.int .u8 60), .lit (.int .u8 41), .lit (.int .u8 37), .lit (.int .u8 16), .lit (.int .u8 46), .lit (.int .u8 35), .lit (.int .u8 44), .lit (.int .u8 21), .lit (.int .u8 52), .lit (.int .u8 32), .lit (.int .u8 23), .lit (.int .u8 11), .lit (.int .u8 54), .lit (.int .u8 26), .lit (.int .u8 40), .lit (.int .u8 15), .lit (.int .u8 34), .lit (.int .u8 20), .lit (.int .u8 31), .lit (.int .u8 10), .lit (.int .u8 25), .lit (.int .u8 14), .lit (.int .u8 19), .lit (.int .u8 9), .lit (.int .u8 13), .lit (.int .u8 8), .lit (.int .u8 7), .lit (.int .u8 6)]
def laid_internal_strconv_uint64pow10 {H : Type} : DataW H := .agg [.lit (.int .u64 1), .lit (.int .u64 10), .lit (.int .u64 100), .lit (.int .u64 1000), .lit (.int .u64 10000), .lit (.int .u64 100000), .lit (.int .u64 1000000), .lit (.int .u64 10000000), .lit (.int .u64 100000000), .lit (.int .u64 1000000000), .lit (.int .u64 10000000000), .lit (.int .u64 100000000000), .lit (.int .u64 1000000000000), .lit (.int .u64 10000000000000), .lit (.int .u64 100000000000000), .lit (.int .u64 1000000000000000), .lit (.int .u64 10000000000000000), .lit (.int .u64 100000000000000000), .lit (.int .u64 1000000000000000000), .lit (.int .u64 10000000000000000000)]
def laid_unicode_utf8_acceptRanges {H : Type} : DataW H := .agg [.agg [.lit (.int .u8 128), .lit (.int .u8 191)], .agg [.lit (.int .u8 160), .lit (.int .u8 191)], .agg [.lit (.int .u8 128), .lit (.int .u8 159)], .agg [.lit (.int .u8 144), .lit (.int .u8 191)], .agg [.lit (.int .u8 128), .lit (.int .u8 143)], .agg [.lit (.int .u8 0), .lit (.int .u8 0)], .agg [.lit (.int .u8 0), .lit (.int .u8 0)], .agg [.lit (.int .u8 0), .lit (.int .u8 0)], .agg [.lit (.int .u8 0), .lit (.int .u8 0)], .agg [.lit (.int .u8 0), .lit (.int .u8 0)], .agg [.lit (.int .u8 0), .lit (.int .u8 0)], .agg [.lit (.int .u8 0), .lit (.int .u8 0)], .agg [.lit (.int .u8 0), .lit (.int .u8 0)], .agg [.lit (.int .u8 0), .lit (.int .u8 0)], .agg [.lit (.int .u8 0), .lit (.int .u8 0)], .agg [.lit (.int .u8 0), .lit (.int .u8 0)]]
/-- One of Go's own tables, pinned by name: the form's constant. -/
def laid_unicode_utf8_first : DataW Unit := Go.Pinned.utf8First
def laid_strconv_ErrRange {H : Type} : DataW H := .iface "*errors.errorString" (.ptr (.agg [.lit (.string [118, 97, 108, 117, 101, 32, 111, 117, 116, 32, 111, 102, 32, 114, 97, 110, 103, 101])]))
def laid_strconv_ErrSyntax {H : Type} : DataW H := .iface "*errors.errorString" (.ptr (.agg [.lit (.string [105, 110, 118, 97, 108, 105, 100, 32, 115, 121, 110, 116, 97, 120])]))
def laid_treadwheel_lex_signs {H : Type} : DataW H := .agg [.agg [.lit (.string [61, 61, 46]), .lit (.int .i64 4)], .agg [.lit (.string [61, 61]), .lit (.int .i64 4)], .agg [.lit (.string [61]), .lit (.int .i64 6)], .agg [.lit (.string [45, 62]), .lit (.int .i64 6)], .agg [.lit (.string [45, 46]), .lit (.int .i64 4)], .agg [.lit (.string [45]), .lit (.int .i64 4)], .agg [.lit (.string [43, 46]), .lit (.int .i64 4)], .agg [.lit (.string [43]), .lit (.int .i64 4)], .agg [.lit (.string [42, 46]), .lit (.int .i64 4)], .agg [.lit (.string [42]), .lit (.int .i64 4)], .agg [.lit (.string [47, 46]), .lit (.int .i64 4)], .agg [.lit (.string [47]), .lit (.int .i64 4)], .agg [.lit (.string [60, 46]), .lit (.int .i64 4)], .agg [.lit (.string [60]), .lit (.int .i64 4)], .agg [.lit (.string [37]), .lit (.int .i64 4)], .agg [.lit (.string [40]), .lit (.int .i64 6)], .agg [.lit (.string [41]), .lit (.int .i64 6)], .agg [.lit (.string [123]), .lit (.int .i64 6)], .agg [.lit (.string [125]), .lit (.int .i64 6)], .agg [.lit (.string [59]), .lit (.int .i64 6)], .agg [.lit (.string [92]), .lit (.int .i64 6)]]
def laid_treadwheel_parse_name {H : Type} : DataW H := .agg [.lit (.int .i64 1), .lit (.string [])]
def laid_treadwheel_parse_con {H : Type} : DataW H := .agg [.lit (.int .i64 2), .lit (.string [])]
def laid_treadwheel_parse_number {H : Type} : DataW H := .agg [.lit (.int .i64 3), .lit (.string [])]
def laid_treadwheel_parse_sign {H : Type} : DataW H := .agg [.lit (.int .i64 4), .lit (.string [])]
def laid_treadwheel_parse_builtIn {H : Type} : DataW H := .agg [.lit (.int .i64 7), .lit (.string [])]
def laid_treadwheel_parse_dataWord {H : Type} : DataW H := .agg [.lit (.int .i64 5), .lit (.string [100, 97, 116, 97])]
def laid_treadwheel_parse_letWord {H : Type} : DataW H := .agg [.lit (.int .i64 5), .lit (.string [108, 101, 116])]
def laid_treadwheel_parse_inWord {H : Type} : DataW H := .agg [.lit (.int .i64 5), .lit (.string [105, 110])]
def laid_treadwheel_parse_caseWord {H : Type} : DataW H := .agg [.lit (.int .i64 5), .lit (.string [99, 97, 115, 101])]
def laid_treadwheel_parse_ofWord {H : Type} : DataW H := .agg [.lit (.int .i64 5), .lit (.string [111, 102])]
def laid_treadwheel_parse_roundOpen {H : Type} : DataW H := .agg [.lit (.int .i64 6), .lit (.string [40])]
def laid_treadwheel_parse_roundClose {H : Type} : DataW H := .agg [.lit (.int .i64 6), .lit (.string [41])]
def laid_treadwheel_parse_curlyOpen {H : Type} : DataW H := .agg [.lit (.int .i64 6), .lit (.string [123])]
def laid_treadwheel_parse_curlyClose {H : Type} : DataW H := .agg [.lit (.int .i64 6), .lit (.string [125])]
def laid_treadwheel_parse_semicolon {H : Type} : DataW H := .agg [.lit (.int .i64 6), .lit (.string [59])]
def laid_treadwheel_parse_equals {H : Type} : DataW H := .agg [.lit (.int .i64 6), .lit (.string [61])]
def laid_treadwheel_parse_arrow {H : Type} : DataW H := .agg [.lit (.int .i64 6), .lit (.string [45, 62])]
def laid_treadwheel_parse_backslash {H : Type} : DataW H := .agg [.lit (.int .i64 6), .lit (.string [92])]

/-- 'treadwheellaw09.ShowTells': WHATEVER THE INPUT: true; the input reads as it did. -/
def showTellsSpec : ChangeSpec := { name := "showTells", fn := fun _ => fun
  | [d] => { results := [.lit (.bool true)], args := [d] }
  | _ => none }
def showTellsRow : OpenClaim := { program := "ythehgcmhcioffaagreatdoor", sum := "4e5bac812db8842d0ecfa2ec6395493ef22c150c5959828c7cacf8e827c29185", func := "treadwheel/treadwheellaw09.ShowTells", spec := "showTells", inPlace := ["internal/abi.NoEscape", "internal/bytealg.MakeNoZero", "internal/bytealg.IndexByteString", "internal/bytealg.IndexString"], unfollowed := true, recurses := true, named := ["internal/strconv.uint64pow10", "math/bits.deBruijn32tab", "math/bits.deBruijn64tab", "unicode/utf8.first", "unicode/utf8.acceptRanges", "internal/bytealg.MaxLen"], plainKeys := false, apart := false, laid := [("math/bits.deBruijn32tab", laid_math_bits_deBruijn32tab), ("math/bits.deBruijn64tab", laid_math_bits_deBruijn64tab), ("internal/strconv.uint64pow10", laid_internal_strconv_uint64pow10), ("unicode/utf8.acceptRanges", laid_unicode_utf8_acceptRanges), ("unicode/utf8.first", laid_unicode_utf8_first)] }
def ShowTellsSaid : Prop := showTellsRow.holds Tryz.pinned (OpenSpec.ofChange showTellsSpec)

/-- ITS FALSE NEIGHBOUR: 'it returns false'. Refute it at one input. -/
def showTellsWrong : ChangeSpec := { name := "showTells", fn := fun _ => fun
  | [d] => { results := [.lit (.bool false)], args := [d] }
  | _ => none }
def ShowTellsWrongFalsely : Prop := showTellsRow.holds Tryz.pinned (OpenSpec.ofChange showTellsWrong)

/-- 'treadwheellaw09.ShowParts': WHATEVER THE INPUT: true; the input reads as it did. -/
def showPartsSpec : ChangeSpec := { name := "showParts", fn := fun _ => fun
  | [d] => { results := [.lit (.bool true)], args := [d] }
  | _ => none }
def showPartsRow : OpenClaim := { program := "ythehgcmhcioffaagreatdoor", sum := "4e5bac812db8842d0ecfa2ec6395493ef22c150c5959828c7cacf8e827c29185", func := "treadwheel/treadwheellaw09.ShowParts", spec := "showParts", inPlace := ["internal/abi.NoEscape", "internal/bytealg.MakeNoZero", "internal/bytealg.IndexByteString", "internal/bytealg.IndexString"], unfollowed := true, recurses := true, named := ["internal/strconv.uint64pow10", "math/bits.deBruijn32tab", "math/bits.deBruijn64tab", "unicode/utf8.first", "unicode/utf8.acceptRanges", "internal/bytealg.MaxLen"], plainKeys := false, apart := false, laid := [("math/bits.deBruijn32tab", laid_math_bits_deBruijn32tab), ("math/bits.deBruijn64tab", laid_math_bits_deBruijn64tab), ("internal/strconv.uint64pow10", laid_internal_strconv_uint64pow10), ("unicode/utf8.acceptRanges", laid_unicode_utf8_acceptRanges), ("unicode/utf8.first", laid_unicode_utf8_first)] }
def ShowPartsSaid : Prop := showPartsRow.holds Tryz.pinned (OpenSpec.ofChange showPartsSpec)

/-- ITS FALSE NEIGHBOUR: 'it returns false'. Refute it at one input. -/
def showPartsWrong : ChangeSpec := { name := "showParts", fn := fun _ => fun
  | [d] => { results := [.lit (.bool false)], args := [d] }
  | _ => none }
def ShowPartsWrongFalsely : Prop := showPartsRow.holds Tryz.pinned (OpenSpec.ofChange showPartsWrong)

/-- 'treadwheellaw09.ShowNested': WHATEVER THE INPUT: true; the input reads as it did. -/
def showNestedSpec : ChangeSpec := { name := "showNested", fn := fun _ => fun
  | [d] => { results := [.lit (.bool true)], args := [d] }
  | _ => none }
def showNestedRow : OpenClaim := { program := "ythehgcmhcioffaagreatdoor", sum := "4e5bac812db8842d0ecfa2ec6395493ef22c150c5959828c7cacf8e827c29185", func := "treadwheel/treadwheellaw09.ShowNested", spec := "showNested", inPlace := ["internal/abi.NoEscape", "internal/bytealg.MakeNoZero", "internal/bytealg.IndexByteString", "internal/bytealg.IndexString"], unfollowed := true, recurses := true, named := ["internal/strconv.uint64pow10", "math/bits.deBruijn32tab", "math/bits.deBruijn64tab", "unicode/utf8.first", "unicode/utf8.acceptRanges", "treadwheel/lex.signs", "strconv.ErrSyntax", "strconv.ErrRange", "treadwheel/parse.letWord", "treadwheel/parse.caseWord", "treadwheel/parse.backslash", "treadwheel/parse.name", "treadwheel/parse.con", "treadwheel/parse.number", "treadwheel/parse.builtIn", "treadwheel/parse.roundOpen", "treadwheel/parse.inWord", "treadwheel/parse.semicolon", "treadwheel/parse.equals", "treadwheel/parse.ofWord", "treadwheel/parse.curlyOpen", "treadwheel/parse.curlyClose", "treadwheel/parse.arrow", "treadwheel/parse.sign", "treadwheel/parse.roundClose", "treadwheel/parse.dataWord", "internal/bytealg.MaxLen"], plainKeys := false, apart := false, laid := [("math/bits.deBruijn32tab", laid_math_bits_deBruijn32tab), ("math/bits.deBruijn64tab", laid_math_bits_deBruijn64tab), ("internal/strconv.uint64pow10", laid_internal_strconv_uint64pow10), ("unicode/utf8.acceptRanges", laid_unicode_utf8_acceptRanges), ("strconv.ErrRange", laid_strconv_ErrRange), ("strconv.ErrSyntax", laid_strconv_ErrSyntax), ("treadwheel/lex.signs", laid_treadwheel_lex_signs), ("treadwheel/parse.name", laid_treadwheel_parse_name), ("treadwheel/parse.con", laid_treadwheel_parse_con), ("treadwheel/parse.number", laid_treadwheel_parse_number), ("treadwheel/parse.sign", laid_treadwheel_parse_sign), ("treadwheel/parse.builtIn", laid_treadwheel_parse_builtIn), ("treadwheel/parse.dataWord", laid_treadwheel_parse_dataWord), ("treadwheel/parse.letWord", laid_treadwheel_parse_letWord), ("treadwheel/parse.inWord", laid_treadwheel_parse_inWord), ("treadwheel/parse.caseWord", laid_treadwheel_parse_caseWord), ("treadwheel/parse.ofWord", laid_treadwheel_parse_ofWord), ("treadwheel/parse.roundOpen", laid_treadwheel_parse_roundOpen), ("treadwheel/parse.roundClose", laid_treadwheel_parse_roundClose), ("treadwheel/parse.curlyOpen", laid_treadwheel_parse_curlyOpen), ("treadwheel/parse.curlyClose", laid_treadwheel_parse_curlyClose), ("treadwheel/parse.semicolon", laid_treadwheel_parse_semicolon), ("treadwheel/parse.equals", laid_treadwheel_parse_equals), ("treadwheel/parse.arrow", laid_treadwheel_parse_arrow), ("treadwheel/parse.backslash", laid_treadwheel_parse_backslash), ("unicode/utf8.first", laid_unicode_utf8_first)] }
def ShowNestedSaid : Prop := showNestedRow.holds Tryz.pinned (OpenSpec.ofChange showNestedSpec)

/-- ITS FALSE NEIGHBOUR: 'it returns false'. Refute it at one input. -/
def showNestedWrong : ChangeSpec := { name := "showNested", fn := fun _ => fun
  | [d] => { results := [.lit (.bool false)], args := [d] }
  | _ => none }
def ShowNestedWrongFalsely : Prop := showNestedRow.holds Tryz.pinned (OpenSpec.ofChange showNestedWrong)

/- THE SECOND FORM. 'bulk': how many values and letters a reading holds, each counted each time it is reached (what is shared counts as often as it is met; a slice's spare places count too). A statement '..UptoSaid' is the law's where the arguments, and the package variables that the reading takes, are together of bulk at most 1048576: NARROWER than '..Said'. Prove '..Said' where nothing that the law and all that it calls make is longer than what came in: it says more and counts as full. Else prove '..UptoSaid'. A law counts once. -/
mutual
def uptoBulk {H : Type} : DataW H → Nat
  | .lit (.string bytes) => bytes.length + 1
  | .lit _ => 1
  | .nil => 1
  | .ptr d => uptoBulk d + 1
  | .slice elems spare => uptoBulkAll elems + uptoBulkAll spare + 1
  | .agg parts => uptoBulkAll parts + 1
  | .iface _ d => uptoBulk d + 1
  | .map entries => uptoBulkEntries entries + 1
  | .held _ => 1
def uptoBulkAll {H : Type} : List (DataW H) → Nat
  | [] => 0
  | d :: r => uptoBulk d + uptoBulkAll r
def uptoBulkEntries {H : Type} : List (Lit × DataW H) → Nat
  | [] => 0
  | x :: r => uptoBulkEntry x + uptoBulkEntries r
def uptoBulkEntry {H : Type} : Lit × DataW H → Nat
  | (.string bytes, d) => bytes.length + uptoBulk d + 1
  | (_, d) => uptoBulk d + 1
 end
def uptoSmall : (H : Type) → List (DataW H) → Bool := fun _ ds => decide (uptoBulkAll ds ≤ 1048576)
def OpenSpec.upto (s : _root_.Go.ChangeSpec) : _root_.Go.OpenSpec := { _root_.Go.OpenSpec.ofChange s with cond := some uptoSmall }

/-- 'treadwheellaw09.ShowTells', WHERE WHAT IT READS IS OF BULK AT MOST 1048576: true; the input reads as it did. -/
def showTellsUptoRow : OpenClaim := { program := "ythehgcmhcioffaagreatdoor", sum := "4e5bac812db8842d0ecfa2ec6395493ef22c150c5959828c7cacf8e827c29185", func := "treadwheel/treadwheellaw09.ShowTells", spec := "showTells", inPlace := ["internal/abi.NoEscape", "internal/bytealg.MakeNoZero", "internal/bytealg.IndexByteString", "internal/bytealg.IndexString"], unfollowed := true, recurses := true, named := ["internal/strconv.uint64pow10", "math/bits.deBruijn32tab", "math/bits.deBruijn64tab", "unicode/utf8.first", "unicode/utf8.acceptRanges", "internal/bytealg.MaxLen"], plainKeys := false, apart := false, laid := [("math/bits.deBruijn32tab", laid_math_bits_deBruijn32tab), ("math/bits.deBruijn64tab", laid_math_bits_deBruijn64tab), ("internal/strconv.uint64pow10", laid_internal_strconv_uint64pow10), ("unicode/utf8.acceptRanges", laid_unicode_utf8_acceptRanges), ("unicode/utf8.first", laid_unicode_utf8_first)], narrowed := true }
def ShowTellsUptoSaid : Prop := showTellsUptoRow.holds Tryz.pinned (OpenSpec.upto showTellsSpec)

/-- 'treadwheellaw09.ShowParts', WHERE WHAT IT READS IS OF BULK AT MOST 1048576: true; the input reads as it did. -/
def showPartsUptoRow : OpenClaim := { program := "ythehgcmhcioffaagreatdoor", sum := "4e5bac812db8842d0ecfa2ec6395493ef22c150c5959828c7cacf8e827c29185", func := "treadwheel/treadwheellaw09.ShowParts", spec := "showParts", inPlace := ["internal/abi.NoEscape", "internal/bytealg.MakeNoZero", "internal/bytealg.IndexByteString", "internal/bytealg.IndexString"], unfollowed := true, recurses := true, named := ["internal/strconv.uint64pow10", "math/bits.deBruijn32tab", "math/bits.deBruijn64tab", "unicode/utf8.first", "unicode/utf8.acceptRanges", "internal/bytealg.MaxLen"], plainKeys := false, apart := false, laid := [("math/bits.deBruijn32tab", laid_math_bits_deBruijn32tab), ("math/bits.deBruijn64tab", laid_math_bits_deBruijn64tab), ("internal/strconv.uint64pow10", laid_internal_strconv_uint64pow10), ("unicode/utf8.acceptRanges", laid_unicode_utf8_acceptRanges), ("unicode/utf8.first", laid_unicode_utf8_first)], narrowed := true }
def ShowPartsUptoSaid : Prop := showPartsUptoRow.holds Tryz.pinned (OpenSpec.upto showPartsSpec)

/-- 'treadwheellaw09.ShowNested', WHERE WHAT IT READS IS OF BULK AT MOST 1048576: true; the input reads as it did. -/
def showNestedUptoRow : OpenClaim := { program := "ythehgcmhcioffaagreatdoor", sum := "4e5bac812db8842d0ecfa2ec6395493ef22c150c5959828c7cacf8e827c29185", func := "treadwheel/treadwheellaw09.ShowNested", spec := "showNested", inPlace := ["internal/abi.NoEscape", "internal/bytealg.MakeNoZero", "internal/bytealg.IndexByteString", "internal/bytealg.IndexString"], unfollowed := true, recurses := true, named := ["internal/strconv.uint64pow10", "math/bits.deBruijn32tab", "math/bits.deBruijn64tab", "unicode/utf8.first", "unicode/utf8.acceptRanges", "treadwheel/lex.signs", "strconv.ErrSyntax", "strconv.ErrRange", "treadwheel/parse.letWord", "treadwheel/parse.caseWord", "treadwheel/parse.backslash", "treadwheel/parse.name", "treadwheel/parse.con", "treadwheel/parse.number", "treadwheel/parse.builtIn", "treadwheel/parse.roundOpen", "treadwheel/parse.inWord", "treadwheel/parse.semicolon", "treadwheel/parse.equals", "treadwheel/parse.ofWord", "treadwheel/parse.curlyOpen", "treadwheel/parse.curlyClose", "treadwheel/parse.arrow", "treadwheel/parse.sign", "treadwheel/parse.roundClose", "treadwheel/parse.dataWord", "internal/bytealg.MaxLen"], plainKeys := false, apart := false, laid := [("math/bits.deBruijn32tab", laid_math_bits_deBruijn32tab), ("math/bits.deBruijn64tab", laid_math_bits_deBruijn64tab), ("internal/strconv.uint64pow10", laid_internal_strconv_uint64pow10), ("unicode/utf8.acceptRanges", laid_unicode_utf8_acceptRanges), ("strconv.ErrRange", laid_strconv_ErrRange), ("strconv.ErrSyntax", laid_strconv_ErrSyntax), ("treadwheel/lex.signs", laid_treadwheel_lex_signs), ("treadwheel/parse.name", laid_treadwheel_parse_name), ("treadwheel/parse.con", laid_treadwheel_parse_con), ("treadwheel/parse.number", laid_treadwheel_parse_number), ("treadwheel/parse.sign", laid_treadwheel_parse_sign), ("treadwheel/parse.builtIn", laid_treadwheel_parse_builtIn), ("treadwheel/parse.dataWord", laid_treadwheel_parse_dataWord), ("treadwheel/parse.letWord", laid_treadwheel_parse_letWord), ("treadwheel/parse.inWord", laid_treadwheel_parse_inWord), ("treadwheel/parse.caseWord", laid_treadwheel_parse_caseWord), ("treadwheel/parse.ofWord", laid_treadwheel_parse_ofWord), ("treadwheel/parse.roundOpen", laid_treadwheel_parse_roundOpen), ("treadwheel/parse.roundClose", laid_treadwheel_parse_roundClose), ("treadwheel/parse.curlyOpen", laid_treadwheel_parse_curlyOpen), ("treadwheel/parse.curlyClose", laid_treadwheel_parse_curlyClose), ("treadwheel/parse.semicolon", laid_treadwheel_parse_semicolon), ("treadwheel/parse.equals", laid_treadwheel_parse_equals), ("treadwheel/parse.arrow", laid_treadwheel_parse_arrow), ("treadwheel/parse.backslash", laid_treadwheel_parse_backslash), ("unicode/utf8.first", laid_unicode_utf8_first)], narrowed := true }
def ShowNestedUptoSaid : Prop := showNestedUptoRow.holds Tryz.pinned (OpenSpec.upto showNestedSpec)

end Rows
end Go.Proofs.YthehgcmhcioffaaGreatDoor
