/-
  DERIVED. GIVEN WITH THE SEED: THE PROGRAM's TIES (one call each: nine closed facts by the kernel) AND EACH ROW's TIE, after the 31st guide's Derived/Test/Toyas{Tie, Card}.lean. No idea stands in it: it is a product of the set-up. Laid BY PROGRAM, IN A SANDBOX (cutbox-door.mjs). By AI agents, Wed Nov 11 2026. No macro, syntax, notation, axiom, sorry.
-/
import Derived.Test.YthehgcmhcioffaaGreatDoorRows
import Derived.LaidByTextLater
import Derived.SevenTiedAt
import Derived.LaidSub
import Derived.LaidOnce
namespace Go.Proofs.YthehgcmhcioffaaGreatDoor
open Go
set_option maxRecDepth 100000
theorem seatTie1 : Tryz.prog.laidByTextLater [("math/bits.deBruijn32tab", Rows.laid_math_bits_deBruijn32tab), ("math/bits.deBruijn64tab", Rows.laid_math_bits_deBruijn64tab), ("internal/strconv.uint64pow10", Rows.laid_internal_strconv_uint64pow10), ("unicode/utf8.acceptRanges", Rows.laid_unicode_utf8_acceptRanges), ("strconv.ErrRange", Rows.laid_strconv_ErrRange), ("strconv.ErrSyntax", Rows.laid_strconv_ErrSyntax), ("treadwheel/lex.signs", Rows.laid_treadwheel_lex_signs), ("treadwheel/parse.name", Rows.laid_treadwheel_parse_name), ("treadwheel/parse.con", Rows.laid_treadwheel_parse_con), ("treadwheel/parse.number", Rows.laid_treadwheel_parse_number), ("treadwheel/parse.sign", Rows.laid_treadwheel_parse_sign), ("treadwheel/parse.builtIn", Rows.laid_treadwheel_parse_builtIn), ("treadwheel/parse.dataWord", Rows.laid_treadwheel_parse_dataWord), ("treadwheel/parse.letWord", Rows.laid_treadwheel_parse_letWord), ("treadwheel/parse.inWord", Rows.laid_treadwheel_parse_inWord), ("treadwheel/parse.caseWord", Rows.laid_treadwheel_parse_caseWord), ("treadwheel/parse.ofWord", Rows.laid_treadwheel_parse_ofWord), ("treadwheel/parse.roundOpen", Rows.laid_treadwheel_parse_roundOpen), ("treadwheel/parse.roundClose", Rows.laid_treadwheel_parse_roundClose), ("treadwheel/parse.curlyOpen", Rows.laid_treadwheel_parse_curlyOpen), ("treadwheel/parse.curlyClose", Rows.laid_treadwheel_parse_curlyClose), ("treadwheel/parse.semicolon", Rows.laid_treadwheel_parse_semicolon), ("treadwheel/parse.equals", Rows.laid_treadwheel_parse_equals), ("treadwheel/parse.arrow", Rows.laid_treadwheel_parse_arrow), ("treadwheel/parse.backslash", Rows.laid_treadwheel_parse_backslash)] [.data, .data, .data, .data, .sentinel, .sentinel, .data, .data, .data, .data, .data, .data, .data, .data, .data, .data, .data, .data, .data, .data, .data, .data, .data, .data, .data] true :=
  Program.laidByTextLater_by_one 188 8 65 (by kernel_rfl) (by kernel_rfl) (by kernel_rfl) (by kernel_rfl) (by kernel_rfl) (by kernel_rfl) (fun _ _ => by kernel_rfl)
theorem pin_laid_unicode_utf8_first : Tryz.pinned.checked.prog.pinnedFits "unicode/utf8.first" = true := by kernel_rfl
theorem noOwnUnsafe : Tryz.pinned.checked.prog.headLifts.contains "ownunsafe" = false := by kernel_rfl
theorem fits1 : Tryz.pinned.checked.prog.listedFits [("math/bits.deBruijn32tab", Rows.laid_math_bits_deBruijn32tab), ("math/bits.deBruijn64tab", Rows.laid_math_bits_deBruijn64tab), ("internal/strconv.uint64pow10", Rows.laid_internal_strconv_uint64pow10), ("unicode/utf8.acceptRanges", Rows.laid_unicode_utf8_acceptRanges), ("unicode/utf8.first", Rows.laid_unicode_utf8_first)] = true := by
  unfold Program.listedFits
  rw [noOwnUnsafe]
  kernel_rfl
theorem tie : Tryz.prog.laidByTextLater [("math/bits.deBruijn32tab", Rows.laid_math_bits_deBruijn32tab), ("math/bits.deBruijn64tab", Rows.laid_math_bits_deBruijn64tab), ("internal/strconv.uint64pow10", Rows.laid_internal_strconv_uint64pow10), ("unicode/utf8.acceptRanges", Rows.laid_unicode_utf8_acceptRanges)] [.data, .data, .data, .data] true :=
  Program.laidByTextLater.sub seatTie1 ["math/bits.deBruijn32tab", "math/bits.deBruijn64tab", "internal/strconv.uint64pow10", "unicode/utf8.acceptRanges"] (by kernel_rfl) (by kernel_rfl)
theorem showTells_row_tie : Rows.showTellsRow.laidByTextAt .later Tryz.pinned [.data, .data, .data, .data, .pinned] true :=
  OpenClaim.laidByTextAt_pinned rfl rfl tie rfl rfl rfl rfl (fun y hy _e => by
    simp only [Rows.showTellsRow, List.zip_cons_cons, List.zip_nil_right, List.mem_cons, List.mem_nil_iff, or_false] at hy
    rcases hy with rfl | rfl | rfl | rfl | rfl
    · cases _e
    · cases _e
    · cases _e
    · cases _e
    · exact ⟨pin_laid_unicode_utf8_first, by kernel_rfl⟩) fits1
theorem showParts_row_tie : Rows.showPartsRow.laidByTextAt .later Tryz.pinned [.data, .data, .data, .data, .pinned] true :=
  OpenClaim.laidByTextAt_pinned rfl rfl tie rfl rfl rfl rfl (fun y hy _e => by
    simp only [Rows.showPartsRow, List.zip_cons_cons, List.zip_nil_right, List.mem_cons, List.mem_nil_iff, or_false] at hy
    rcases hy with rfl | rfl | rfl | rfl | rfl
    · cases _e
    · cases _e
    · cases _e
    · cases _e
    · exact ⟨pin_laid_unicode_utf8_first, by kernel_rfl⟩) fits1
theorem fits2 : Tryz.pinned.checked.prog.listedFits [("math/bits.deBruijn32tab", Rows.laid_math_bits_deBruijn32tab), ("math/bits.deBruijn64tab", Rows.laid_math_bits_deBruijn64tab), ("internal/strconv.uint64pow10", Rows.laid_internal_strconv_uint64pow10), ("unicode/utf8.acceptRanges", Rows.laid_unicode_utf8_acceptRanges), ("strconv.ErrRange", Rows.laid_strconv_ErrRange), ("strconv.ErrSyntax", Rows.laid_strconv_ErrSyntax), ("treadwheel/lex.signs", Rows.laid_treadwheel_lex_signs), ("treadwheel/parse.name", Rows.laid_treadwheel_parse_name), ("treadwheel/parse.con", Rows.laid_treadwheel_parse_con), ("treadwheel/parse.number", Rows.laid_treadwheel_parse_number), ("treadwheel/parse.sign", Rows.laid_treadwheel_parse_sign), ("treadwheel/parse.builtIn", Rows.laid_treadwheel_parse_builtIn), ("treadwheel/parse.dataWord", Rows.laid_treadwheel_parse_dataWord), ("treadwheel/parse.letWord", Rows.laid_treadwheel_parse_letWord), ("treadwheel/parse.inWord", Rows.laid_treadwheel_parse_inWord), ("treadwheel/parse.caseWord", Rows.laid_treadwheel_parse_caseWord), ("treadwheel/parse.ofWord", Rows.laid_treadwheel_parse_ofWord), ("treadwheel/parse.roundOpen", Rows.laid_treadwheel_parse_roundOpen), ("treadwheel/parse.roundClose", Rows.laid_treadwheel_parse_roundClose), ("treadwheel/parse.curlyOpen", Rows.laid_treadwheel_parse_curlyOpen), ("treadwheel/parse.curlyClose", Rows.laid_treadwheel_parse_curlyClose), ("treadwheel/parse.semicolon", Rows.laid_treadwheel_parse_semicolon), ("treadwheel/parse.equals", Rows.laid_treadwheel_parse_equals), ("treadwheel/parse.arrow", Rows.laid_treadwheel_parse_arrow), ("treadwheel/parse.backslash", Rows.laid_treadwheel_parse_backslash), ("unicode/utf8.first", Rows.laid_unicode_utf8_first)] = true := by
  unfold Program.listedFits
  rw [noOwnUnsafe]
  kernel_rfl
theorem tie2 : Tryz.prog.laidByTextLater [("math/bits.deBruijn32tab", Rows.laid_math_bits_deBruijn32tab), ("math/bits.deBruijn64tab", Rows.laid_math_bits_deBruijn64tab), ("internal/strconv.uint64pow10", Rows.laid_internal_strconv_uint64pow10), ("unicode/utf8.acceptRanges", Rows.laid_unicode_utf8_acceptRanges), ("strconv.ErrRange", Rows.laid_strconv_ErrRange), ("strconv.ErrSyntax", Rows.laid_strconv_ErrSyntax), ("treadwheel/lex.signs", Rows.laid_treadwheel_lex_signs), ("treadwheel/parse.name", Rows.laid_treadwheel_parse_name), ("treadwheel/parse.con", Rows.laid_treadwheel_parse_con), ("treadwheel/parse.number", Rows.laid_treadwheel_parse_number), ("treadwheel/parse.sign", Rows.laid_treadwheel_parse_sign), ("treadwheel/parse.builtIn", Rows.laid_treadwheel_parse_builtIn), ("treadwheel/parse.dataWord", Rows.laid_treadwheel_parse_dataWord), ("treadwheel/parse.letWord", Rows.laid_treadwheel_parse_letWord), ("treadwheel/parse.inWord", Rows.laid_treadwheel_parse_inWord), ("treadwheel/parse.caseWord", Rows.laid_treadwheel_parse_caseWord), ("treadwheel/parse.ofWord", Rows.laid_treadwheel_parse_ofWord), ("treadwheel/parse.roundOpen", Rows.laid_treadwheel_parse_roundOpen), ("treadwheel/parse.roundClose", Rows.laid_treadwheel_parse_roundClose), ("treadwheel/parse.curlyOpen", Rows.laid_treadwheel_parse_curlyOpen), ("treadwheel/parse.curlyClose", Rows.laid_treadwheel_parse_curlyClose), ("treadwheel/parse.semicolon", Rows.laid_treadwheel_parse_semicolon), ("treadwheel/parse.equals", Rows.laid_treadwheel_parse_equals), ("treadwheel/parse.arrow", Rows.laid_treadwheel_parse_arrow), ("treadwheel/parse.backslash", Rows.laid_treadwheel_parse_backslash)] [.data, .data, .data, .data, .sentinel, .sentinel, .data, .data, .data, .data, .data, .data, .data, .data, .data, .data, .data, .data, .data, .data, .data, .data, .data, .data, .data] true :=
  Program.laidByTextLater.sub seatTie1 ["math/bits.deBruijn32tab", "math/bits.deBruijn64tab", "internal/strconv.uint64pow10", "unicode/utf8.acceptRanges", "strconv.ErrRange", "strconv.ErrSyntax", "treadwheel/lex.signs", "treadwheel/parse.name", "treadwheel/parse.con", "treadwheel/parse.number", "treadwheel/parse.sign", "treadwheel/parse.builtIn", "treadwheel/parse.dataWord", "treadwheel/parse.letWord", "treadwheel/parse.inWord", "treadwheel/parse.caseWord", "treadwheel/parse.ofWord", "treadwheel/parse.roundOpen", "treadwheel/parse.roundClose", "treadwheel/parse.curlyOpen", "treadwheel/parse.curlyClose", "treadwheel/parse.semicolon", "treadwheel/parse.equals", "treadwheel/parse.arrow", "treadwheel/parse.backslash"] (by kernel_rfl) (by kernel_rfl)
theorem showNested_row_tie : Rows.showNestedRow.laidByTextAt .later Tryz.pinned [.data, .data, .data, .data, .sentinel, .sentinel, .data, .data, .data, .data, .data, .data, .data, .data, .data, .data, .data, .data, .data, .data, .data, .data, .data, .data, .data, .pinned] true :=
  OpenClaim.laidByTextAt_pinned rfl rfl tie2 rfl rfl rfl rfl (fun y hy _e => by
    simp only [Rows.showNestedRow, List.zip_cons_cons, List.zip_nil_right, List.mem_cons, List.mem_nil_iff, or_false] at hy
    rcases hy with rfl | rfl | rfl | rfl | rfl | rfl | rfl | rfl | rfl | rfl | rfl | rfl | rfl | rfl | rfl | rfl | rfl | rfl | rfl | rfl | rfl | rfl | rfl | rfl | rfl | rfl
    · cases _e
    · cases _e
    · cases _e
    · cases _e
    · cases _e
    · cases _e
    · cases _e
    · cases _e
    · cases _e
    · cases _e
    · cases _e
    · cases _e
    · cases _e
    · cases _e
    · cases _e
    · cases _e
    · cases _e
    · cases _e
    · cases _e
    · cases _e
    · cases _e
    · cases _e
    · cases _e
    · cases _e
    · cases _e
    · exact ⟨pin_laid_unicode_utf8_first, by kernel_rfl⟩) fits2
theorem showTellsUpto_row_tie : Rows.showTellsUptoRow.laidByTextAt .later Tryz.pinned [.data, .data, .data, .data, .pinned] true :=
  OpenClaim.laidByTextAt_pinned rfl rfl tie rfl rfl rfl rfl (fun y hy _e => by
    simp only [Rows.showTellsUptoRow, List.zip_cons_cons, List.zip_nil_right, List.mem_cons, List.mem_nil_iff, or_false] at hy
    rcases hy with rfl | rfl | rfl | rfl | rfl
    · cases _e
    · cases _e
    · cases _e
    · cases _e
    · exact ⟨pin_laid_unicode_utf8_first, by kernel_rfl⟩) fits1
theorem showPartsUpto_row_tie : Rows.showPartsUptoRow.laidByTextAt .later Tryz.pinned [.data, .data, .data, .data, .pinned] true :=
  OpenClaim.laidByTextAt_pinned rfl rfl tie rfl rfl rfl rfl (fun y hy _e => by
    simp only [Rows.showPartsUptoRow, List.zip_cons_cons, List.zip_nil_right, List.mem_cons, List.mem_nil_iff, or_false] at hy
    rcases hy with rfl | rfl | rfl | rfl | rfl
    · cases _e
    · cases _e
    · cases _e
    · cases _e
    · exact ⟨pin_laid_unicode_utf8_first, by kernel_rfl⟩) fits1
theorem showNestedUpto_row_tie : Rows.showNestedUptoRow.laidByTextAt .later Tryz.pinned [.data, .data, .data, .data, .sentinel, .sentinel, .data, .data, .data, .data, .data, .data, .data, .data, .data, .data, .data, .data, .data, .data, .data, .data, .data, .data, .data, .pinned] true :=
  OpenClaim.laidByTextAt_pinned rfl rfl tie2 rfl rfl rfl rfl (fun y hy _e => by
    simp only [Rows.showNestedUptoRow, List.zip_cons_cons, List.zip_nil_right, List.mem_cons, List.mem_nil_iff, or_false] at hy
    rcases hy with rfl | rfl | rfl | rfl | rfl | rfl | rfl | rfl | rfl | rfl | rfl | rfl | rfl | rfl | rfl | rfl | rfl | rfl | rfl | rfl | rfl | rfl | rfl | rfl | rfl | rfl
    · cases _e
    · cases _e
    · cases _e
    · cases _e
    · cases _e
    · cases _e
    · cases _e
    · cases _e
    · cases _e
    · cases _e
    · cases _e
    · cases _e
    · cases _e
    · cases _e
    · cases _e
    · cases _e
    · cases _e
    · cases _e
    · cases _e
    · cases _e
    · cases _e
    · cases _e
    · cases _e
    · cases _e
    · cases _e
    · exact ⟨pin_laid_unicode_utf8_first, by kernel_rfl⟩) fits2
end Go.Proofs.YthehgcmhcioffaaGreatDoor
