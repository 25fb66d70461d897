/-
  DERIVED. GIVEN WITH THE SEED: THE PROGRAM's TIES (one call each: nine closed facts by the kernel) AND EACH ROW's TIE, after the 31st guide's Derived/Test/Toyas{Tie, Card}.lean. No idea stands in it: it is a product of the set-up. Laid BY PROGRAM, IN A SANDBOX (cutbox-door.mjs). By AI agents, Wed Nov 11 2026. No macro, syntax, notation, axiom, sorry.
-/
import Derived.Test.YtbbldkldgjmmgaaGreatDoorRows
import Derived.LaidByTextLater
import Derived.SevenTiedAt
import Derived.LaidSub
import Derived.LaidOnce
namespace Go.Proofs.YtbbldkldgjmmgaaGreatDoor
open Go
set_option maxRecDepth 100000
theorem seatTie1 : Tryz.prog.laidByTextLater [("math/bits.deBruijn32tab", Rows.laid_math_bits_deBruijn32tab), ("math/bits.deBruijn64tab", Rows.laid_math_bits_deBruijn64tab), ("internal/strconv.uint64pow10", Rows.laid_internal_strconv_uint64pow10), ("unicode/utf8.acceptRanges", Rows.laid_unicode_utf8_acceptRanges), ("errors.errorType", Rows.laid_errors_errorType), ("culvert/api.ErrNil", Rows.laid_culvert_api_ErrNil), ("culvert/api.ErrRange", Rows.laid_culvert_api_ErrRange), ("culvert/api.ErrShort", Rows.laid_culvert_api_ErrShort), ("culvert/api.ErrVersion", Rows.laid_culvert_api_ErrVersion), ("culvert/api.ErrType", Rows.laid_culvert_api_ErrType), ("culvert/api.ErrFlags", Rows.laid_culvert_api_ErrFlags), ("culvert/api.ErrID", Rows.laid_culvert_api_ErrID), ("culvert/api.ErrLength", Rows.laid_culvert_api_ErrLength), ("culvert/api.ErrWord", Rows.laid_culvert_api_ErrWord), ("culvert/api.ErrArgument", Rows.laid_culvert_api_ErrArgument), ("strconv.ErrRange", Rows.laid_strconv_ErrRange), ("strconv.ErrSyntax", Rows.laid_strconv_ErrSyntax), ("culvert/frame.lawful", Rows.laid_culvert_frame_lawful), ("culvert/frame.typeWords", Rows.laid_culvert_frame_typeWords), ("culvert/frame.flagWords", Rows.laid_culvert_frame_flagWords)] [.data, .data, .data, .data, .handle, .sentinel, .sentinel, .sentinel, .sentinel, .sentinel, .sentinel, .sentinel, .sentinel, .sentinel, .sentinel, .sentinel, .sentinel, .data, .data, .data] true :=
  Program.laidByTextLater_by_one 311 8 65 (by kernel_rfl) (by kernel_rfl) (by kernel_rfl) (by kernel_rfl) (by kernel_rfl) (by kernel_rfl) (fun _ _ => by kernel_rfl)
theorem pin_laid_unicode_utf8_first : Tryz.pinned.checked.prog.pinnedFits "unicode/utf8.first" = true := by kernel_rfl
theorem noOwnUnsafe : Tryz.pinned.checked.prog.headLifts.contains "ownunsafe" = false := by kernel_rfl
theorem fits1 : Tryz.pinned.checked.prog.listedFits [("math/bits.deBruijn32tab", Rows.laid_math_bits_deBruijn32tab), ("math/bits.deBruijn64tab", Rows.laid_math_bits_deBruijn64tab), ("internal/strconv.uint64pow10", Rows.laid_internal_strconv_uint64pow10), ("unicode/utf8.acceptRanges", Rows.laid_unicode_utf8_acceptRanges), ("errors.errorType", Rows.laid_errors_errorType), ("culvert/api.ErrNil", Rows.laid_culvert_api_ErrNil), ("culvert/api.ErrRange", Rows.laid_culvert_api_ErrRange), ("culvert/api.ErrShort", Rows.laid_culvert_api_ErrShort), ("culvert/api.ErrVersion", Rows.laid_culvert_api_ErrVersion), ("culvert/api.ErrType", Rows.laid_culvert_api_ErrType), ("culvert/api.ErrFlags", Rows.laid_culvert_api_ErrFlags), ("culvert/api.ErrID", Rows.laid_culvert_api_ErrID), ("culvert/api.ErrLength", Rows.laid_culvert_api_ErrLength), ("culvert/api.ErrWord", Rows.laid_culvert_api_ErrWord), ("culvert/api.ErrArgument", Rows.laid_culvert_api_ErrArgument), ("strconv.ErrRange", Rows.laid_strconv_ErrRange), ("strconv.ErrSyntax", Rows.laid_strconv_ErrSyntax), ("culvert/frame.lawful", Rows.laid_culvert_frame_lawful), ("culvert/frame.typeWords", Rows.laid_culvert_frame_typeWords), ("culvert/frame.flagWords", Rows.laid_culvert_frame_flagWords), ("unicode/utf8.first", Rows.laid_unicode_utf8_first)] = true := by
  unfold Program.listedFits
  rw [noOwnUnsafe]
  kernel_rfl
theorem tie : Tryz.prog.laidByTextLater [("math/bits.deBruijn32tab", Rows.laid_math_bits_deBruijn32tab), ("math/bits.deBruijn64tab", Rows.laid_math_bits_deBruijn64tab), ("internal/strconv.uint64pow10", Rows.laid_internal_strconv_uint64pow10), ("unicode/utf8.acceptRanges", Rows.laid_unicode_utf8_acceptRanges), ("errors.errorType", Rows.laid_errors_errorType), ("culvert/api.ErrNil", Rows.laid_culvert_api_ErrNil), ("culvert/api.ErrRange", Rows.laid_culvert_api_ErrRange), ("culvert/api.ErrShort", Rows.laid_culvert_api_ErrShort), ("culvert/api.ErrVersion", Rows.laid_culvert_api_ErrVersion), ("culvert/api.ErrType", Rows.laid_culvert_api_ErrType), ("culvert/api.ErrFlags", Rows.laid_culvert_api_ErrFlags), ("culvert/api.ErrID", Rows.laid_culvert_api_ErrID), ("culvert/api.ErrLength", Rows.laid_culvert_api_ErrLength), ("culvert/api.ErrWord", Rows.laid_culvert_api_ErrWord), ("culvert/api.ErrArgument", Rows.laid_culvert_api_ErrArgument), ("strconv.ErrRange", Rows.laid_strconv_ErrRange), ("strconv.ErrSyntax", Rows.laid_strconv_ErrSyntax), ("culvert/frame.lawful", Rows.laid_culvert_frame_lawful), ("culvert/frame.typeWords", Rows.laid_culvert_frame_typeWords), ("culvert/frame.flagWords", Rows.laid_culvert_frame_flagWords)] [.data, .data, .data, .data, .handle, .sentinel, .sentinel, .sentinel, .sentinel, .sentinel, .sentinel, .sentinel, .sentinel, .sentinel, .sentinel, .sentinel, .sentinel, .data, .data, .data] true :=
  Program.laidByTextLater.sub seatTie1 ["math/bits.deBruijn32tab", "math/bits.deBruijn64tab", "internal/strconv.uint64pow10", "unicode/utf8.acceptRanges", "errors.errorType", "culvert/api.ErrNil", "culvert/api.ErrRange", "culvert/api.ErrShort", "culvert/api.ErrVersion", "culvert/api.ErrType", "culvert/api.ErrFlags", "culvert/api.ErrID", "culvert/api.ErrLength", "culvert/api.ErrWord", "culvert/api.ErrArgument", "strconv.ErrRange", "strconv.ErrSyntax", "culvert/frame.lawful", "culvert/frame.typeWords", "culvert/frame.flagWords"] (by kernel_rfl) (by kernel_rfl)
theorem tapAgain_row_tie : Rows.tapAgainRow.laidByTextAt .later Tryz.pinned [.data, .data, .data, .data, .handle, .sentinel, .sentinel, .sentinel, .sentinel, .sentinel, .sentinel, .sentinel, .sentinel, .sentinel, .sentinel, .sentinel, .sentinel, .data, .data, .data, .pinned] true :=
  OpenClaim.laidByTextAt_pinned rfl rfl tie rfl rfl rfl rfl (fun y hy _e => by
    simp only [Rows.tapAgainRow, List.zip_cons_cons, List.zip_nil_right, List.mem_cons, List.mem_nil_iff, or_false] at hy
    rcases hy with rfl | rfl | rfl | rfl | rfl | rfl | rfl | rfl | rfl | rfl | rfl | rfl | rfl | rfl | rfl | rfl | rfl | rfl | rfl | rfl | rfl
    · cases _e
    · cases _e
    · cases _e
    · cases _e
    · cases _e
    · cases _e
    · cases _e
    · cases _e
    · cases _e
    · cases _e
    · cases _e
    · cases _e
    · cases _e
    · cases _e
    · cases _e
    · cases _e
    · cases _e
    · cases _e
    · cases _e
    · cases _e
    · exact ⟨pin_laid_unicode_utf8_first, by kernel_rfl⟩) fits1
theorem tapAgainUpto_row_tie : Rows.tapAgainUptoRow.laidByTextAt .later Tryz.pinned [.data, .data, .data, .data, .handle, .sentinel, .sentinel, .sentinel, .sentinel, .sentinel, .sentinel, .sentinel, .sentinel, .sentinel, .sentinel, .sentinel, .sentinel, .data, .data, .data, .pinned] true :=
  OpenClaim.laidByTextAt_pinned rfl rfl tie rfl rfl rfl rfl (fun y hy _e => by
    simp only [Rows.tapAgainUptoRow, List.zip_cons_cons, List.zip_nil_right, List.mem_cons, List.mem_nil_iff, or_false] at hy
    rcases hy with rfl | rfl | rfl | rfl | rfl | rfl | rfl | rfl | rfl | rfl | rfl | rfl | rfl | rfl | rfl | rfl | rfl | rfl | rfl | rfl | rfl
    · cases _e
    · cases _e
    · cases _e
    · cases _e
    · cases _e
    · cases _e
    · cases _e
    · cases _e
    · cases _e
    · cases _e
    · cases _e
    · cases _e
    · cases _e
    · cases _e
    · cases _e
    · cases _e
    · cases _e
    · cases _e
    · cases _e
    · cases _e
    · exact ⟨pin_laid_unicode_utf8_first, by kernel_rfl⟩) fits1
end Go.Proofs.YtbbldkldgjmmgaaGreatDoor
