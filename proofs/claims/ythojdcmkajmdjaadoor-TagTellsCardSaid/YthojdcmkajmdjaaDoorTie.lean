/-
  DERIVED. GIVEN WITH THE SEED: THE PROGRAM's TIES (one call each: nine closed facts by the kernel) AND EACH ROW's TIE, after the 31st guide's Derived/Test/Toyas{Tie, Card}.lean. No idea stands in it: it is a product of the set-up. Laid BY PROGRAM, IN A SANDBOX (cutbox-door.mjs). By AI agents, Wed Nov 11 2026. No macro, syntax, notation, axiom, sorry.
-/
import Derived.Test.YthojdcmkajmdjaaDoorRows
import Derived.LaidByTextLater
import Derived.SevenTiedAt
import Derived.LaidSub
import Derived.LaidOnce
namespace Go.Proofs.YthojdcmkajmdjaaDoor
open Go
set_option maxRecDepth 100000
theorem seatTie1 : Tryd.prog.laidByTextLater [("sigillary/sigillaryref01.k", Rows.laid_sigillary_sigillaryref01_k), ("errors.errorType", Rows.laid_errors_errorType), ("sigillary/rounds.constants", Rows.laid_sigillary_rounds_constants), ("sigillary/rounds.errBlock", Rows.laid_sigillary_rounds_errBlock), ("sigillary/rounds.errWord", Rows.laid_sigillary_rounds_errWord), ("sigillary/digest.errLength", Rows.laid_sigillary_digest_errLength), ("sigillary/digest.errRounds", Rows.laid_sigillary_digest_errRounds)] [.data, .handle, .data, .sentinel, .sentinel, .sentinel, .sentinel] true :=
  Program.laidByTextLater_by_one 102 8 65 (by kernel_rfl) (by kernel_rfl) (by kernel_rfl) (by kernel_rfl) (by kernel_rfl) (by kernel_rfl) (fun _ _ => by kernel_rfl)
theorem noOwnUnsafe : Tryd.pinned.checked.prog.headLifts.contains "ownunsafe" = false := by kernel_rfl
theorem tie : Tryd.prog.laidByTextLater [("sigillary/sigillaryref01.k", Rows.laid_sigillary_sigillaryref01_k), ("errors.errorType", Rows.laid_errors_errorType), ("sigillary/rounds.constants", Rows.laid_sigillary_rounds_constants), ("sigillary/rounds.errBlock", Rows.laid_sigillary_rounds_errBlock), ("sigillary/rounds.errWord", Rows.laid_sigillary_rounds_errWord), ("sigillary/digest.errLength", Rows.laid_sigillary_digest_errLength), ("sigillary/digest.errRounds", Rows.laid_sigillary_digest_errRounds)] [.data, .handle, .data, .sentinel, .sentinel, .sentinel, .sentinel] true :=
  Program.laidByTextLater.sub seatTie1 ["sigillary/sigillaryref01.k", "errors.errorType", "sigillary/rounds.constants", "sigillary/rounds.errBlock", "sigillary/rounds.errWord", "sigillary/digest.errLength", "sigillary/digest.errRounds"] (by kernel_rfl) (by kernel_rfl)
theorem tagTells_row_tie : Rows.tagTellsRow.laidByTextAt .later Tryd.pinned [.data, .handle, .data, .sentinel, .sentinel, .sentinel, .sentinel] true :=
  OpenClaim.laidByTextAt_later rfl rfl tie noOwnUnsafe
theorem tie2 : Tryd.prog.laidByTextLater [("errors.errorType", Rows.laid_errors_errorType), ("sigillary/rounds.constants", Rows.laid_sigillary_rounds_constants), ("sigillary/rounds.errBlock", Rows.laid_sigillary_rounds_errBlock), ("sigillary/rounds.errWord", Rows.laid_sigillary_rounds_errWord), ("sigillary/digest.errLength", Rows.laid_sigillary_digest_errLength), ("sigillary/digest.errRounds", Rows.laid_sigillary_digest_errRounds)] [.handle, .data, .sentinel, .sentinel, .sentinel, .sentinel] true :=
  Program.laidByTextLater.sub seatTie1 ["errors.errorType", "sigillary/rounds.constants", "sigillary/rounds.errBlock", "sigillary/rounds.errWord", "sigillary/digest.errLength", "sigillary/digest.errRounds"] (by kernel_rfl) (by kernel_rfl)
theorem tagKeys_row_tie : Rows.tagKeysRow.laidByTextAt .later Tryd.pinned [.handle, .data, .sentinel, .sentinel, .sentinel, .sentinel] true :=
  OpenClaim.laidByTextAt_later rfl rfl tie2 noOwnUnsafe
theorem tagBack_row_tie : Rows.tagBackRow.laidByTextAt .later Tryd.pinned [.handle, .data, .sentinel, .sentinel, .sentinel, .sentinel] true :=
  OpenClaim.laidByTextAt_later rfl rfl tie2 noOwnUnsafe
theorem tagEnds_row_tie : Rows.tagEndsRow.laidByTextAt .later Tryd.pinned [.handle, .data, .sentinel, .sentinel, .sentinel, .sentinel] true :=
  OpenClaim.laidByTextAt_later rfl rfl tie2 noOwnUnsafe
theorem tagParts_row_tie : Rows.tagPartsRow.laidByTextAt .later Tryd.pinned [.handle, .data, .sentinel, .sentinel, .sentinel, .sentinel] true :=
  OpenClaim.laidByTextAt_later rfl rfl tie2 noOwnUnsafe
theorem tagJoins_row_tie : Rows.tagJoinsRow.laidByTextAt .later Tryd.pinned [.handle, .data, .sentinel, .sentinel, .sentinel, .sentinel] true :=
  OpenClaim.laidByTextAt_later rfl rfl tie2 noOwnUnsafe
theorem tagEqual_row_tie : Rows.tagEqualRow.laidByTextAt .later Tryd.pinned [.handle, .data, .sentinel, .sentinel, .sentinel, .sentinel] true :=
  OpenClaim.laidByTextAt_later rfl rfl tie2 noOwnUnsafe
theorem tagTellsUpto_row_tie : Rows.tagTellsUptoRow.laidByTextAt .later Tryd.pinned [.data, .handle, .data, .sentinel, .sentinel, .sentinel, .sentinel] true :=
  OpenClaim.laidByTextAt_later rfl rfl tie noOwnUnsafe
theorem tagKeysUpto_row_tie : Rows.tagKeysUptoRow.laidByTextAt .later Tryd.pinned [.handle, .data, .sentinel, .sentinel, .sentinel, .sentinel] true :=
  OpenClaim.laidByTextAt_later rfl rfl tie2 noOwnUnsafe
theorem tagBackUpto_row_tie : Rows.tagBackUptoRow.laidByTextAt .later Tryd.pinned [.handle, .data, .sentinel, .sentinel, .sentinel, .sentinel] true :=
  OpenClaim.laidByTextAt_later rfl rfl tie2 noOwnUnsafe
theorem tagEndsUpto_row_tie : Rows.tagEndsUptoRow.laidByTextAt .later Tryd.pinned [.handle, .data, .sentinel, .sentinel, .sentinel, .sentinel] true :=
  OpenClaim.laidByTextAt_later rfl rfl tie2 noOwnUnsafe
theorem tagPartsUpto_row_tie : Rows.tagPartsUptoRow.laidByTextAt .later Tryd.pinned [.handle, .data, .sentinel, .sentinel, .sentinel, .sentinel] true :=
  OpenClaim.laidByTextAt_later rfl rfl tie2 noOwnUnsafe
theorem tagJoinsUpto_row_tie : Rows.tagJoinsUptoRow.laidByTextAt .later Tryd.pinned [.handle, .data, .sentinel, .sentinel, .sentinel, .sentinel] true :=
  OpenClaim.laidByTextAt_later rfl rfl tie2 noOwnUnsafe
theorem tagEqualUpto_row_tie : Rows.tagEqualUptoRow.laidByTextAt .later Tryd.pinned [.handle, .data, .sentinel, .sentinel, .sentinel, .sentinel] true :=
  OpenClaim.laidByTextAt_later rfl rfl tie2 noOwnUnsafe
end Go.Proofs.YthojdcmkajmdjaaDoor
