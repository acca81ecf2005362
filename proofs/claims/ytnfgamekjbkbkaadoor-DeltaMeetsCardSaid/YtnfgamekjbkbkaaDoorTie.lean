/-
  DERIVED. GIVEN WITH THE SEED: THE PROGRAM's TIES (one call each: nine closed facts by the kernel) AND EACH ROW's TIE, after the 31st guide's Derived/Test/Toyas{Tie, Card}.lean. No idea stands in it: it is a product of the set-up. Laid BY PROGRAM, IN A SANDBOX (cutbox-door.mjs). By AI agents, Wed Nov 11 2026. No macro, syntax, notation, axiom, sorry.
-/
import Derived.Test.YtnfgamekjbkbkaaDoorRows
import Derived.LaidByTextLater
import Derived.SevenTiedAt
import Derived.LaidSub
import Derived.LaidOnce
namespace Go.Proofs.YtnfgamekjbkbkaaDoor
open Go
set_option maxRecDepth 100000
theorem seatTie1 : Tryd.prog.laidByTextLater [("vigil/digest.table", Rows.laid_vigil_digest_table), ("vigil/revoke.fullest", Rows.laid_vigil_revoke_fullest)] [.data, .data] true :=
  Program.laidByTextLater_by_one 19 8 65 (by kernel_rfl) (by kernel_rfl) (by kernel_rfl) (by kernel_rfl) (by kernel_rfl) (by kernel_rfl) (fun _ _ => by kernel_rfl)
theorem noOwnUnsafe : Tryd.pinned.checked.prog.headLifts.contains "ownunsafe" = false := by kernel_rfl
theorem tie : Tryd.prog.laidByTextLater [("vigil/revoke.fullest", Rows.laid_vigil_revoke_fullest)] [.data] true :=
  Program.laidByTextLater.sub seatTie1 ["vigil/revoke.fullest"] (by kernel_rfl) (by kernel_rfl)
theorem revokeBytes_row_tie : Rows.revokeBytesRow.laidByTextAt .later Tryd.pinned [.data] true :=
  OpenClaim.laidByTextAt_later rfl rfl tie noOwnUnsafe
theorem tie2 : Tryd.prog.laidByTextLater [("vigil/digest.table", Rows.laid_vigil_digest_table)] [.data] true :=
  Program.laidByTextLater.sub seatTie1 ["vigil/digest.table"] (by kernel_rfl) (by kernel_rfl)
theorem deltaDigests_row_tie : Rows.deltaDigestsRow.laidByTextAt .later Tryd.pinned [.data] true :=
  OpenClaim.laidByTextAt_later rfl rfl tie2 noOwnUnsafe
theorem tie3 : Tryd.prog.laidByTextLater [("vigil/digest.table", Rows.laid_vigil_digest_table), ("vigil/revoke.fullest", Rows.laid_vigil_revoke_fullest)] [.data, .data] true :=
  Program.laidByTextLater.sub seatTie1 ["vigil/digest.table", "vigil/revoke.fullest"] (by kernel_rfl) (by kernel_rfl)
theorem deltaAnswers_row_tie : Rows.deltaAnswersRow.laidByTextAt .later Tryd.pinned [.data, .data] true :=
  OpenClaim.laidByTextAt_later rfl rfl tie3 noOwnUnsafe
theorem deltaMeets_row_tie : Rows.deltaMeetsRow.laidByTextAt .later Tryd.pinned [.data, .data] true :=
  OpenClaim.laidByTextAt_later rfl rfl tie3 noOwnUnsafe
theorem deltaNil_row_tie : Rows.deltaNilRow.laidByTextAt .later Tryd.pinned [.data, .data] true :=
  OpenClaim.laidByTextAt_later rfl rfl tie3 noOwnUnsafe
theorem revokeBytesUpto_row_tie : Rows.revokeBytesUptoRow.laidByTextAt .later Tryd.pinned [.data] true :=
  OpenClaim.laidByTextAt_later rfl rfl tie noOwnUnsafe
theorem deltaDigestsUpto_row_tie : Rows.deltaDigestsUptoRow.laidByTextAt .later Tryd.pinned [.data] true :=
  OpenClaim.laidByTextAt_later rfl rfl tie2 noOwnUnsafe
theorem deltaAnswersUpto_row_tie : Rows.deltaAnswersUptoRow.laidByTextAt .later Tryd.pinned [.data, .data] true :=
  OpenClaim.laidByTextAt_later rfl rfl tie3 noOwnUnsafe
theorem deltaMeetsUpto_row_tie : Rows.deltaMeetsUptoRow.laidByTextAt .later Tryd.pinned [.data, .data] true :=
  OpenClaim.laidByTextAt_later rfl rfl tie3 noOwnUnsafe
theorem deltaNilUpto_row_tie : Rows.deltaNilUptoRow.laidByTextAt .later Tryd.pinned [.data, .data] true :=
  OpenClaim.laidByTextAt_later rfl rfl tie3 noOwnUnsafe
end Go.Proofs.YtnfgamekjbkbkaaDoor
