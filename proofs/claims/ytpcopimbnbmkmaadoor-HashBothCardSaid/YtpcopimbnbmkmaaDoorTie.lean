/-
  DERIVED. GIVEN WITH THE SEED: THE PROGRAM's TIES (one call each: nine closed facts by the kernel) AND EACH ROW's TIE, after the 31st guide's Derived/Test/Toyas{Tie, Card}.lean. No idea stands in it: it is a product of the set-up. Laid BY PROGRAM, IN A SANDBOX (cutbox-door.mjs). By AI agents, Wed Nov 11 2026. No macro, syntax, notation, axiom, sorry.
-/
import Derived.Test.YtpcopimbnbmkmaaDoorRows
import Derived.LaidByTextLater
import Derived.SevenTiedAt
import Derived.LaidSub
import Derived.LaidOnce
namespace Go.Proofs.YtpcopimbnbmkmaaDoor
open Go
set_option maxRecDepth 100000
theorem seatTie1 : Tryd.prog.laidByTextLater [("strongbox/hash.leftOrder", Rows.laid_strongbox_hash_leftOrder), ("strongbox/hash.rightOrder", Rows.laid_strongbox_hash_rightOrder), ("strongbox/hash.leftTurns", Rows.laid_strongbox_hash_leftTurns), ("strongbox/hash.rightTurns", Rows.laid_strongbox_hash_rightTurns), ("strongbox/hash.squareRoots", Rows.laid_strongbox_hash_squareRoots), ("strongbox/hash.cubeRoots", Rows.laid_strongbox_hash_cubeRoots)] [.data, .data, .data, .data, .data, .data] true :=
  Program.laidByTextLater_by_one 39 8 81 (by kernel_rfl) (by kernel_rfl) (by kernel_rfl) (by kernel_rfl) (by kernel_rfl) (by kernel_rfl) (fun _ _ => by kernel_rfl)
theorem noOwnUnsafe : Tryd.pinned.checked.prog.headLifts.contains "ownunsafe" = false := by kernel_rfl
theorem tie : Tryd.prog.laidByTextLater [("strongbox/hash.leftOrder", Rows.laid_strongbox_hash_leftOrder), ("strongbox/hash.rightOrder", Rows.laid_strongbox_hash_rightOrder), ("strongbox/hash.leftTurns", Rows.laid_strongbox_hash_leftTurns), ("strongbox/hash.rightTurns", Rows.laid_strongbox_hash_rightTurns), ("strongbox/hash.squareRoots", Rows.laid_strongbox_hash_squareRoots), ("strongbox/hash.cubeRoots", Rows.laid_strongbox_hash_cubeRoots)] [.data, .data, .data, .data, .data, .data] true :=
  Program.laidByTextLater.sub seatTie1 ["strongbox/hash.leftOrder", "strongbox/hash.rightOrder", "strongbox/hash.leftTurns", "strongbox/hash.rightTurns", "strongbox/hash.squareRoots", "strongbox/hash.cubeRoots"] (by kernel_rfl) (by kernel_rfl)
theorem hashSums_row_tie : Rows.hashSumsRow.laidByTextAt .later Tryd.pinned [.data, .data, .data, .data, .data, .data] true :=
  OpenClaim.laidByTextAt_later rfl rfl tie noOwnUnsafe
theorem hashBoth_row_tie : Rows.hashBothRow.laidByTextAt .later Tryd.pinned [.data, .data, .data, .data, .data, .data] true :=
  OpenClaim.laidByTextAt_later rfl rfl tie noOwnUnsafe
theorem hashSumsUpto_row_tie : Rows.hashSumsUptoRow.laidByTextAt .later Tryd.pinned [.data, .data, .data, .data, .data, .data] true :=
  OpenClaim.laidByTextAt_later rfl rfl tie noOwnUnsafe
theorem hashBothUpto_row_tie : Rows.hashBothUptoRow.laidByTextAt .later Tryd.pinned [.data, .data, .data, .data, .data, .data] true :=
  OpenClaim.laidByTextAt_later rfl rfl tie noOwnUnsafe
end Go.Proofs.YtpcopimbnbmkmaaDoor
