/-
  DERIVED. GIVEN WITH THE SEED: THE PROGRAM's TIES (one call each: nine closed facts by the kernel) AND EACH ROW's TIE, after the 31st guide's Derived/Test/Toyas{Tie, Card}.lean. No idea stands in it: it is a product of the set-up. Laid BY PROGRAM, IN A SANDBOX (cutbox-door.mjs). By AI agents, Wed Nov 11 2026. No macro, syntax, notation, axiom, sorry.
-/
import Derived.Test.YtocblkacdoahfaaGreatDoorRows
import Derived.LaidByTextLater
import Derived.SevenTiedAt
import Derived.LaidSub
import Derived.LaidOnce
namespace Go.Proofs.YtocblkacdoahfaaGreatDoor
open Go
set_option maxRecDepth 100000
theorem seatTie1 : Tryz.prog.laidByTextLater [("unicode/utf8.acceptRanges", Rows.laid_unicode_utf8_acceptRanges), ("strongbox/hash.leftOrder", Rows.laid_strongbox_hash_leftOrder), ("strongbox/hash.rightOrder", Rows.laid_strongbox_hash_rightOrder), ("strongbox/hash.leftTurns", Rows.laid_strongbox_hash_leftTurns), ("strongbox/hash.rightTurns", Rows.laid_strongbox_hash_rightTurns), ("strongbox/hash.squareRoots", Rows.laid_strongbox_hash_squareRoots), ("strongbox/hash.cubeRoots", Rows.laid_strongbox_hash_cubeRoots), ("strongbox/text.bech32Code", Rows.laid_strongbox_text_bech32Code)] [.data, .data, .data, .data, .data, .data, .data, .wider] true :=
  Program.laidByTextLater_by_one 55 8 81 (by kernel_rfl) (by kernel_rfl) (by kernel_rfl) (by kernel_rfl) (by kernel_rfl) (by kernel_rfl) (fun _ _ => by kernel_rfl)
theorem pin_laid_unicode_CaseRanges : Tryz.pinned.checked.prog.pinnedFits "unicode.CaseRanges" = true := by kernel_rfl
theorem pin_laid_unicode_utf8_first : Tryz.pinned.checked.prog.pinnedFits "unicode/utf8.first" = true := by kernel_rfl
theorem noOwnUnsafe : Tryz.pinned.checked.prog.headLifts.contains "ownunsafe" = false := by kernel_rfl
theorem fits1 : Tryz.pinned.checked.prog.listedFits [("unicode/utf8.acceptRanges", Rows.laid_unicode_utf8_acceptRanges), ("strongbox/hash.leftOrder", Rows.laid_strongbox_hash_leftOrder), ("strongbox/hash.rightOrder", Rows.laid_strongbox_hash_rightOrder), ("strongbox/hash.leftTurns", Rows.laid_strongbox_hash_leftTurns), ("strongbox/hash.rightTurns", Rows.laid_strongbox_hash_rightTurns), ("strongbox/hash.squareRoots", Rows.laid_strongbox_hash_squareRoots), ("strongbox/hash.cubeRoots", Rows.laid_strongbox_hash_cubeRoots), ("strongbox/text.bech32Code", Rows.laid_strongbox_text_bech32Code), ("unicode.CaseRanges", Rows.laid_unicode_CaseRanges), ("unicode/utf8.first", Rows.laid_unicode_utf8_first)] = true := by
  unfold Program.listedFits
  rw [noOwnUnsafe]
  kernel_rfl
theorem tie : Tryz.prog.laidByTextLater [("unicode/utf8.acceptRanges", Rows.laid_unicode_utf8_acceptRanges), ("strongbox/hash.leftOrder", Rows.laid_strongbox_hash_leftOrder), ("strongbox/hash.rightOrder", Rows.laid_strongbox_hash_rightOrder), ("strongbox/hash.leftTurns", Rows.laid_strongbox_hash_leftTurns), ("strongbox/hash.rightTurns", Rows.laid_strongbox_hash_rightTurns), ("strongbox/hash.squareRoots", Rows.laid_strongbox_hash_squareRoots), ("strongbox/hash.cubeRoots", Rows.laid_strongbox_hash_cubeRoots), ("strongbox/text.bech32Code", Rows.laid_strongbox_text_bech32Code)] [.data, .data, .data, .data, .data, .data, .data, .wider] true :=
  Program.laidByTextLater.sub seatTie1 ["unicode/utf8.acceptRanges", "strongbox/hash.leftOrder", "strongbox/hash.rightOrder", "strongbox/hash.leftTurns", "strongbox/hash.rightTurns", "strongbox/hash.squareRoots", "strongbox/hash.cubeRoots", "strongbox/text.bech32Code"] (by kernel_rfl) (by kernel_rfl)
theorem strongboxAddressed_row_tie : Rows.strongboxAddressedRow.laidByTextAt .later Tryz.pinned [.data, .data, .data, .data, .data, .data, .data, .wider, .pinned, .pinned] true :=
  OpenClaim.laidByTextAt_pinned rfl rfl tie rfl rfl rfl rfl (fun y hy _e => by
    simp only [Rows.strongboxAddressedRow, List.zip_cons_cons, List.zip_nil_right, List.mem_cons, List.mem_nil_iff, or_false] at hy
    rcases hy with rfl | rfl | rfl | rfl | rfl | rfl | rfl | rfl | rfl | rfl
    · cases _e
    · cases _e
    · cases _e
    · cases _e
    · cases _e
    · cases _e
    · cases _e
    · cases _e
    · exact ⟨pin_laid_unicode_CaseRanges, by kernel_rfl⟩
    · exact ⟨pin_laid_unicode_utf8_first, by kernel_rfl⟩) fits1
theorem strongboxAddressedUpto_row_tie : Rows.strongboxAddressedUptoRow.laidByTextAt .later Tryz.pinned [.data, .data, .data, .data, .data, .data, .data, .wider, .pinned, .pinned] true :=
  OpenClaim.laidByTextAt_pinned rfl rfl tie rfl rfl rfl rfl (fun y hy _e => by
    simp only [Rows.strongboxAddressedUptoRow, List.zip_cons_cons, List.zip_nil_right, List.mem_cons, List.mem_nil_iff, or_false] at hy
    rcases hy with rfl | rfl | rfl | rfl | rfl | rfl | rfl | rfl | rfl | rfl
    · cases _e
    · cases _e
    · cases _e
    · cases _e
    · cases _e
    · cases _e
    · cases _e
    · cases _e
    · exact ⟨pin_laid_unicode_CaseRanges, by kernel_rfl⟩
    · exact ⟨pin_laid_unicode_utf8_first, by kernel_rfl⟩) fits1
end Go.Proofs.YtocblkacdoahfaaGreatDoor
