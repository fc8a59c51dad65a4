/-
  DERIVED. GIVEN WITH THE SEED: THE PROGRAM's TIES (one call each: nine closed facts by the kernel) AND EACH ROW's TIE, after the 31st guide's Derived/Test/Toyas{Tie, Card}.lean. No idea stands in it: it is a product of the set-up. Laid BY PROGRAM, IN A SANDBOX (cutbox-door.mjs). By AI agents, Wed Nov 11 2026. No macro, syntax, notation, axiom, sorry.
-/
import Derived.Test.YtpdkojgepagbnaaDoorRows
import Derived.LaidByTextLater
import Derived.SevenTiedAt
import Derived.LaidSub
import Derived.LaidOnce
namespace Go.Proofs.YtpdkojgepagbnaaDoor
open Go
set_option maxRecDepth 100000
theorem seatTie1 : Tryd.prog.laidByTextLater [("estuary/words.keyBytes", Rows.laid_estuary_words_keyBytes), ("estuary/wire.kinds", Rows.laid_estuary_wire_kinds)] [.called, .data] true :=
  Program.laidByTextLater_by_one 807 8 21 (by kernel_rfl) (by kernel_rfl) (by kernel_rfl) (by kernel_rfl) (by kernel_rfl) (by kernel_rfl) (fun _ _ => by kernel_rfl)
theorem noOwnUnsafe : Tryd.pinned.checked.prog.headLifts.contains "ownunsafe" = false := by kernel_rfl
theorem tie : Tryd.prog.laidByTextLater [("estuary/words.keyBytes", Rows.laid_estuary_words_keyBytes), ("estuary/wire.kinds", Rows.laid_estuary_wire_kinds)] [.called, .data] true :=
  Program.laidByTextLater.sub seatTie1 ["estuary/words.keyBytes", "estuary/wire.kinds"] (by kernel_rfl) (by kernel_rfl)
theorem wires_row_tie : Rows.wiresRow.laidByTextAt .later Tryd.pinned [.called, .data] true :=
  OpenClaim.laidByTextAt_later rfl rfl tie noOwnUnsafe
theorem back_row_tie : Rows.backRow.laidByTextAt .later Tryd.pinned [.called, .data] true :=
  OpenClaim.laidByTextAt_later rfl rfl tie noOwnUnsafe
theorem rights_row_tie : Rows.rightsRow.laidByTextAt .later Tryd.pinned [.called, .data] true :=
  OpenClaim.laidByTextAt_later rfl rfl tie noOwnUnsafe
theorem tie2 : Tryd.prog.laidByTextLater [("estuary/words.keyBytes", Rows.laid_estuary_words_keyBytes)] [.called] true :=
  Program.laidByTextLater.sub seatTie1 ["estuary/words.keyBytes"] (by kernel_rfl) (by kernel_rfl)
theorem calm_row_tie : Rows.calmRow.laidByTextAt .later Tryd.pinned [.called] true :=
  OpenClaim.laidByTextAt_later rfl rfl tie2 noOwnUnsafe
theorem budgeted_row_tie : Rows.budgetedRow.laidByTextAt .later Tryd.pinned [.called] true :=
  OpenClaim.laidByTextAt_later rfl rfl tie2 noOwnUnsafe
theorem honest_row_tie : Rows.honestRow.laidByTextAt .later Tryd.pinned [.called] true :=
  OpenClaim.laidByTextAt_later rfl rfl tie2 noOwnUnsafe
theorem bounded_row_tie : Rows.boundedRow.laidByTextAt .later Tryd.pinned [.called] true :=
  OpenClaim.laidByTextAt_later rfl rfl tie2 noOwnUnsafe
theorem wiresUpto_row_tie : Rows.wiresUptoRow.laidByTextAt .later Tryd.pinned [.called, .data] true :=
  OpenClaim.laidByTextAt_later rfl rfl tie noOwnUnsafe
theorem backUpto_row_tie : Rows.backUptoRow.laidByTextAt .later Tryd.pinned [.called, .data] true :=
  OpenClaim.laidByTextAt_later rfl rfl tie noOwnUnsafe
theorem rightsUpto_row_tie : Rows.rightsUptoRow.laidByTextAt .later Tryd.pinned [.called, .data] true :=
  OpenClaim.laidByTextAt_later rfl rfl tie noOwnUnsafe
theorem calmUpto_row_tie : Rows.calmUptoRow.laidByTextAt .later Tryd.pinned [.called] true :=
  OpenClaim.laidByTextAt_later rfl rfl tie2 noOwnUnsafe
theorem budgetedUpto_row_tie : Rows.budgetedUptoRow.laidByTextAt .later Tryd.pinned [.called] true :=
  OpenClaim.laidByTextAt_later rfl rfl tie2 noOwnUnsafe
theorem honestUpto_row_tie : Rows.honestUptoRow.laidByTextAt .later Tryd.pinned [.called] true :=
  OpenClaim.laidByTextAt_later rfl rfl tie2 noOwnUnsafe
theorem boundedUpto_row_tie : Rows.boundedUptoRow.laidByTextAt .later Tryd.pinned [.called] true :=
  OpenClaim.laidByTextAt_later rfl rfl tie2 noOwnUnsafe
end Go.Proofs.YtpdkojgepagbnaaDoor
