/-
  DERIVED. GIVEN WITH THE SEED: THE CARDS: each row of YtpdkojgepagbnaaDoorRows.lean that lists a variable, with what it lists TIED to the program's text (the seventh form; the later family's looks); each row that meets fmt, with fmt's text TOLD by the authors' own Lean function (tested against real Go, not proved from fmt's source: count such statements apart). THE CARD IS WHAT COUNTS. Prove the row's statement (the work); the ties are given (YtpdkojgepagbnaaDoorTie.lean); close each card by the builder's one call (the guide's Derived/Test/ToyasCard.lean, 'card_holds'). Laid BY PROGRAM, IN A SANDBOX (cutbox-door.mjs). By AI agents, Wed Nov 11 2026. No macro, syntax, notation, axiom, sorry.
-/
import Derived.Test.YtpdkojgepagbnaaDoorRows
import GoSem.ClaimSeven
namespace Go.Proofs.YtpdkojgepagbnaaDoor
namespace Rows

/-- THE TIED CARD OF 'estuarylaw.Wires'. -/
def wiresCard : Claim7 := { stood := { row := wiresRow, standIns := [], harness := (true, "15e364464412ac4bf0a6cf741461935c71a72dc57eed90202ae3682495df9f5b"), looks := false }, kinds := [], alts := [], laidByText := true, laidKinds := [.called, .data], laidTests := true, laidLooks := .later }
def WiresCardSaid : Prop := Claim7.holds Tryd.pinned (.plain (OpenSpec.ofChange wiresSpec)) wiresCard

/-- THE TIED CARD OF 'estuarykeep.Back'. -/
def backCard : Claim7 := { stood := { row := backRow, standIns := [], harness := (true, "15e364464412ac4bf0a6cf741461935c71a72dc57eed90202ae3682495df9f5b"), looks := false }, kinds := [], alts := [], laidByText := true, laidKinds := [.called, .data], laidTests := true, laidLooks := .later }
def BackCardSaid : Prop := Claim7.holds Tryd.pinned (.plain (OpenSpec.ofChange backSpec)) backCard

/-- THE TIED CARD OF 'estuarylaw.Rights'. -/
def rightsCard : Claim7 := { stood := { row := rightsRow, standIns := [], harness := (true, "15e364464412ac4bf0a6cf741461935c71a72dc57eed90202ae3682495df9f5b"), looks := false }, kinds := [], alts := [], laidByText := true, laidKinds := [.called, .data], laidTests := true, laidLooks := .later }
def RightsCardSaid : Prop := Claim7.holds Tryd.pinned (.plain (OpenSpec.ofChange rightsSpec)) rightsCard

/-- THE TIED CARD OF 'estuarykeep.Calm'. -/
def calmCard : Claim7 := { stood := { row := calmRow, standIns := [], harness := (true, "15e364464412ac4bf0a6cf741461935c71a72dc57eed90202ae3682495df9f5b"), looks := false }, kinds := [], alts := [], laidByText := true, laidKinds := [.called], laidTests := true, laidLooks := .later }
def CalmCardSaid : Prop := Claim7.holds Tryd.pinned (.plain (OpenSpec.ofChange calmSpec)) calmCard

/-- THE TIED CARD OF 'estuarykeep.Budgeted'. -/
def budgetedCard : Claim7 := { stood := { row := budgetedRow, standIns := [], harness := (true, "15e364464412ac4bf0a6cf741461935c71a72dc57eed90202ae3682495df9f5b"), looks := false }, kinds := [], alts := [], laidByText := true, laidKinds := [.called], laidTests := true, laidLooks := .later }
def BudgetedCardSaid : Prop := Claim7.holds Tryd.pinned (.plain (OpenSpec.ofChange budgetedSpec)) budgetedCard

/-- THE TIED CARD OF 'estuarykeep.Honest'. -/
def honestCard : Claim7 := { stood := { row := honestRow, standIns := [], harness := (true, "15e364464412ac4bf0a6cf741461935c71a72dc57eed90202ae3682495df9f5b"), looks := false }, kinds := [], alts := [], laidByText := true, laidKinds := [.called], laidTests := true, laidLooks := .later }
def HonestCardSaid : Prop := Claim7.holds Tryd.pinned (.plain (OpenSpec.ofChange honestSpec)) honestCard

/-- THE TIED CARD OF 'estuarykeep.Bounded'. -/
def boundedCard : Claim7 := { stood := { row := boundedRow, standIns := [], harness := (true, "15e364464412ac4bf0a6cf741461935c71a72dc57eed90202ae3682495df9f5b"), looks := false }, kinds := [], alts := [], laidByText := true, laidKinds := [.called], laidTests := true, laidLooks := .later }
def BoundedCardSaid : Prop := Claim7.holds Tryd.pinned (.plain (OpenSpec.ofChange boundedSpec)) boundedCard

/-- THE SECOND FORM's CARD OF 'estuarylaw.Wires'. -/
def wiresUptoCard : Claim7 := { stood := { row := wiresUptoRow, standIns := [], harness := (true, "15e364464412ac4bf0a6cf741461935c71a72dc57eed90202ae3682495df9f5b"), looks := false }, kinds := [], alts := [], laidByText := true, laidKinds := [.called, .data], laidTests := true, laidLooks := .later }
def WiresUptoCardSaid : Prop := Claim7.holds Tryd.pinned (.plain (OpenSpec.upto wiresSpec)) wiresUptoCard

/-- THE SECOND FORM's CARD OF 'estuarykeep.Back'. -/
def backUptoCard : Claim7 := { stood := { row := backUptoRow, standIns := [], harness := (true, "15e364464412ac4bf0a6cf741461935c71a72dc57eed90202ae3682495df9f5b"), looks := false }, kinds := [], alts := [], laidByText := true, laidKinds := [.called, .data], laidTests := true, laidLooks := .later }
def BackUptoCardSaid : Prop := Claim7.holds Tryd.pinned (.plain (OpenSpec.upto backSpec)) backUptoCard

/-- THE SECOND FORM's CARD OF 'estuarylaw.Rights'. -/
def rightsUptoCard : Claim7 := { stood := { row := rightsUptoRow, standIns := [], harness := (true, "15e364464412ac4bf0a6cf741461935c71a72dc57eed90202ae3682495df9f5b"), looks := false }, kinds := [], alts := [], laidByText := true, laidKinds := [.called, .data], laidTests := true, laidLooks := .later }
def RightsUptoCardSaid : Prop := Claim7.holds Tryd.pinned (.plain (OpenSpec.upto rightsSpec)) rightsUptoCard

/-- THE SECOND FORM's CARD OF 'estuarykeep.Calm'. -/
def calmUptoCard : Claim7 := { stood := { row := calmUptoRow, standIns := [], harness := (true, "15e364464412ac4bf0a6cf741461935c71a72dc57eed90202ae3682495df9f5b"), looks := false }, kinds := [], alts := [], laidByText := true, laidKinds := [.called], laidTests := true, laidLooks := .later }
def CalmUptoCardSaid : Prop := Claim7.holds Tryd.pinned (.plain (OpenSpec.upto calmSpec)) calmUptoCard

/-- THE SECOND FORM's CARD OF 'estuarykeep.Budgeted'. -/
def budgetedUptoCard : Claim7 := { stood := { row := budgetedUptoRow, standIns := [], harness := (true, "15e364464412ac4bf0a6cf741461935c71a72dc57eed90202ae3682495df9f5b"), looks := false }, kinds := [], alts := [], laidByText := true, laidKinds := [.called], laidTests := true, laidLooks := .later }
def BudgetedUptoCardSaid : Prop := Claim7.holds Tryd.pinned (.plain (OpenSpec.upto budgetedSpec)) budgetedUptoCard

/-- THE SECOND FORM's CARD OF 'estuarykeep.Honest'. -/
def honestUptoCard : Claim7 := { stood := { row := honestUptoRow, standIns := [], harness := (true, "15e364464412ac4bf0a6cf741461935c71a72dc57eed90202ae3682495df9f5b"), looks := false }, kinds := [], alts := [], laidByText := true, laidKinds := [.called], laidTests := true, laidLooks := .later }
def HonestUptoCardSaid : Prop := Claim7.holds Tryd.pinned (.plain (OpenSpec.upto honestSpec)) honestUptoCard

/-- THE SECOND FORM's CARD OF 'estuarykeep.Bounded'. -/
def boundedUptoCard : Claim7 := { stood := { row := boundedUptoRow, standIns := [], harness := (true, "15e364464412ac4bf0a6cf741461935c71a72dc57eed90202ae3682495df9f5b"), looks := false }, kinds := [], alts := [], laidByText := true, laidKinds := [.called], laidTests := true, laidLooks := .later }
def BoundedUptoCardSaid : Prop := Claim7.holds Tryd.pinned (.plain (OpenSpec.upto boundedSpec)) boundedUptoCard
end Rows
end Go.Proofs.YtpdkojgepagbnaaDoor
