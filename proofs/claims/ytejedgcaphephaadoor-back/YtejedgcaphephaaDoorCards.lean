/-
  DERIVED. GIVEN WITH THE SEED: THE CARDS: each row of YtejedgcaphephaaDoorRows.lean that lists a variable, with what it lists TIED to the program's text (the seventh form; the later family's looks); each row that meets fmt, with fmt's text TOLD by the authors' own Lean function (tested against real Go, not proved from fmt's source: count such statements apart). THE CARD IS WHAT COUNTS. Prove the row's statement (the work); the ties are given (YtejedgcaphephaaDoorTie.lean); close each card by the builder's one call (the guide's Derived/Test/ToyasCard.lean, 'card_holds'). Laid BY PROGRAM, IN A SANDBOX (cutbox-door.mjs). By AI agents, Wed Nov 11 2026. No macro, syntax, notation, axiom, sorry.
-/
import Derived.Test.YtejedgcaphephaaDoorRows
import GoSem.ClaimSeven
namespace Go.Proofs.YtejedgcaphephaaDoor
namespace Rows

/-- THE TIED CARD OF 'estuarylaw.Wires'. -/
def wiresCard : Claim7 := { stood := { row := wiresRow, standIns := [], harness := (true, "5ab51bbafb376f42bd8b4e8449dcbf488851d606cde0c324e469caab201426d5"), looks := false }, kinds := [], alts := [], laidByText := true, laidKinds := [.called, .data], laidTests := true, laidLooks := .later }
def WiresCardSaid : Prop := Claim7.holds Tryd.pinned (.plain (OpenSpec.ofChange wiresSpec)) wiresCard

/-- THE TIED CARD OF 'estuarykeep.Back'. -/
def backCard : Claim7 := { stood := { row := backRow, standIns := [], harness := (true, "5ab51bbafb376f42bd8b4e8449dcbf488851d606cde0c324e469caab201426d5"), looks := false }, kinds := [], alts := [], laidByText := true, laidKinds := [.called, .data], laidTests := true, laidLooks := .later }
def BackCardSaid : Prop := Claim7.holds Tryd.pinned (.plain (OpenSpec.ofChange backSpec)) backCard

/-- THE TIED CARD OF 'estuarylaw.Rights'. -/
def rightsCard : Claim7 := { stood := { row := rightsRow, standIns := [], harness := (true, "5ab51bbafb376f42bd8b4e8449dcbf488851d606cde0c324e469caab201426d5"), looks := false }, kinds := [], alts := [], laidByText := true, laidKinds := [.called, .data], laidTests := true, laidLooks := .later }
def RightsCardSaid : Prop := Claim7.holds Tryd.pinned (.plain (OpenSpec.ofChange rightsSpec)) rightsCard

/-- THE SECOND FORM's CARD OF 'estuarylaw.Wires'. -/
def wiresUptoCard : Claim7 := { stood := { row := wiresUptoRow, standIns := [], harness := (true, "5ab51bbafb376f42bd8b4e8449dcbf488851d606cde0c324e469caab201426d5"), looks := false }, kinds := [], alts := [], laidByText := true, laidKinds := [.called, .data], laidTests := true, laidLooks := .later }
def WiresUptoCardSaid : Prop := Claim7.holds Tryd.pinned (.plain (OpenSpec.upto wiresSpec)) wiresUptoCard

/-- THE SECOND FORM's CARD OF 'estuarykeep.Back'. -/
def backUptoCard : Claim7 := { stood := { row := backUptoRow, standIns := [], harness := (true, "5ab51bbafb376f42bd8b4e8449dcbf488851d606cde0c324e469caab201426d5"), looks := false }, kinds := [], alts := [], laidByText := true, laidKinds := [.called, .data], laidTests := true, laidLooks := .later }
def BackUptoCardSaid : Prop := Claim7.holds Tryd.pinned (.plain (OpenSpec.upto backSpec)) backUptoCard

/-- THE SECOND FORM's CARD OF 'estuarylaw.Rights'. -/
def rightsUptoCard : Claim7 := { stood := { row := rightsUptoRow, standIns := [], harness := (true, "5ab51bbafb376f42bd8b4e8449dcbf488851d606cde0c324e469caab201426d5"), looks := false }, kinds := [], alts := [], laidByText := true, laidKinds := [.called, .data], laidTests := true, laidLooks := .later }
def RightsUptoCardSaid : Prop := Claim7.holds Tryd.pinned (.plain (OpenSpec.upto rightsSpec)) rightsUptoCard
end Rows
end Go.Proofs.YtejedgcaphephaaDoor
