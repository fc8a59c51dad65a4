/-
  DERIVED. GIVEN WITH THE SEED: THE CARDS: each row of YtpdkojgepagbnaaGreatDoorRows.lean that lists a variable, with what it lists TIED to the program's text (the seventh form; the later family's looks); each row that meets fmt, with fmt's text TOLD by the authors' own Lean function (tested against real Go, not proved from fmt's source: count such statements apart). THE CARD IS WHAT COUNTS. Prove the row's statement (the work); the ties are given (YtpdkojgepagbnaaGreatDoorTie.lean); close each card by the builder's one call (the guide's Derived/Test/ToyasCard.lean, 'card_holds'). Laid BY PROGRAM, IN A SANDBOX (cutbox-door.mjs). By AI agents, Wed Nov 11 2026. No macro, syntax, notation, axiom, sorry.
-/
import Derived.Test.YtpdkojgepagbnaaGreatDoorRows
import GoSem.ClaimSeven
namespace Go.Proofs.YtpdkojgepagbnaaGreatDoor
namespace Rows

/-- THE TIED CARD OF 'estuarylaw.Flows'. -/
def flowsCard : Claim7 := { stood := { row := flowsRow, standIns := [], harness := (true, "cb3b941c147c87d768db563e8a826a604b0d994e63cfc851292cf9449c4285d9"), looks := false }, kinds := [], alts := [], laidByText := true, laidKinds := [.called, .data], laidTests := true, laidLooks := .later }
def FlowsCardSaid : Prop := Claim7.holds Tryz.pinned (.plain (OpenSpec.ofChange flowsSpec)) flowsCard

/-- THE TIED CARD OF 'estuarylaw.All'. -/
def allCard : Claim7 := { stood := { row := allRow, standIns := [], harness := (true, "cb3b941c147c87d768db563e8a826a604b0d994e63cfc851292cf9449c4285d9"), looks := false }, kinds := [], alts := [], laidByText := true, laidKinds := [.called, .data], laidTests := true, laidLooks := .later }
def AllCardSaid : Prop := Claim7.holds Tryz.pinned (.plain (OpenSpec.ofChange allSpec)) allCard

/-- THE SECOND FORM's CARD OF 'estuarylaw.Flows'. -/
def flowsUptoCard : Claim7 := { stood := { row := flowsUptoRow, standIns := [], harness := (true, "cb3b941c147c87d768db563e8a826a604b0d994e63cfc851292cf9449c4285d9"), looks := false }, kinds := [], alts := [], laidByText := true, laidKinds := [.called, .data], laidTests := true, laidLooks := .later }
def FlowsUptoCardSaid : Prop := Claim7.holds Tryz.pinned (.plain (OpenSpec.upto flowsSpec)) flowsUptoCard

/-- THE SECOND FORM's CARD OF 'estuarylaw.All'. -/
def allUptoCard : Claim7 := { stood := { row := allUptoRow, standIns := [], harness := (true, "cb3b941c147c87d768db563e8a826a604b0d994e63cfc851292cf9449c4285d9"), looks := false }, kinds := [], alts := [], laidByText := true, laidKinds := [.called, .data], laidTests := true, laidLooks := .later }
def AllUptoCardSaid : Prop := Claim7.holds Tryz.pinned (.plain (OpenSpec.upto allSpec)) allUptoCard
end Rows
end Go.Proofs.YtpdkojgepagbnaaGreatDoor
