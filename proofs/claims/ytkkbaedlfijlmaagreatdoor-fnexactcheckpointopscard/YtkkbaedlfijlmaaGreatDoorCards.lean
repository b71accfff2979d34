/-
  DERIVED. GIVEN WITH THE SEED: THE CARDS: each row of YtkkbaedlfijlmaaGreatDoorRows.lean that lists a variable, with what it lists TIED to the program's text (the seventh form; the later family's looks); each row that meets fmt, with fmt's text TOLD by the authors' own Lean function (tested against real Go, not proved from fmt's source: count such statements apart). THE CARD IS WHAT COUNTS. Prove the row's statement (the work); the ties are given (YtkkbaedlfijlmaaGreatDoorTie.lean); close each card by the builder's one call (the guide's Derived/Test/ToyasCard.lean, 'card_holds'). Laid BY PROGRAM, IN A SANDBOX (cutbox-door.mjs). By AI agents, Wed Nov 11 2026. No macro, syntax, notation, axiom, sorry.
-/
import Derived.Test.YtkkbaedlfijlmaaGreatDoorRows
import GoSem.ClaimSeven
namespace Go.Proofs.YtkkbaedlfijlmaaGreatDoor
namespace Rows

/-- THE TIED CARD OF 'laws.FnExactCheckpointOps'. -/
def fnExactCheckpointOpsCard : Claim7 := { stood := { row := fnExactCheckpointOpsRow, standIns := [], harness := (true, "a0b4b01dffd1a6bc13cca59f3f2d5958754f226a3ae25a31f2ab54794d711730"), looks := true }, kinds := [], alts := [], laidByText := true, laidKinds := [.handle, .data], laidTests := true, laidLooks := .later }
def FnExactCheckpointOpsCardSaid : Prop := Claim7.holds Tryz.pinned (.plain (OpenSpec.ofChange fnExactCheckpointOpsSpec)) fnExactCheckpointOpsCard

/-- THE SECOND FORM's CARD OF 'laws.FnExactCheckpointOps'. -/
def fnExactCheckpointOpsUptoCard : Claim7 := { stood := { row := fnExactCheckpointOpsUptoRow, standIns := [], harness := (true, "a0b4b01dffd1a6bc13cca59f3f2d5958754f226a3ae25a31f2ab54794d711730"), looks := true }, kinds := [], alts := [], laidByText := true, laidKinds := [.handle, .data], laidTests := true, laidLooks := .later }
def FnExactCheckpointOpsUptoCardSaid : Prop := Claim7.holds Tryz.pinned (.plain (OpenSpec.upto fnExactCheckpointOpsSpec)) fnExactCheckpointOpsUptoCard
end Rows
end Go.Proofs.YtkkbaedlfijlmaaGreatDoor
