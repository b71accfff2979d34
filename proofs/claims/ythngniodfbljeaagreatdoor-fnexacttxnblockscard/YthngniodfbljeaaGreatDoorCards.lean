/-
  DERIVED. GIVEN WITH THE SEED: THE CARDS: each row of YthngniodfbljeaaGreatDoorRows.lean that lists a variable, with what it lists TIED to the program's text (the seventh form; the later family's looks); each row that meets fmt, with fmt's text TOLD by the authors' own Lean function (tested against real Go, not proved from fmt's source: count such statements apart). THE CARD IS WHAT COUNTS. Prove the row's statement (the work); the ties are given (YthngniodfbljeaaGreatDoorTie.lean); close each card by the builder's one call (the guide's Derived/Test/ToyasCard.lean, 'card_holds'). Laid BY PROGRAM, IN A SANDBOX (cutbox-door.mjs). By AI agents, Wed Nov 11 2026. No macro, syntax, notation, axiom, sorry.
-/
import Derived.Test.YthngniodfbljeaaGreatDoorRows
import GoSem.ClaimSeven
namespace Go.Proofs.YthngniodfbljeaaGreatDoor
namespace Rows

/-- THE TIED CARD OF 'laws.FnExactTxnBlocks'. -/
def fnExactTxnBlocksCard : Claim7 := { stood := { row := fnExactTxnBlocksRow, standIns := [], harness := (true, "0eb918358a59d7c2254d26144557e310c04d177b66835268011df8343a6d6f57"), looks := false }, kinds := [], alts := [], laidByText := true, laidKinds := [.data], laidTests := true, laidLooks := .later }
def FnExactTxnBlocksCardSaid : Prop := Claim7.holds Tryz.pinned (.plain (OpenSpec.ofChange fnExactTxnBlocksSpec)) fnExactTxnBlocksCard

/-- THE SECOND FORM's CARD OF 'laws.FnExactTxnBlocks'. -/
def fnExactTxnBlocksUptoCard : Claim7 := { stood := { row := fnExactTxnBlocksUptoRow, standIns := [], harness := (true, "0eb918358a59d7c2254d26144557e310c04d177b66835268011df8343a6d6f57"), looks := false }, kinds := [], alts := [], laidByText := true, laidKinds := [.data], laidTests := true, laidLooks := .later }
def FnExactTxnBlocksUptoCardSaid : Prop := Claim7.holds Tryz.pinned (.plain (OpenSpec.upto fnExactTxnBlocksSpec)) fnExactTxnBlocksUptoCard
end Rows
end Go.Proofs.YthngniodfbljeaaGreatDoor
