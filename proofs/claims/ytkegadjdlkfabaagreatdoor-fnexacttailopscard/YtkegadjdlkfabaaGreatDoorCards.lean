/-
  DERIVED. GIVEN WITH THE SEED: THE CARDS: each row of YtkegadjdlkfabaaGreatDoorRows.lean that lists a variable, with what it lists TIED to the program's text (the seventh form; the later family's looks); each row that meets fmt, with fmt's text TOLD by the authors' own Lean function (tested against real Go, not proved from fmt's source: count such statements apart). THE CARD IS WHAT COUNTS. Prove the row's statement (the work); the ties are given (YtkegadjdlkfabaaGreatDoorTie.lean); close each card by the builder's one call (the guide's Derived/Test/ToyasCard.lean, 'card_holds'). Laid BY PROGRAM, IN A SANDBOX (cutbox-door.mjs). By AI agents, Wed Nov 11 2026. No macro, syntax, notation, axiom, sorry.
-/
import Derived.Test.YtkegadjdlkfabaaGreatDoorRows
import GoSem.ClaimSeven
namespace Go.Proofs.YtkegadjdlkfabaaGreatDoor
namespace Rows

/-- THE TIED CARD OF 'laws.FnExactTailOps'. -/
def fnExactTailOpsCard : Claim7 := { stood := { row := fnExactTailOpsRow, standIns := [], harness := (true, "c0e891f8aa223c9e4c6f3e573c8cb72fd5709bcaec0e123a8f566e74675bf699"), looks := true }, kinds := [], alts := [], laidByText := true, laidKinds := [.handle, .data], laidTests := true, laidLooks := .later }
def FnExactTailOpsCardSaid : Prop := Claim7.holds Tryz.pinned (.plain (OpenSpec.ofChange fnExactTailOpsSpec)) fnExactTailOpsCard

/-- THE SECOND FORM's CARD OF 'laws.FnExactTailOps'. -/
def fnExactTailOpsUptoCard : Claim7 := { stood := { row := fnExactTailOpsUptoRow, standIns := [], harness := (true, "c0e891f8aa223c9e4c6f3e573c8cb72fd5709bcaec0e123a8f566e74675bf699"), looks := true }, kinds := [], alts := [], laidByText := true, laidKinds := [.handle, .data], laidTests := true, laidLooks := .later }
def FnExactTailOpsUptoCardSaid : Prop := Claim7.holds Tryz.pinned (.plain (OpenSpec.upto fnExactTailOpsSpec)) fnExactTailOpsUptoCard
end Rows
end Go.Proofs.YtkegadjdlkfabaaGreatDoor
