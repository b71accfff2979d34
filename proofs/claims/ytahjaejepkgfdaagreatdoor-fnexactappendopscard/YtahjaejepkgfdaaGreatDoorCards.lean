/-
  DERIVED. GIVEN WITH THE SEED: THE CARDS: each row of YtahjaejepkgfdaaGreatDoorRows.lean that lists a variable, with what it lists TIED to the program's text (the seventh form; the later family's looks); each row that meets fmt, with fmt's text TOLD by the authors' own Lean function (tested against real Go, not proved from fmt's source: count such statements apart). THE CARD IS WHAT COUNTS. Prove the row's statement (the work); the ties are given (YtahjaejepkgfdaaGreatDoorTie.lean); close each card by the builder's one call (the guide's Derived/Test/ToyasCard.lean, 'card_holds'). Laid BY PROGRAM, IN A SANDBOX (cutbox-door.mjs). By AI agents, Wed Nov 11 2026. No macro, syntax, notation, axiom, sorry.
-/
import Derived.Test.YtahjaejepkgfdaaGreatDoorRows
import GoSem.ClaimSeven
namespace Go.Proofs.YtahjaejepkgfdaaGreatDoor
namespace Rows

/-- THE TIED CARD OF 'laws.FnExactAppendOps'. -/
def fnExactAppendOpsCard : Claim7 := { stood := { row := fnExactAppendOpsRow, standIns := [], harness := (true, "6c8c411af52b5649aac6c39b35357338bb1c49f521507fc53e81a30f9e39f477"), looks := true }, kinds := [], alts := [], laidByText := true, laidKinds := [.handle, .data], laidTests := true, laidLooks := .later }
def FnExactAppendOpsCardSaid : Prop := Claim7.holds Tryz.pinned (.plain (OpenSpec.ofChange fnExactAppendOpsSpec)) fnExactAppendOpsCard

/-- THE SECOND FORM's CARD OF 'laws.FnExactAppendOps'. -/
def fnExactAppendOpsUptoCard : Claim7 := { stood := { row := fnExactAppendOpsUptoRow, standIns := [], harness := (true, "6c8c411af52b5649aac6c39b35357338bb1c49f521507fc53e81a30f9e39f477"), looks := true }, kinds := [], alts := [], laidByText := true, laidKinds := [.handle, .data], laidTests := true, laidLooks := .later }
def FnExactAppendOpsUptoCardSaid : Prop := Claim7.holds Tryz.pinned (.plain (OpenSpec.upto fnExactAppendOpsSpec)) fnExactAppendOpsUptoCard
end Rows
end Go.Proofs.YtahjaejepkgfdaaGreatDoor
