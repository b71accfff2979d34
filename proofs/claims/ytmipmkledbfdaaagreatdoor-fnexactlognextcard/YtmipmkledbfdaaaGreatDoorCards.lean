/-
  DERIVED. GIVEN WITH THE SEED: THE CARDS: each row of YtmipmkledbfdaaaGreatDoorRows.lean that lists a variable, with what it lists TIED to the program's text (the seventh form; the later family's looks); each row that meets fmt, with fmt's text TOLD by the authors' own Lean function (tested against real Go, not proved from fmt's source: count such statements apart). THE CARD IS WHAT COUNTS. Prove the row's statement (the work); the ties are given (YtmipmkledbfdaaaGreatDoorTie.lean); close each card by the builder's one call (the guide's Derived/Test/ToyasCard.lean, 'card_holds'). Laid BY PROGRAM, IN A SANDBOX (cutbox-door.mjs). By AI agents, Wed Nov 11 2026. No macro, syntax, notation, axiom, sorry.
-/
import Derived.Test.YtmipmkledbfdaaaGreatDoorRows
import GoSem.ClaimSeven
namespace Go.Proofs.YtmipmkledbfdaaaGreatDoor
namespace Rows

/-- THE TIED CARD OF 'laws.FnExactLogNext'. -/
def fnExactLogNextCard : Claim7 := { stood := { row := fnExactLogNextRow, standIns := [], harness := (true, "18c9174817a5a709e94f235977170bd707dd5e5daca615996533f438739bd88a"), looks := false }, kinds := [], alts := [], laidByText := true, laidKinds := [.data], laidTests := true, laidLooks := .later }
def FnExactLogNextCardSaid : Prop := Claim7.holds Tryz.pinned (.plain (OpenSpec.ofChange fnExactLogNextSpec)) fnExactLogNextCard

/-- THE SECOND FORM's CARD OF 'laws.FnExactLogNext'. -/
def fnExactLogNextUptoCard : Claim7 := { stood := { row := fnExactLogNextUptoRow, standIns := [], harness := (true, "18c9174817a5a709e94f235977170bd707dd5e5daca615996533f438739bd88a"), looks := false }, kinds := [], alts := [], laidByText := true, laidKinds := [.data], laidTests := true, laidLooks := .later }
def FnExactLogNextUptoCardSaid : Prop := Claim7.holds Tryz.pinned (.plain (OpenSpec.upto fnExactLogNextSpec)) fnExactLogNextUptoCard
end Rows
end Go.Proofs.YtmipmkledbfdaaaGreatDoor
