/-
  DERIVED. GIVEN WITH THE SEED: THE CARDS: each row of YtacjklochmelfaaGreatDoorRows.lean that lists a variable, with what it lists TIED to the program's text (the seventh form; the later family's looks); each row that meets fmt, with fmt's text TOLD by the authors' own Lean function (tested against real Go, not proved from fmt's source: count such statements apart). THE CARD IS WHAT COUNTS. Prove the row's statement (the work); the ties are given (YtacjklochmelfaaGreatDoorTie.lean); close each card by the builder's one call (the guide's Derived/Test/ToyasCard.lean, 'card_holds'). Laid BY PROGRAM, IN A SANDBOX (cutbox-door.mjs). By AI agents, Wed Nov 11 2026. No macro, syntax, notation, axiom, sorry.
-/
import Derived.Test.YtacjklochmelfaaGreatDoorRows
import GoSem.ClaimSeven
namespace Go.Proofs.YtacjklochmelfaaGreatDoor
namespace Rows

/-- THE TIED CARD OF 'laws.FnLogged'. -/
def fnLoggedCard : Claim7 := { stood := { row := fnLoggedRow, standIns := [], harness := (true, "efccb4919e87e42921902040698595781c5cc57c46f31c54f94b929a7f68a8b0"), looks := true }, kinds := [], alts := [], laidByText := true, laidKinds := [.handle, .sentinel, .sentinel, .sentinel, .sentinel, .sentinel, .data], laidTests := true, laidLooks := .later }
def FnLoggedCardSaid : Prop := Claim7.holds Tryz.pinned (.plain (OpenSpec.ofChange fnLoggedSpec)) fnLoggedCard

/-- THE SECOND FORM's CARD OF 'laws.FnLogged'. -/
def fnLoggedUptoCard : Claim7 := { stood := { row := fnLoggedUptoRow, standIns := [], harness := (true, "efccb4919e87e42921902040698595781c5cc57c46f31c54f94b929a7f68a8b0"), looks := true }, kinds := [], alts := [], laidByText := true, laidKinds := [.handle, .sentinel, .sentinel, .sentinel, .sentinel, .sentinel, .data], laidTests := true, laidLooks := .later }
def FnLoggedUptoCardSaid : Prop := Claim7.holds Tryz.pinned (.plain (OpenSpec.upto fnLoggedSpec)) fnLoggedUptoCard
end Rows
end Go.Proofs.YtacjklochmelfaaGreatDoor
