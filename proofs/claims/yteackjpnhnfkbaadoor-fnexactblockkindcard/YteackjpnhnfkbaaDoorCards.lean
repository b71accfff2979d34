/-
  DERIVED. GIVEN WITH THE SEED: THE CARDS: each row of YteackjpnhnfkbaaDoorRows.lean that lists a variable, with what it lists TIED to the program's text (the seventh form; the later family's looks); each row that meets fmt, with fmt's text TOLD by the authors' own Lean function (tested against real Go, not proved from fmt's source: count such statements apart). THE CARD IS WHAT COUNTS. Prove the row's statement (the work); the ties are given (YteackjpnhnfkbaaDoorTie.lean); close each card by the builder's one call (the guide's Derived/Test/ToyasCard.lean, 'card_holds'). Laid BY PROGRAM, IN A SANDBOX (cutbox-door.mjs). By AI agents, Wed Nov 11 2026. No macro, syntax, notation, axiom, sorry.
-/
import Derived.Test.YteackjpnhnfkbaaDoorRows
import GoSem.ClaimSeven
namespace Go.Proofs.YteackjpnhnfkbaaDoor
namespace Rows

/-- THE TIED CARD OF 'laws.FnExactBlockKind'. -/
def fnExactBlockKindCard : Claim7 := { stood := { row := fnExactBlockKindRow, standIns := [], harness := (true, "5198131037ad2c4fd019496dac5778da9acaffca12a3de98a133cd15aca676e1"), looks := true }, kinds := [], alts := [], laidByText := true, laidKinds := [.handle, .sentinel, .sentinel, .sentinel, .data], laidTests := true, laidLooks := .later }
def FnExactBlockKindCardSaid : Prop := Claim7.holds Tryd.pinned (.plain (OpenSpec.ofChange fnExactBlockKindSpec)) fnExactBlockKindCard

/-- THE SECOND FORM's CARD OF 'laws.FnExactBlockKind'. -/
def fnExactBlockKindUptoCard : Claim7 := { stood := { row := fnExactBlockKindUptoRow, standIns := [], harness := (true, "5198131037ad2c4fd019496dac5778da9acaffca12a3de98a133cd15aca676e1"), looks := true }, kinds := [], alts := [], laidByText := true, laidKinds := [.handle, .sentinel, .sentinel, .sentinel, .data], laidTests := true, laidLooks := .later }
def FnExactBlockKindUptoCardSaid : Prop := Claim7.holds Tryd.pinned (.plain (OpenSpec.upto fnExactBlockKindSpec)) fnExactBlockKindUptoCard
end Rows
end Go.Proofs.YteackjpnhnfkbaaDoor
