/-
  DERIVED. GIVEN WITH THE SEED: THE CARDS: each row of YtmfkgnifkkkkiaaDoorRows.lean that lists a variable, with what it lists TIED to the program's text (the seventh form; the later family's looks); each row that meets fmt, with fmt's text TOLD by the authors' own Lean function (tested against real Go, not proved from fmt's source: count such statements apart). THE CARD IS WHAT COUNTS. Prove the row's statement (the work); the ties are given (YtmfkgnifkkkkiaaDoorTie.lean); close each card by the builder's one call (the guide's Derived/Test/ToyasCard.lean, 'card_holds'). Laid BY PROGRAM, IN A SANDBOX (cutbox-door.mjs). By AI agents, Wed Nov 11 2026. No macro, syntax, notation, axiom, sorry.
-/
import Derived.Test.YtmfkgnifkkkkiaaDoorRows
import GoSem.ClaimSeven
namespace Go.Proofs.YtmfkgnifkkkkiaaDoor
namespace Rows

/-- THE TIED CARD OF 'laws.FnExactMkfs'. -/
def fnExactMkfsCard : Claim7 := { stood := { row := fnExactMkfsRow, standIns := [], harness := (true, "e8c65259d630c31db39b32a496bbe033bb3be26786eca85d1e964d73ce4a7cd4"), looks := false }, kinds := [], alts := [], laidByText := true, laidKinds := [.data, .data], laidTests := true, laidLooks := .later }
def FnExactMkfsCardSaid : Prop := Claim7.holds Tryd.pinned (.plain (OpenSpec.ofChange fnExactMkfsSpec)) fnExactMkfsCard

/-- THE SECOND FORM's CARD OF 'laws.FnExactMkfs'. -/
def fnExactMkfsUptoCard : Claim7 := { stood := { row := fnExactMkfsUptoRow, standIns := [], harness := (true, "e8c65259d630c31db39b32a496bbe033bb3be26786eca85d1e964d73ce4a7cd4"), looks := false }, kinds := [], alts := [], laidByText := true, laidKinds := [.data, .data], laidTests := true, laidLooks := .later }
def FnExactMkfsUptoCardSaid : Prop := Claim7.holds Tryd.pinned (.plain (OpenSpec.upto fnExactMkfsSpec)) fnExactMkfsUptoCard
end Rows
end Go.Proofs.YtmfkgnifkkkkiaaDoor
