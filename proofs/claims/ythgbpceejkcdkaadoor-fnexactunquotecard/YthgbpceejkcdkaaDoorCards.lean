/-
  DERIVED. GIVEN WITH THE SEED: THE CARDS: each row of YthgbpceejkcdkaaDoorRows.lean that lists a variable, with what it lists TIED to the program's text (the seventh form; the later family's looks); each row that meets fmt, with fmt's text TOLD by the authors' own Lean function (tested against real Go, not proved from fmt's source: count such statements apart). THE CARD IS WHAT COUNTS. Prove the row's statement (the work); the ties are given (YthgbpceejkcdkaaDoorTie.lean); close each card by the builder's one call (the guide's Derived/Test/ToyasCard.lean, 'card_holds'). Laid BY PROGRAM, IN A SANDBOX (cutbox-door.mjs). By AI agents, Wed Nov 11 2026. No macro, syntax, notation, axiom, sorry.
-/
import Derived.Test.YthgbpceejkcdkaaDoorRows
import GoSem.ClaimSeven
namespace Go.Proofs.YthgbpceejkcdkaaDoor
namespace Rows

/-- THE TIED CARD OF 'laws.FnExactUnquote'. -/
def fnExactUnquoteCard : Claim7 := { stood := { row := fnExactUnquoteRow, standIns := [], harness := (true, "9ed2a33dc43d01fdb199d4361fe974f859e77b38dc84cd30df8c0ac95e0a9ef7"), looks := true }, kinds := [], alts := [], laidByText := true, laidKinds := [.data, .data, .data, .sentinel, .sentinel], laidTests := true, laidLooks := .later }
def FnExactUnquoteCardSaid : Prop := Claim7.holds Tryd.pinned (.plain (OpenSpec.ofChange fnExactUnquoteSpec)) fnExactUnquoteCard

/-- THE SECOND FORM's CARD OF 'laws.FnExactUnquote'. -/
def fnExactUnquoteUptoCard : Claim7 := { stood := { row := fnExactUnquoteUptoRow, standIns := [], harness := (true, "9ed2a33dc43d01fdb199d4361fe974f859e77b38dc84cd30df8c0ac95e0a9ef7"), looks := true }, kinds := [], alts := [], laidByText := true, laidKinds := [.data, .data, .data, .sentinel, .sentinel], laidTests := true, laidLooks := .later }
def FnExactUnquoteUptoCardSaid : Prop := Claim7.holds Tryd.pinned (.plain (OpenSpec.upto fnExactUnquoteSpec)) fnExactUnquoteUptoCard
end Rows
end Go.Proofs.YthgbpceejkcdkaaDoor
