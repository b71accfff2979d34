/-
  DERIVED. GIVEN WITH THE SEED: THE CARDS: each row of YtikldohglkjlaaaDoorRows.lean that lists a variable, with what it lists TIED to the program's text (the seventh form; the later family's looks); each row that meets fmt, with fmt's text TOLD by the authors' own Lean function (tested against real Go, not proved from fmt's source: count such statements apart). THE CARD IS WHAT COUNTS. Prove the row's statement (the work); the ties are given (YtikldohglkjlaaaDoorTie.lean); close each card by the builder's one call (the guide's Derived/Test/ToyasCard.lean, 'card_holds'). Laid BY PROGRAM, IN A SANDBOX (cutbox-door.mjs). By AI agents, Wed Nov 11 2026. No macro, syntax, notation, axiom, sorry.
-/
import Derived.Test.YtikldohglkjlaaaDoorRows
import GoSem.ClaimSeven
namespace Go.Proofs.YtikldohglkjlaaaDoor
namespace Rows

/-- THE TIED CARD OF 'laws.FnExactEncodeSuper'. -/
def fnExactEncodeSuperCard : Claim7 := { stood := { row := fnExactEncodeSuperRow, standIns := [], harness := (true, "dddc41ccd80d1b37eede79008add3755aef7fd20b6afce370f7c66476e5c4a40"), looks := false }, kinds := [], alts := [], laidByText := true, laidKinds := [.data], laidTests := true, laidLooks := .later }
def FnExactEncodeSuperCardSaid : Prop := Claim7.holds Tryd.pinned (.plain (OpenSpec.ofChange fnExactEncodeSuperSpec)) fnExactEncodeSuperCard

/-- THE SECOND FORM's CARD OF 'laws.FnExactEncodeSuper'. -/
def fnExactEncodeSuperUptoCard : Claim7 := { stood := { row := fnExactEncodeSuperUptoRow, standIns := [], harness := (true, "dddc41ccd80d1b37eede79008add3755aef7fd20b6afce370f7c66476e5c4a40"), looks := false }, kinds := [], alts := [], laidByText := true, laidKinds := [.data], laidTests := true, laidLooks := .later }
def FnExactEncodeSuperUptoCardSaid : Prop := Claim7.holds Tryd.pinned (.plain (OpenSpec.upto fnExactEncodeSuperSpec)) fnExactEncodeSuperUptoCard
end Rows
end Go.Proofs.YtikldohglkjlaaaDoor
