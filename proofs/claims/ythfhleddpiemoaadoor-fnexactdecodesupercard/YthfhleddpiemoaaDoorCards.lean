/-
  DERIVED. GIVEN WITH THE SEED: THE CARDS: each row of YthfhleddpiemoaaDoorRows.lean that lists a variable, with what it lists TIED to the program's text (the seventh form; the later family's looks); each row that meets fmt, with fmt's text TOLD by the authors' own Lean function (tested against real Go, not proved from fmt's source: count such statements apart). THE CARD IS WHAT COUNTS. Prove the row's statement (the work); the ties are given (YthfhleddpiemoaaDoorTie.lean); close each card by the builder's one call (the guide's Derived/Test/ToyasCard.lean, 'card_holds'). Laid BY PROGRAM, IN A SANDBOX (cutbox-door.mjs). By AI agents, Wed Nov 11 2026. No macro, syntax, notation, axiom, sorry.
-/
import Derived.Test.YthfhleddpiemoaaDoorRows
import GoSem.ClaimSeven
namespace Go.Proofs.YthfhleddpiemoaaDoor
namespace Rows

/-- THE TIED CARD OF 'laws.FnExactDecodeSuper'. -/
def fnExactDecodeSuperCard : Claim7 := { stood := { row := fnExactDecodeSuperRow, standIns := [], harness := (true, "fc534bd2145e0728fc52744a2a8245ac55f8020ec0e0d86ec05348b18279fab2"), looks := false }, kinds := [], alts := [], laidByText := true, laidKinds := [.data], laidTests := true, laidLooks := .later }
def FnExactDecodeSuperCardSaid : Prop := Claim7.holds Tryd.pinned (.plain (OpenSpec.ofChange fnExactDecodeSuperSpec)) fnExactDecodeSuperCard

/-- THE SECOND FORM's CARD OF 'laws.FnExactDecodeSuper'. -/
def fnExactDecodeSuperUptoCard : Claim7 := { stood := { row := fnExactDecodeSuperUptoRow, standIns := [], harness := (true, "fc534bd2145e0728fc52744a2a8245ac55f8020ec0e0d86ec05348b18279fab2"), looks := false }, kinds := [], alts := [], laidByText := true, laidKinds := [.data], laidTests := true, laidLooks := .later }
def FnExactDecodeSuperUptoCardSaid : Prop := Claim7.holds Tryd.pinned (.plain (OpenSpec.upto fnExactDecodeSuperSpec)) fnExactDecodeSuperUptoCard
end Rows
end Go.Proofs.YthfhleddpiemoaaDoor
