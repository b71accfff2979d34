/-
  DERIVED. GIVEN WITH THE SEED: THE CARDS: each row of YteligghapkleaaaGreatDoorRows.lean that lists a variable, with what it lists TIED to the program's text (the seventh form; the later family's looks); each row that meets fmt, with fmt's text TOLD by the authors' own Lean function (tested against real Go, not proved from fmt's source: count such statements apart). THE CARD IS WHAT COUNTS. Prove the row's statement (the work); the ties are given (YteligghapkleaaaGreatDoorTie.lean); close each card by the builder's one call (the guide's Derived/Test/ToyasCard.lean, 'card_holds'). Laid BY PROGRAM, IN A SANDBOX (cutbox-door.mjs). By AI agents, Wed Nov 11 2026. No macro, syntax, notation, axiom, sorry.
-/
import Derived.Test.YteligghapkleaaaGreatDoorRows
import GoSem.ClaimSeven
namespace Go.Proofs.YteligghapkleaaaGreatDoor
namespace Rows

/-- THE TIED CARD OF 'laws.FnExactTxnLength'. -/
def fnExactTxnLengthCard : Claim7 := { stood := { row := fnExactTxnLengthRow, standIns := [], harness := (true, "8f856b57c3ea710e848ff9d874a723a32571cf2d18f0c2388db2be20107a9dc1"), looks := false }, kinds := [], alts := [], laidByText := true, laidKinds := [.data], laidTests := true, laidLooks := .later }
def FnExactTxnLengthCardSaid : Prop := Claim7.holds Tryz.pinned (.plain (OpenSpec.ofChange fnExactTxnLengthSpec)) fnExactTxnLengthCard

/-- THE SECOND FORM's CARD OF 'laws.FnExactTxnLength'. -/
def fnExactTxnLengthUptoCard : Claim7 := { stood := { row := fnExactTxnLengthUptoRow, standIns := [], harness := (true, "8f856b57c3ea710e848ff9d874a723a32571cf2d18f0c2388db2be20107a9dc1"), looks := false }, kinds := [], alts := [], laidByText := true, laidKinds := [.data], laidTests := true, laidLooks := .later }
def FnExactTxnLengthUptoCardSaid : Prop := Claim7.holds Tryz.pinned (.plain (OpenSpec.upto fnExactTxnLengthSpec)) fnExactTxnLengthUptoCard
end Rows
end Go.Proofs.YteligghapkleaaaGreatDoor
