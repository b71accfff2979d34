/-
  DERIVED. GIVEN WITH THE SEED: THE CARDS: each row of YtcgemenhkjfejaaDoorRows.lean that lists a variable, with what it lists TIED to the program's text (the seventh form; the later family's looks); each row that meets fmt, with fmt's text TOLD by the authors' own Lean function (tested against real Go, not proved from fmt's source: count such statements apart). THE CARD IS WHAT COUNTS. Prove the row's statement (the work); the ties are given (YtcgemenhkjfejaaDoorTie.lean); close each card by the builder's one call (the guide's Derived/Test/ToyasCard.lean, 'card_holds'). Laid BY PROGRAM, IN A SANDBOX (cutbox-door.mjs). By AI agents, Wed Nov 11 2026. No macro, syntax, notation, axiom, sorry.
-/
import Derived.Test.YtcgemenhkjfejaaDoorRows
import GoSem.ClaimSeven
namespace Go.Proofs.YtcgemenhkjfejaaDoor
namespace Rows

/-- THE TIED CARD OF 'laws.FnExactUnescape'. -/
def fnExactUnescapeCard : Claim7 := { stood := { row := fnExactUnescapeRow, standIns := [], harness := (true, "0f3bb2196167fe36133defb9aca397137781aa445d391a5ed9894daa832d882b"), looks := true }, kinds := [], alts := [], laidByText := true, laidKinds := [.sentinel, .sentinel, .sentinel, .data], laidTests := true, laidLooks := .later }
def FnExactUnescapeCardSaid : Prop := Claim7.holds Tryd.pinned (.plain (OpenSpec.ofChange fnExactUnescapeSpec)) fnExactUnescapeCard

/-- THE SECOND FORM's CARD OF 'laws.FnExactUnescape'. -/
def fnExactUnescapeUptoCard : Claim7 := { stood := { row := fnExactUnescapeUptoRow, standIns := [], harness := (true, "0f3bb2196167fe36133defb9aca397137781aa445d391a5ed9894daa832d882b"), looks := true }, kinds := [], alts := [], laidByText := true, laidKinds := [.sentinel, .sentinel, .sentinel, .data], laidTests := true, laidLooks := .later }
def FnExactUnescapeUptoCardSaid : Prop := Claim7.holds Tryd.pinned (.plain (OpenSpec.upto fnExactUnescapeSpec)) fnExactUnescapeUptoCard
end Rows
end Go.Proofs.YtcgemenhkjfejaaDoor
