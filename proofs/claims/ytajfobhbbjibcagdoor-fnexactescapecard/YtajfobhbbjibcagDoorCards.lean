/-
  DERIVED. GIVEN WITH THE SEED: THE CARDS: each row of YtajfobhbbjibcagDoorRows.lean that lists a variable, with what it lists TIED to the program's text (the seventh form; the later family's looks); each row that meets fmt, with fmt's text TOLD by the authors' own Lean function (tested against real Go, not proved from fmt's source: count such statements apart). THE CARD IS WHAT COUNTS. Prove the row's statement (the work); the ties are given (YtajfobhbbjibcagDoorTie.lean); close each card by the builder's one call (the guide's Derived/Test/ToyasCard.lean, 'card_holds'). Laid BY PROGRAM, IN A SANDBOX (cutbox-door.mjs). By AI agents, Wed Nov 11 2026. No macro, syntax, notation, axiom, sorry.
-/
import Derived.Test.YtajfobhbbjibcagDoorRows
import GoSem.ClaimSeven
namespace Go.Proofs.YtajfobhbbjibcagDoor
namespace Rows

/-- THE TIED CARD OF 'laws.FnExactUnescape'. -/
def fnExactUnescapeCard : Claim7 := { stood := { row := fnExactUnescapeRow, standIns := [], harness := (true, "2659f4cbbd4906be0c9f1a471699e1fdbee3d1b1386a5d1e87894c2917c025e7"), looks := true }, kinds := [], alts := [], laidByText := true, laidKinds := [.sentinel, .sentinel, .sentinel, .data], laidTests := true, laidLooks := .later }
def FnExactUnescapeCardSaid : Prop := Claim7.holds Tryd.pinned (.plain (OpenSpec.ofChange fnExactUnescapeSpec)) fnExactUnescapeCard

/-- THE TIED CARD OF 'laws.FnExactEscape'. -/
def fnExactEscapeCard : Claim7 := { stood := { row := fnExactEscapeRow, standIns := [], harness := (true, "2659f4cbbd4906be0c9f1a471699e1fdbee3d1b1386a5d1e87894c2917c025e7"), looks := true }, kinds := [], alts := [], laidByText := true, laidKinds := [.sentinel, .sentinel, .sentinel, .data], laidTests := true, laidLooks := .later }
def FnExactEscapeCardSaid : Prop := Claim7.holds Tryd.pinned (.plain (OpenSpec.ofChange fnExactEscapeSpec)) fnExactEscapeCard

/-- THE TIED CARD OF 'laws.FnExactEncodeCommit'. -/
def fnExactEncodeCommitCard : Claim7 := { stood := { row := fnExactEncodeCommitRow, standIns := [], harness := (true, "2659f4cbbd4906be0c9f1a471699e1fdbee3d1b1386a5d1e87894c2917c025e7"), looks := true }, kinds := [], alts := [], laidByText := true, laidKinds := [.handle, .data], laidTests := true, laidLooks := .later }
def FnExactEncodeCommitCardSaid : Prop := Claim7.holds Tryd.pinned (.plain (OpenSpec.ofChange fnExactEncodeCommitSpec)) fnExactEncodeCommitCard

/-- THE SECOND FORM's CARD OF 'laws.FnExactUnescape'. -/
def fnExactUnescapeUptoCard : Claim7 := { stood := { row := fnExactUnescapeUptoRow, standIns := [], harness := (true, "2659f4cbbd4906be0c9f1a471699e1fdbee3d1b1386a5d1e87894c2917c025e7"), looks := true }, kinds := [], alts := [], laidByText := true, laidKinds := [.sentinel, .sentinel, .sentinel, .data], laidTests := true, laidLooks := .later }
def FnExactUnescapeUptoCardSaid : Prop := Claim7.holds Tryd.pinned (.plain (OpenSpec.upto fnExactUnescapeSpec)) fnExactUnescapeUptoCard

/-- THE SECOND FORM's CARD OF 'laws.FnExactEscape'. -/
def fnExactEscapeUptoCard : Claim7 := { stood := { row := fnExactEscapeUptoRow, standIns := [], harness := (true, "2659f4cbbd4906be0c9f1a471699e1fdbee3d1b1386a5d1e87894c2917c025e7"), looks := true }, kinds := [], alts := [], laidByText := true, laidKinds := [.sentinel, .sentinel, .sentinel, .data], laidTests := true, laidLooks := .later }
def FnExactEscapeUptoCardSaid : Prop := Claim7.holds Tryd.pinned (.plain (OpenSpec.upto fnExactEscapeSpec)) fnExactEscapeUptoCard

/-- THE SECOND FORM's CARD OF 'laws.FnExactEncodeCommit'. -/
def fnExactEncodeCommitUptoCard : Claim7 := { stood := { row := fnExactEncodeCommitUptoRow, standIns := [], harness := (true, "2659f4cbbd4906be0c9f1a471699e1fdbee3d1b1386a5d1e87894c2917c025e7"), looks := true }, kinds := [], alts := [], laidByText := true, laidKinds := [.handle, .data], laidTests := true, laidLooks := .later }
def FnExactEncodeCommitUptoCardSaid : Prop := Claim7.holds Tryd.pinned (.plain (OpenSpec.upto fnExactEncodeCommitSpec)) fnExactEncodeCommitUptoCard
end Rows
end Go.Proofs.YtajfobhbbjibcagDoor
