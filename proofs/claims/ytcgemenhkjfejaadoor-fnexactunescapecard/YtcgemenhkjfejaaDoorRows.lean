/-
  NARROWER THAN 'FOR EVERY INPUT', by the rows' own cells (each row's printed sentence says how): FnExactUnescape: ifaces, laid.
  DERIVED. THE GIVEN ROWS OF THIS SEAT. 1 by the template 'for every input the law returns true; each argument reads behind the call as it read before'; 0 by the template 'total and deterministic' (their statements: YtcgemenhkjfejaaDoorTotals.lean).
  GIVEN WITH THE SEED: the statements are not yours to turn. If you find one false, say at which input.
  Laid BY PROGRAM, IN A SANDBOX (cutbox-rows.mjs): the forced cells as the released guide's own fill.sh prints them over the translation 7c532acebb8110fe… (all of the seat's roots in one cut). By AI agents, Wed Nov 11 2026. No macro, syntax, notation, axiom, sorry.
-/
import Derived.Test.YtcgemenhkjfejaaDoorChecked
import GoSem.Claim
import GoSem.ClaimJoined
import GoSem.ClaimMapViews
import Derived.JoinedTies
import Derived.KernelRfl
namespace Go.Proofs.YtcgemenhkjfejaaDoor
/- THE CELL 'sum', in the pinned program and in every row, IS THE sha256 OF THE DUMP (.gsa) THAT YtcgemenhkjfejaaDoorProg.lean LOADS. Nothing in Lean hashes anything: it is a label: what it is worth is what the hold of that sum in a sandbox is worth. -/
noncomputable def Tryd.pinned : Pinned := { name := "ytcgemenhkjfejaadoor", sum := "7c532acebb8110fe6ad5585b4acfe91f3dcfd79066db558f7a8d5e3870517191", checked := Tryd.checked }
namespace Rows
def none {H : Type} : Left H := { results := [], args := [] }

/- WHAT THE LISTED PACKAGE-LEVEL VARIABLES READ AS WHEN THE CALL BEGINS. Each datum BY PROGRAM (the guide's laid-datum.mjs) off the statement by which the dump's own 'gosem.cut.vars' lays the variable. In a bare row this is a premise. The card (YtcgemenhkjfejaaDoorCards.lean) ties it to the program's text. -/
def laid_loop_example_s01525_impl_errLength {H : Type} : DataW H := .iface "*errors.errorString" (.ptr (.agg [.lit (.string [110, 111, 116, 32, 97, 115, 32, 108, 111, 110, 103, 32, 97, 115, 32, 97, 32, 98, 108, 111, 99, 107])]))
def laid_loop_example_s01525_impl_errMagic {H : Type} : DataW H := .iface "*errors.errorString" (.ptr (.agg [.lit (.string [100, 111, 101, 115, 32, 110, 111, 116, 32, 98, 101, 103, 105, 110, 32, 119, 105, 116, 104, 32, 116, 104, 101, 32, 109, 97, 103, 105, 99])]))
def laid_loop_example_s01525_impl_errKind {H : Type} : DataW H := .iface "*errors.errorString" (.ptr (.agg [.lit (.string [111, 102, 32, 110, 111, 32, 107, 105, 110, 100, 44, 32, 111, 114, 32, 111, 102, 32, 97, 110, 111, 116, 104, 101, 114, 32, 111, 110, 101])]))
def laid_loop_example_s01525_impl_journalMagic {H : Type} : DataW H := .agg [.lit (.int .u8 106), .lit (.int .u8 108), .lit (.int .u8 111), .lit (.int .u8 103)]

/-- 'laws.FnExactUnescape': WHATEVER THE INPUT: true; the input reads as it did. -/
def fnExactUnescapeSpec : ChangeSpec := { name := "fnExactUnescape", vars := ["loop.example/s01525/impl.errLength", "loop.example/s01525/impl.journalMagic", "loop.example/s01525/impl.errMagic", "loop.example/s01525/impl.errKind"], fn := fun _ => fun
  | [d1, d2, g1, g2, g3, g4] => { results := [.lit (.bool true)], args := [d1, d2], vars := [g1, g2, g3, g4] }
  | _ => none }
def fnExactUnescapeRow : OpenClaim := { program := "ytcgemenhkjfejaadoor", sum := "7c532acebb8110fe6ad5585b4acfe91f3dcfd79066db558f7a8d5e3870517191", func := "loop.example/s01525/laws.FnExactUnescape", spec := "fnExactUnescape", inPlace := ["internal/reflectlite.TypeOf"], unfollowed := true, recurses := true, named := ["loop.example/s01525/impl.errLength", "loop.example/s01525/impl.journalMagic", "loop.example/s01525/impl.errMagic", "loop.example/s01525/impl.errKind"], ifaces := true, apart := false, laid := [("loop.example/s01525/impl.errLength", laid_loop_example_s01525_impl_errLength), ("loop.example/s01525/impl.errMagic", laid_loop_example_s01525_impl_errMagic), ("loop.example/s01525/impl.errKind", laid_loop_example_s01525_impl_errKind), ("loop.example/s01525/impl.journalMagic", laid_loop_example_s01525_impl_journalMagic)] }
def FnExactUnescapeSaid : Prop := fnExactUnescapeRow.holds Tryd.pinned (OpenSpec.ofChange fnExactUnescapeSpec)

/-- ITS FALSE NEIGHBOUR: 'it returns false'. Refute it at one input. -/
def fnExactUnescapeWrong : ChangeSpec := { name := "fnExactUnescape", vars := ["loop.example/s01525/impl.errLength", "loop.example/s01525/impl.journalMagic", "loop.example/s01525/impl.errMagic", "loop.example/s01525/impl.errKind"], fn := fun _ => fun
  | [d1, d2, g1, g2, g3, g4] => { results := [.lit (.bool false)], args := [d1, d2], vars := [g1, g2, g3, g4] }
  | _ => none }
def FnExactUnescapeWrongFalsely : Prop := fnExactUnescapeRow.holds Tryd.pinned (OpenSpec.ofChange fnExactUnescapeWrong)

/- THE SECOND FORM. 'bulk': how many values and letters a reading holds, each counted each time it is reached (what is shared counts as often as it is met; a slice's spare places count too). A statement '..UptoSaid' is the law's where the arguments, and the package variables that the reading takes, are together of bulk at most 1048576: NARROWER than '..Said'. Prove '..Said' where nothing that the law and all that it calls make is longer than what came in: it says more and counts as full. Else prove '..UptoSaid'. A law counts once. -/
mutual
def uptoBulk {H : Type} : DataW H → Nat
  | .lit (.string bytes) => bytes.length + 1
  | .lit _ => 1
  | .nil => 1
  | .ptr d => uptoBulk d + 1
  | .slice elems spare => uptoBulkAll elems + uptoBulkAll spare + 1
  | .agg parts => uptoBulkAll parts + 1
  | .iface _ d => uptoBulk d + 1
  | .map entries => uptoBulkEntries entries + 1
  | .held _ => 1
def uptoBulkAll {H : Type} : List (DataW H) → Nat
  | [] => 0
  | d :: r => uptoBulk d + uptoBulkAll r
def uptoBulkEntries {H : Type} : List (Lit × DataW H) → Nat
  | [] => 0
  | x :: r => uptoBulkEntry x + uptoBulkEntries r
def uptoBulkEntry {H : Type} : Lit × DataW H → Nat
  | (.string bytes, d) => bytes.length + uptoBulk d + 1
  | (_, d) => uptoBulk d + 1
 end
def uptoSmall : (H : Type) → List (DataW H) → Bool := fun _ ds => decide (uptoBulkAll ds ≤ 1048576)
def OpenSpec.upto (s : _root_.Go.ChangeSpec) : _root_.Go.OpenSpec := { _root_.Go.OpenSpec.ofChange s with cond := some uptoSmall }

/-- 'laws.FnExactUnescape', WHERE WHAT IT READS IS OF BULK AT MOST 1048576: true; the input reads as it did. -/
def fnExactUnescapeUptoRow : OpenClaim := { program := "ytcgemenhkjfejaadoor", sum := "7c532acebb8110fe6ad5585b4acfe91f3dcfd79066db558f7a8d5e3870517191", func := "loop.example/s01525/laws.FnExactUnescape", spec := "fnExactUnescape", inPlace := ["internal/reflectlite.TypeOf"], unfollowed := true, recurses := true, named := ["loop.example/s01525/impl.errLength", "loop.example/s01525/impl.journalMagic", "loop.example/s01525/impl.errMagic", "loop.example/s01525/impl.errKind"], ifaces := true, apart := false, laid := [("loop.example/s01525/impl.errLength", laid_loop_example_s01525_impl_errLength), ("loop.example/s01525/impl.errMagic", laid_loop_example_s01525_impl_errMagic), ("loop.example/s01525/impl.errKind", laid_loop_example_s01525_impl_errKind), ("loop.example/s01525/impl.journalMagic", laid_loop_example_s01525_impl_journalMagic)], narrowed := true }
def FnExactUnescapeUptoSaid : Prop := fnExactUnescapeUptoRow.holds Tryd.pinned (OpenSpec.upto fnExactUnescapeSpec)

end Rows
end Go.Proofs.YtcgemenhkjfejaaDoor
