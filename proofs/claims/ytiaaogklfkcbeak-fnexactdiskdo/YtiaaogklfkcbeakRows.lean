/-
  No cell of these rows narrows 'for every input' (looked for: loops, veiled, ifaces, maps, wideKeys, modest, calm, conditions, laid).
  DERIVED. THE GIVEN ROWS OF THIS SEAT. 3 by the template 'for every input the law returns true; each argument reads behind the call as it read before'; 0 by the template 'total and deterministic' (their statements: YtiaaogklfkcbeakTotals.lean).
  GIVEN WITH THE SEED: the statements are not yours to turn. If you find one false, say at which input.
  Laid BY PROGRAM, IN A SANDBOX (cutbox-rows.mjs): the forced cells as the released guide's own fill.sh prints them over the translation e5ca73f65122b6f9… (all of the seat's roots in one cut). By AI agents, Wed Nov 11 2026. No macro, syntax, notation, axiom, sorry.
-/
import Derived.Test.YtiaaogklfkcbeakChecked
import GoSem.Claim
import GoSem.ClaimJoined
import GoSem.ClaimMapViews
import Derived.JoinedTies
import Derived.KernelRfl
namespace Go.Proofs.Ytiaaogklfkcbeak
/- THE CELL 'sum', in the pinned program and in every row, IS THE sha256 OF THE DUMP (.gsa) THAT YtiaaogklfkcbeakProg.lean LOADS. Nothing in Lean hashes anything: it is a label: what it is worth is what the hold of that sum in a sandbox is worth. -/
noncomputable def Try.pinned : Pinned := { name := "ytiaaogklfkcbeak", sum := "e5ca73f65122b6f99c57db969643ab1d29835a897e98c1c82323d47291618882", checked := Try.checked }
namespace Rows
def none {H : Type} : Left H := { results := [], args := [] }

/-- 'laws.FnExactDecodeJSuper': WHATEVER THE INPUT: true; the input reads as it did. -/
def fnExactDecodeJSuperSpec : ChangeSpec := { name := "fnExactDecodeJSuper", fn := fun _ => fun
  | [d] => { results := [.lit (.bool true)], args := [d] }
  | _ => none }
def fnExactDecodeJSuperRow : OpenClaim := { program := "ytiaaogklfkcbeak", sum := "e5ca73f65122b6f99c57db969643ab1d29835a897e98c1c82323d47291618882", func := "loop.example/s01525/laws.FnExactDecodeJSuper", spec := "fnExactDecodeJSuper", apart := false }
def FnExactDecodeJSuperSaid : Prop := fnExactDecodeJSuperRow.holds Try.pinned (OpenSpec.ofChange fnExactDecodeJSuperSpec)

/-- ITS FALSE NEIGHBOUR: 'it returns false'. Refute it at one input. -/
def fnExactDecodeJSuperWrong : ChangeSpec := { name := "fnExactDecodeJSuper", fn := fun _ => fun
  | [d] => { results := [.lit (.bool false)], args := [d] }
  | _ => none }
def FnExactDecodeJSuperWrongFalsely : Prop := fnExactDecodeJSuperRow.holds Try.pinned (OpenSpec.ofChange fnExactDecodeJSuperWrong)

/-- 'laws.FnExactParseLine': WHATEVER THE INPUT: true; the input reads as it did. -/
def fnExactParseLineSpec : ChangeSpec := { name := "fnExactParseLine", fn := fun _ => fun
  | [d] => { results := [.lit (.bool true)], args := [d] }
  | _ => none }
def fnExactParseLineRow : OpenClaim := { program := "ytiaaogklfkcbeak", sum := "e5ca73f65122b6f99c57db969643ab1d29835a897e98c1c82323d47291618882", func := "loop.example/s01525/laws.FnExactParseLine", spec := "fnExactParseLine", recurses := true, apart := false }
def FnExactParseLineSaid : Prop := fnExactParseLineRow.holds Try.pinned (OpenSpec.ofChange fnExactParseLineSpec)

/-- ITS FALSE NEIGHBOUR: 'it returns false'. Refute it at one input. -/
def fnExactParseLineWrong : ChangeSpec := { name := "fnExactParseLine", fn := fun _ => fun
  | [d] => { results := [.lit (.bool false)], args := [d] }
  | _ => none }
def FnExactParseLineWrongFalsely : Prop := fnExactParseLineRow.holds Try.pinned (OpenSpec.ofChange fnExactParseLineWrong)

/-- 'laws.FnExactDiskDo': WHATEVER THE INPUT: true; the input reads as it did. -/
def fnExactDiskDoSpec : ChangeSpec := { name := "fnExactDiskDo", fn := fun _ => fun
  | [d1, d2, d3] => { results := [.lit (.bool true)], args := [d1, d2, d3] }
  | _ => none }
def fnExactDiskDoRow : OpenClaim := { program := "ytiaaogklfkcbeak", sum := "e5ca73f65122b6f99c57db969643ab1d29835a897e98c1c82323d47291618882", func := "loop.example/s01525/laws.FnExactDiskDo", spec := "fnExactDiskDo", unfollowed := true, recurses := true, apart := false }
def FnExactDiskDoSaid : Prop := fnExactDiskDoRow.holds Try.pinned (OpenSpec.ofChange fnExactDiskDoSpec)

/-- ITS FALSE NEIGHBOUR: 'it returns false'. Refute it at one input. -/
def fnExactDiskDoWrong : ChangeSpec := { name := "fnExactDiskDo", fn := fun _ => fun
  | [d1, d2, d3] => { results := [.lit (.bool false)], args := [d1, d2, d3] }
  | _ => none }
def FnExactDiskDoWrongFalsely : Prop := fnExactDiskDoRow.holds Try.pinned (OpenSpec.ofChange fnExactDiskDoWrong)

/- THE SECOND FORM. 'bulk': how many values and letters a reading holds, each counted each time it is reached (what is shared counts as often as it is met; a slice's spare places count too). A statement '..UptoSaid' is the law's where the arguments, and the package variables that the reading takes, are together of bulk at most 1048576: NARROWER than '..Said'. Prove '..Said' where nothing that the law and all that it calls make is longer than what came in: it says more and counts as full. Else prove '..UptoSaid'. A law counts once. -/
mutual
def uptoBulk {H : Type} : DataW H → Nat
  | .lit (.string bytes) => bytes.length + 1
  | .lit _ => 1
  | .nil => 1
  | .ptr d => uptoBulk d + 1
  | .slice elems spare => uptoBulkAll elems + uptoBulkAll spare + 1
  | .agg parts => uptoBulkAll parts + 1
  | .iface _ d => uptoBulk d + 1
  | .map entries => uptoBulkEntries entries + 1
  | .held _ => 1
def uptoBulkAll {H : Type} : List (DataW H) → Nat
  | [] => 0
  | d :: r => uptoBulk d + uptoBulkAll r
def uptoBulkEntries {H : Type} : List (Lit × DataW H) → Nat
  | [] => 0
  | x :: r => uptoBulkEntry x + uptoBulkEntries r
def uptoBulkEntry {H : Type} : Lit × DataW H → Nat
  | (.string bytes, d) => bytes.length + uptoBulk d + 1
  | (_, d) => uptoBulk d + 1
 end
def uptoSmall : (H : Type) → List (DataW H) → Bool := fun _ ds => decide (uptoBulkAll ds ≤ 1048576)
def OpenSpec.upto (s : _root_.Go.ChangeSpec) : _root_.Go.OpenSpec := { _root_.Go.OpenSpec.ofChange s with cond := some uptoSmall }

/-- 'laws.FnExactDecodeJSuper', WHERE WHAT IT READS IS OF BULK AT MOST 1048576: true; the input reads as it did. -/
def fnExactDecodeJSuperUptoRow : OpenClaim := { program := "ytiaaogklfkcbeak", sum := "e5ca73f65122b6f99c57db969643ab1d29835a897e98c1c82323d47291618882", func := "loop.example/s01525/laws.FnExactDecodeJSuper", spec := "fnExactDecodeJSuper", apart := false, narrowed := true }
def FnExactDecodeJSuperUptoSaid : Prop := fnExactDecodeJSuperUptoRow.holds Try.pinned (OpenSpec.upto fnExactDecodeJSuperSpec)

/-- 'laws.FnExactParseLine', WHERE WHAT IT READS IS OF BULK AT MOST 1048576: true; the input reads as it did. -/
def fnExactParseLineUptoRow : OpenClaim := { program := "ytiaaogklfkcbeak", sum := "e5ca73f65122b6f99c57db969643ab1d29835a897e98c1c82323d47291618882", func := "loop.example/s01525/laws.FnExactParseLine", spec := "fnExactParseLine", recurses := true, apart := false, narrowed := true }
def FnExactParseLineUptoSaid : Prop := fnExactParseLineUptoRow.holds Try.pinned (OpenSpec.upto fnExactParseLineSpec)

/-- 'laws.FnExactDiskDo', WHERE WHAT IT READS IS OF BULK AT MOST 1048576: true; the input reads as it did. -/
def fnExactDiskDoUptoRow : OpenClaim := { program := "ytiaaogklfkcbeak", sum := "e5ca73f65122b6f99c57db969643ab1d29835a897e98c1c82323d47291618882", func := "loop.example/s01525/laws.FnExactDiskDo", spec := "fnExactDiskDo", unfollowed := true, recurses := true, apart := false, narrowed := true }
def FnExactDiskDoUptoSaid : Prop := fnExactDiskDoUptoRow.holds Try.pinned (OpenSpec.upto fnExactDiskDoSpec)

end Rows
end Go.Proofs.Ytiaaogklfkcbeak
