/- ValidDisk, of the program and of its model. -/
import Derived.Test.YtaciallijnhieaaDoorRows
import Derived.Test.YtaciallijnhieaaDoorMem
namespace Go.Proofs.YtaciallijnhieaaDoor
open Go.RowKit

/-- A pending write of a disk of n blocks. -/
def Good (n : Nat) (p : Wr) : Prop := 0 ≤ p.1 ∧ p.1 < (n : Int) ∧ p.2.length = 64
/-- A valid disk. -/
def Valid (d : Dsk) : Prop := d.dur.length % 64 = 0 ∧ 1 ≤ d.dur.length / 64 ∧ d.dur.length / 64 ≤ 2048 ∧ d.pend.length ≤ 600 ∧ ∀ i, i < d.pend.length → Good (d.dur.length / 64) (d.pend.getD i (0, []))

def goodB (n : Nat) (p : Wr) : Bool := decide (0 ≤ p.1) && (decide (p.1 < (n : Int)) && (p.2.length == 64))
def validB (d : Dsk) : Bool := (d.dur.length % 64 == 0) && (decide (1 ≤ d.dur.length / 64) && (decide (d.dur.length / 64 ≤ 2048) && (decide (d.pend.length ≤ 600) && (List.range d.pend.length).all fun i => goodB (d.dur.length / 64) (d.pend.getD i (0, [])))))
theorem goodB_iff (n : Nat) (p : Wr) : goodB n p = true ↔ Good n p := by simp [goodB, Good]
theorem validB_iff (d : Dsk) : validB d = true ↔ Valid d := by simp only [validB, Valid, Bool.and_eq_true, beq_iff_eq, decide_eq_true_eq, List.all_eq_true, List.mem_range, goodB_iff]
theorem validB_true {d : Dsk} (h : Valid d) : validB d = true := (validB_iff d).2 h
theorem validB_false {d : Dsk} (h : ¬ Valid d) : validB d = false := by
  cases e : validB d with
  | false => rfl
  | true => exact absurd ((validB_iff d).1 e) h

end Go.Proofs.YtaciallijnhieaaDoor
