/- Operations that came as an answer. -/
import Derived.Test.YthaenahmdnhglaaGreatDoorMarkO
namespace Go.Proofs.YthaenahmdnhglaaGreatDoor
open Go.RowKit

theorem OwnOx.lt' {w : World} {base : Nat} {eO eB : TypeId} {v : Value} {os : List Opx} {cells : List Value} {dvs : Nat → Value} (h : OwnOx w base eO eB v os cells dvs) : ∀ g, v.ownBlock = some g → base ≤ g ∧ g < w.heap.size := World.ownsRow.lt h.row

theorem OwnOx.dlt' {w : World} {base : Nat} {eO eB : TypeId} {v : Value} {os : List Opx} {cells : List Value} {dvs : Nat → Value} (h : OwnOx w base eO eB v os cells dvs) : ∀ i g, i < os.length → (dvs i).ownBlock = some g → base ≤ g ∧ g < w.heap.size :=
  fun i g hi hg => (h.data i hi).lt g hg

theorem OwnOx.vw' {w : World} {base : Nat} {eO eB : TypeId} {v : Value} {os : List Opx} {cells : List Value} {dvs : Nat → Value} (h : OwnOx w base eO eB v os cells dvs) (hl : cnt2 os ≤ 140737488355328) (hd : ∀ i, i < os.length → (os.getD i Opx.zero).2.2.length ≤ 140737488355328) : OView w base w.heap.size v os :=
  h.view (by have := cnt2_ge os; omega) (fun i hi => by have := hd i hi; omega) (fun g hg => (h.lt' g hg).2) (fun i g hi hg => (h.dlt' i g hi hg).2)

theorem cnt2_data {os : List Opx} {i : Nat} (h : i < os.length) : (os.getD i Opx.zero).2.2.length + 2 ≤ cnt2 os := by
  have h1 := cnt2_take_succ os i h
  have h2 := cnt2_take_le os (i + 1)
  omega

theorem cnt2_mkOs (k0 : Nat) (os : List Opx) : cnt2 (mkOs k0 os os.length) = cnt2 os := by
  unfold cnt2
  congr 1
  apply List.ext_getElem (by simp [mkOs])
  intro i h1 h2
  have hi : i < os.length := by simpa using h2
  simp [mkOs, hi, mkO, marks_length]

/-- A list of operations that came as an answer. -/
theorem OwnOx.look {w : World} {base : Nat} {eO eB : TypeId} {v : Value} {os : List Opx} {cells : List Value} {dvs : Nat → Value} (h : OwnOx w base eO eB v os cells dvs) (hl : cnt2 os ≤ 140737488355328) : OView w base w.heap.size v os :=
  h.vw' hl (fun i hi => by have := cnt2_data hi; omega)

end Go.Proofs.YthaenahmdnhglaaGreatDoor
