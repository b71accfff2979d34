/- Nothing, owned; two blocks. -/
import Derived.Test.YtcgemenhkjfejaaDoorMem
namespace Go.Proofs.YtcgemenhkjfejaaDoor
open Go.RowKit

theorem OwnB.nothing (w : World) (N : Nat) (e : TypeId) : OwnB w N e (.slice none 0 0) [] := ⟨rfl, Or.inl ⟨rfl, rfl⟩⟩
theorem alloc_two (w : World) (o1 o2 : Obj) : ((w.alloc o1).alloc o2).heap[w.heap.size]? = some o1 := (alloc2 w o1 o2).2.1
theorem alloc_twoN (w : World) (o1 o2 : Obj) : ((w.alloc o1).alloc o2).heap[w.heap.size + 1]? = some o2 := (alloc2 w o1 o2).2.2
theorem trio {w : World} {s : Nat} {a b c : Value} {t : TypeId} (h : w.heap[s]? = some (.cells #[a, b, c] t (0, 0))) :
    w.cell? ⟨s, 0, none⟩ = some a ∧ w.cell? ⟨s, 1, none⟩ = some b ∧ w.cell? ⟨s, 2, none⟩ = some c := by
  simp [World.cell?, h]

end Go.Proofs.YtcgemenhkjfejaaDoor
