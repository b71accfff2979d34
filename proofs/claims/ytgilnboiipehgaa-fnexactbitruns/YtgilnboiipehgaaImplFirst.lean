/- BitFirst of the program. -/
import Derived.Test.YtgilnboiipehgaaRunsMath
namespace Go.Proofs.Ytgilnboiipehgaa
open Go.RowKit Go.Shelf
attribute [local go_sem] Oper.semAt_some

/-- The three variables that the runs hold on to. -/
abbrev three (w : World) (v : Value) (f t : Int) : World := ((w.alloc (.cells #[v] 38)).alloc (.cells #[.int .i64 f] 2)).alloc (.cells #[.int .i64 t] 2)

set_option maxHeartbeats 1000000 in
theorem freeRuns_calls (w : World) (ao : Option Addr) (n cap : Nat) (f t : Int) :
    Calls Try.prog 15 #[.slice ao n cap, .int .i64 f, .int .i64 t] w fun e w' =>
      e = .returned (.func (.func 17) #[] #[.pointer (some ⟨w.heap.size, 0, none⟩), .pointer (some ⟨w.heap.size + 1, 0, none⟩), .pointer (some ⟨w.heap.size + 1 + 1, 0, none⟩)]) ∧ w' = three w (.slice ao n cap) f t := by
  go_enter Try.func15, Try.ntmps15
  go_wp2
  go_ret
  exact ⟨rfl, rfl⟩

theorem three_facts (w : World) (v : Value) (f t : Int) : (three w v f t).heap.size = w.heap.size + 3 ∧ (three w v f t).cell? ⟨w.heap.size, 0, none⟩ = some v ∧ (three w v f t).cell? ⟨w.heap.size + 1, 0, none⟩ = some (.int .i64 f) ∧ (three w v f t).cell? ⟨w.heap.size + 1 + 1, 0, none⟩ = some (.int .i64 t) ∧ Below w.heap.size w (three w v f t) := by
  obtain ⟨h0, h1, h2, h3⟩ := alloc3 w (.cells #[v] 38) (.cells #[.int .i64 f] 2) (.cells #[.int .i64 t] 2)
  refine ⟨h0, ?_, ?_, ?_, (Chg.alloc (Chg.alloc (Chg.alloc (Chg.refl 0 0 w) _) _) _).below (Or.inl (Nat.le_refl _))⟩
  · exact Boxed.cell h1
  · exact Boxed.cell h2
  · exact Boxed.cell h3

end Go.Proofs.Ytgilnboiipehgaa
