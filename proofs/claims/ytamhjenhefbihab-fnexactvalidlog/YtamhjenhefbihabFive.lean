/- A block of five cells. -/
import Derived.Test.YtamhjenhefbihabMem
namespace Go.Proofs.Ytamhjenhefbihab
open Go.RowKit

theorem five_cells {w : World} {s : Nat} {a b c d e : Value} {t : TypeId} (h : w.heap[s]? = some (.cells #[a, b, c, d, e] t (0, 0))) :
    w.cell? ⟨s, 0, none⟩ = some a ∧ w.cell? ⟨s, 1, none⟩ = some b ∧ w.cell? ⟨s, 2, none⟩ = some c ∧ w.cell? ⟨s, 3, none⟩ = some d ∧ w.cell? ⟨s, 4, none⟩ = some e := by
  simp [World.cell?, h]

end Go.Proofs.Ytamhjenhefbihab
