/- A block of five cells. -/
import Derived.Test.YtlpgghooikedoaaMem
namespace Go.Proofs.Ytlpgghooikedoaa
open Go.RowKit

theorem five_cells {w : World} {s : Nat} {a b c d e : Value} {t : TypeId} (h : w.heap[s]? = some (.cells #[a, b, c, d, e] t (0, 0))) :
    w.cell? ⟨s, 0, none⟩ = some a ∧ w.cell? ⟨s, 1, none⟩ = some b ∧ w.cell? ⟨s, 2, none⟩ = some c ∧ w.cell? ⟨s, 3, none⟩ = some d ∧ w.cell? ⟨s, 4, none⟩ = some e := by
  simp [World.cell?, h]
theorem five_all {w : World} {s : Nat} {a b c d e : Value} {t : TypeId} (h : w.heap[s]? = some (.cells #[a, b, c, d, e] t (0, 0))) :
    (w.cell? ⟨s, 0, none⟩ = some a ∧ w.cell? ⟨s, 1, none⟩ = some b ∧ w.cell? ⟨s, 2, none⟩ = some c ∧ w.cell? ⟨s, 3, none⟩ = some d ∧ w.cell? ⟨s, 4, none⟩ = some e) ∧
      w.frozen? ⟨s, 0, none⟩ = false ∧ w.frozen? ⟨s, 1, none⟩ = false ∧ w.frozen? ⟨s, 2, none⟩ = false ∧ w.frozen? ⟨s, 3, none⟩ = false ∧ w.frozen? ⟨s, 4, none⟩ = false := by
  simp [World.cell?, World.frozen?, h]

end Go.Proofs.Ytlpgghooikedoaa
