/- The bytes of a number are bytes. -/
import Derived.Test.YtfkkfifjgkoicaaPutN
namespace Go.Proofs.Ytfkkfifjgkoicaa
open Go.RowKit

theorem digs_byt (v : Int) (n : Nat) : Byt (digs v n) := by
  induction n with
  | zero => intro x hx; cases hx
  | succ n ih =>
    intro x hx
    rcases List.mem_cons.1 hx with rfl | hx
    · exact ⟨Int.emod_nonneg _ (by decide), Int.emod_lt_of_pos _ (by decide)⟩
    · exact ih x hx

theorem putN_byt (v n : Int) : Byt (putN v n) := by
  unfold putN
  split
  · intro x hx; cases hx
  · split
    · intro x hx; cases hx
    · exact digs_byt _ _

end Go.Proofs.Ytfkkfifjgkoicaa
