/- Unescape of the program. -/
import Derived.Test.YtcjemnhnpkpanaaDoorSmall
import Derived.Test.YtcjemnhnpkpanaaDoorUnesc
import Derived.Test.YtcjemnhnpkpanaaDoorIs
namespace Go.Proofs.YtcjemnhnpkpanaaDoor
open Go.RowKit

/-- The package's errors: three pointers, the first unlike the others. -/
structure GlobA (w : World) (aL aM aK : Addr) : Prop where
  glob : Glob w 73 73 73 (.pointer (some aL)) (.pointer (some aM)) (.pointer (some aK))
  neM : aM ≠ aL
  neK : aK ≠ aL
  rL : ∃ c t, w.heap[aL.block]? = some (.cells c t (0, 0))
  rM : ∃ c t, w.heap[aM.block]? = some (.cells c t (0, 0))
  rK : ∃ c t, w.heap[aK.block]? = some (.cells c t (0, 0))

theorem GlobA.chg {w w' : World} {aL aM aK : Addr} (h : GlobA w aL aM aK) (c : Chg 0 0 w w') : GlobA w' aL aM aK := by
  have k : ∀ {b : Nat}, (∃ x t, w.heap[b]? = some (.cells x t (0, 0))) → ∃ x t, w'.heap[b]? = some (.cells x t (0, 0)) := by
    rintro b ⟨x, t, e⟩
    exact ⟨x, t, (c.block b (Array.getElem?_eq_some_iff.1 e).1 (by omega)).trans e⟩
  exact ⟨h.glob.chg c (by omega), h.neM, h.neK, k h.rL, k h.rM, k h.rK⟩

/-- What Unescape answers. -/
def unescD (xs : List Int) (esc : Bool) : List Int := if xs.length = 64 ∧ unescB xs esc = true then unescL xs esc else []

theorem unescL_length {xs : List Int} (h : xs.length = 64) (esc : Bool) : (unescL xs esc).length = 64 := by
  unfold unescL
  split
  · simp [mg, h]
  · exact h



end Go.Proofs.YtcjemnhnpkpanaaDoor
