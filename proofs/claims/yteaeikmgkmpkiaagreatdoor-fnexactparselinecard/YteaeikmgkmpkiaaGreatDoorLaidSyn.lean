/- What a listed error of the library gives. -/
import Derived.Test.YteaeikmgkmpkiaaGreatDoorRows
import Derived.ChangeSame
import Derived.ChangeVars
import Derived.OpenShut
import Derived.OpenVars
import Derived.JoinedOf
import Derived.RowKitTokens
import Derived.LaidLaws
import Derived.LaidHandle
import Derived.Stop.LaidErr
import Derived.Stop.Joined
namespace Go.Proofs.YteaeikmgkmpkiaaGreatDoor
open Go.ChangeShapes Go.WideShapes Go.RowKit

theorem ls_star : "*" ++ "errors.errorString" = "*errors.errorString" := by decide
theorem ls_row (u : TypeId) (h : Tryz.prog.typeName? 3 u = some "*errors.errorString") : u = 138 :=
  typeName_ptr_named (nm := "errors.errorString") (by rw [ls_star]; kernel_rfl) (by kernel_rfl) (by decide) u (by rw [ls_star]; exact h)

theorem sentS_of_laid {W : World} {n : String} {text : List UInt8} {r : List (String × DataW Unit)} {g : Nat} (h : laidMet Tryz.prog ((n, .iface "*errors.errorString" (.ptr (.agg [.lit (.string text)]))) :: r) W)
    (hg : Tryz.prog.globalNamed n = some g) (ht : (Tryz.prog.globals[g]?).map (·.type) = some 77) : ∃ a, W.cell? ⟨g, 0, none⟩ = some (.iface 138 (.pointer (some a))) := by
  obtain ⟨a, s, hv, _⟩ := laid_sentinel h hg ht Tryz.underlying77 ls_row Tryz.underlying138 Tryz.underlying140 rfl rfl Tryz.underlying9 (by kernel_rfl) (by kernel_rfl)
  exact ⟨a, by simpa using World.var?_cell hg hv 0⟩

end Go.Proofs.YteaeikmgkmpkiaaGreatDoor
