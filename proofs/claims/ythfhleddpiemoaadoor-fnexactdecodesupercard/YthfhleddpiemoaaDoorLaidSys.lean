/- What the listed variable gives: the magic of the file system; a world that has it. (made by tools/mklaidsys.py) -/
import Derived.Test.YthfhleddpiemoaaDoorImplSys
import Derived.ChangeSame
import Derived.ChangeVars
import Derived.OpenShut
import Derived.OpenVars
import Derived.JoinedOf
import Derived.RowKitTokens
import Derived.LaidLaws
import Derived.LaidHandle
import Derived.Stop.LaidErr
import Derived.Stop.Joined
namespace Go.Proofs.YthfhleddpiemoaaDoor
open Go.ChangeShapes Go.WideShapes Go.RowKit

/-- The magic. -/
theorem sys_of_laid {W : World} {r : List (String × DataW Unit)} (h : laidMet Tryd.prog (("loop.example/s01525/impl.systemMagic", .agg [.lit (.int .u8 102), .lit (.int .u8 115), .lit (.int .u8 121), .lit (.int .u8 115)]) :: r) W) :
    W.cell? ⟨0, 0, none⟩ = some (.int .u8 102) ∧ W.cell? ⟨0, 1, none⟩ = some (.int .u8 115) ∧ W.cell? ⟨0, 2, none⟩ = some (.int .u8 121) ∧ W.cell? ⟨0, 3, none⟩ = some (.int .u8 115) := by
  obtain ⟨ps, ⟨g0, t0, cs0, f0, p0, q0, hg0, ht0, hv0, hd0, _, _⟩, _, _⟩ := h
  have eg : Tryd.prog.globalNamed "loop.example/s01525/impl.systemMagic" = some 0 := by kernel_rfl
  obtain rfl := Option.some.inj (eg.symm.trans hg0)
  have et : (Tryd.prog.globals[(0 : Nat)]?).map (·.type) = some 52 := by kernel_rfl
  obtain rfl := Option.some.inj (et.symm.trans ht0)
  obtain ⟨xs, m, _, ex, hl, hn, hi⟩ := DataW.trod_array Tryd.underlying52 hd0
  have c1 : Tryd.prog.cellsOf 5 = 1 := by kernel_rfl
  rw [c1] at hi
  simp only [Nat.mul_one] at hi
  have hx : (xs.map (·.1)) = [.lit (.int .u8 102), .lit (.int .u8 115), .lit (.int .u8 121), .lit (.int .u8 115)] := by
    have := congrArg Prod.fst ex
    simpa using this.symm
  have cell : ∀ i n, i < 4 → (xs.map (·.1))[i]? = some (.lit (.int .u8 n)) → cs0[i]? = some (.int .u8 n) := by
    intro i n h4 hxi
    rw [List.getElem?_map] at hxi
    cases hxe : xs[i]? with
    | none => rw [hxe] at hxi; cases hxi
    | some x =>
      rw [hxe] at hxi
      have h1 := hi i h4
      rw [hxe] at h1
      obtain ⟨k, ek, ed, _⟩ := DataW.trod_int Tryd.underlying5 h1
      simp only [Option.map_some, Option.some.injEq] at hxi
      rw [ed] at hxi
      simp only [DataW.lit.injEq, Lit.int.injEq, true_and] at hxi
      have h0 : ((cs0.toList.drop i).take 1)[0]? = some (.int .u8 k) := by rw [ek]; rfl
      rw [List.getElem?_take, if_pos (by omega), List.getElem?_drop, Nat.add_zero, Array.getElem?_toList] at h0
      rw [h0, hxi]
  have v := fun i => World.var?_cell hg0 hv0 i
  refine ⟨?_, ?_, ?_, ?_⟩
  · rw [v 0]; exact cell 0 102 (by omega) (by rw [hx]; rfl)
  · rw [v 1]; exact cell 1 115 (by omega) (by rw [hx]; rfl)
  · rw [v 2]; exact cell 2 121 (by omega) (by rw [hx]; rfl)
  · rw [v 3]; exact cell 3 115 (by omega) (by rw [hx]; rfl)

end Go.Proofs.YthfhleddpiemoaaDoor
