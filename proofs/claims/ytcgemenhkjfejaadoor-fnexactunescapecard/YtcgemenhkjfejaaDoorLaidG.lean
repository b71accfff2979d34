/- What the listed variables give: the sentinels, the magic, the handle of 'error'; a world that has them. -/
import Derived.Test.YtcgemenhkjfejaaDoorOpenBlk
import Derived.ChangeSame
import Derived.ChangeVars
import Derived.OpenShut
import Derived.OpenVars
import Derived.JoinedOf
import Derived.RowKitTokens
import Derived.LaidLaws
import Derived.LaidHandle
import Derived.Stop.LaidErr
import Derived.Stop.Joined
namespace Go.Proofs.YtcgemenhkjfejaaDoor
open Go.ChangeShapes Go.WideShapes Go.RowKit

theorem lg_rt : (Tryd.prog.cutTypes.find? (·.1 == "internal/reflectlite.rtype")).map (·.2) = some 58 := by kernel_rfl
theorem lg_oneRow : ((List.range 109).filter fun t => Tryd.prog.rowNamed t [101, 114, 114, 111, 114]) = [38] := by kernel_rfl
theorem lg_size : Tryd.prog.types.size = 109 := by kernel_rfl

theorem lg_star : "*" ++ "errors.errorString" = "*errors.errorString" := by decide
theorem lg_row (u : TypeId) (h : Tryd.prog.typeName? 3 u = some "*errors.errorString") : u = 70 :=
  typeName_ptr_named (nm := "errors.errorString") (by rw [lg_star]; kernel_rfl) (by kernel_rfl) (by decide) u (by rw [lg_star]; exact h)

/-- A sentinel. -/
theorem sent_of_laid {W : World} {n : String} {text : List UInt8} {r : List (String × DataW Unit)} {g : Nat} (h : laidMet Tryd.prog ((n, .iface "*errors.errorString" (.ptr (.agg [.lit (.string text)]))) :: r) W)
    (hg : Tryd.prog.globalNamed n = some g) (ht : (Tryd.prog.globals[g]?).map (·.type) = some 38) : ∃ a, W.cell? ⟨g, 0, none⟩ = some (.iface 70 (.pointer (some a))) := by
  obtain ⟨a, s, hv, _⟩ := laid_sentinel h hg ht Tryd.underlying38 lg_row Tryd.underlying70 Tryd.underlying97 rfl rfl Tryd.underlying9 (by kernel_rfl) (by kernel_rfl)
  exact ⟨a, by simpa using World.var?_cell hg hv 0⟩

/-- The magic. -/
theorem magic_of_laid {W : World} {r : List (String × DataW Unit)} (h : laidMet Tryd.prog (("loop.example/s01525/impl.journalMagic", .agg [.lit (.int .u8 106), .lit (.int .u8 108), .lit (.int .u8 111), .lit (.int .u8 103)]) :: r) W) :
    W.cell? ⟨1, 0, none⟩ = some (.int .u8 106) ∧ W.cell? ⟨1, 1, none⟩ = some (.int .u8 108) ∧ W.cell? ⟨1, 2, none⟩ = some (.int .u8 111) ∧ W.cell? ⟨1, 3, none⟩ = some (.int .u8 103) := by
  obtain ⟨ps, ⟨g0, t0, cs0, f0, p0, q0, hg0, ht0, hv0, hd0, _, _⟩, _, _⟩ := h
  have eg : Tryd.prog.globalNamed "loop.example/s01525/impl.journalMagic" = some 1 := by kernel_rfl
  obtain rfl := Option.some.inj (eg.symm.trans hg0)
  have et : (Tryd.prog.globals[(1 : Nat)]?).map (·.type) = some 34 := by kernel_rfl
  obtain rfl := Option.some.inj (et.symm.trans ht0)
  obtain ⟨xs, m, _, ex, hl, hn, hi⟩ := DataW.trod_array Tryd.underlying34 hd0
  have c1 : Tryd.prog.cellsOf 5 = 1 := by kernel_rfl
  rw [c1] at hi
  simp only [Nat.mul_one] at hi
  have hx : (xs.map (·.1)) = [.lit (.int .u8 106), .lit (.int .u8 108), .lit (.int .u8 111), .lit (.int .u8 103)] := by
    have := congrArg Prod.fst ex
    simpa using this.symm
  have cell : ∀ i n, i < 4 → (xs.map (·.1))[i]? = some (.lit (.int .u8 n)) → cs0[i]? = some (.int .u8 n) := by
    intro i n h4 hxi
    rw [List.getElem?_map] at hxi
    cases hxe : xs[i]? with
    | none => rw [hxe] at hxi; cases hxi
    | some x =>
      rw [hxe] at hxi
      have h1 := hi i h4
      rw [hxe] at h1
      obtain ⟨k, ek, ed, _⟩ := DataW.trod_int Tryd.underlying5 h1
      simp only [Option.map_some, Option.some.injEq] at hxi
      rw [ed] at hxi
      simp only [DataW.lit.injEq, Lit.int.injEq, true_and] at hxi
      have h0 : ((cs0.toList.drop i).take 1)[0]? = some (.int .u8 k) := by rw [ek]; rfl
      rw [List.getElem?_take, if_pos (by omega), List.getElem?_drop, Nat.add_zero, Array.getElem?_toList] at h0
      rw [h0, hxi]
  have v := fun i => World.var?_cell hg0 hv0 i
  refine ⟨?_, ?_, ?_, ?_⟩
  · rw [v 0]; exact cell 0 106 (by omega) (by rw [hx]; rfl)
  · rw [v 1]; exact cell 1 108 (by omega) (by rw [hx]; rfl)
  · rw [v 2]; exact cell 2 111 (by omega) (by rw [hx]; rfl)
  · rw [v 3]; exact cell 3 103 (by omega) (by rw [hx]; rfl)

end Go.Proofs.YtcgemenhkjfejaaDoor
