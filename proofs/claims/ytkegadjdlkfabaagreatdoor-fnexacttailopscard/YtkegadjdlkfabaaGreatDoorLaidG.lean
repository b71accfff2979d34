/- Several short texts in one: EqO, OpenLog, Own, LaidG. -/
import Derived.Test.YtkegadjdlkfabaaGreatDoorOps
import Derived.Test.YtkegadjdlkfabaaGreatDoorEqB
import Derived.Test.YtkegadjdlkfabaaGreatDoorRows
import Derived.Test.YtkegadjdlkfabaaGreatDoorMem
import Derived.ProofKit
import Derived.OpenShut
import Derived.Carry
import Derived.ChangeOld
import Derived.Below
import Derived.Lib.SmallJoins
import Derived.Test.YtkegadjdlkfabaaGreatDoorSmall
import Derived.ChangeSame
import Derived.ChangeVars
import Derived.OpenVars
import Derived.JoinedOf
import Derived.RowKitTokens
import Derived.LaidLaws
import Derived.LaidHandle
import Derived.Stop.LaidErr
import Derived.Stop.Joined
namespace Go.Proofs.YtkegadjdlkfabaaGreatDoor
open Go.RowKit

set_option maxRecDepth 20000 in
set_option maxHeartbeats 400000 in
theorem eqOp_calls (w : World) {lo hi lo' hi' : Nat} (q p : Int) {a b : Value} {xs : List Int} (h1 : View w lo hi .u8 a xs) (h2 : View w lo' hi' .u8 b xs) :
    Calls Tryz.prog 14 #[.agg #[.int .i64 q, .int .i64 p, a], .agg #[.int .i64 q, .int .i64 p, b]] w fun e w' => e = .returned (.bool true) ∧ Chg 0 0 w w' := by
  have hne : (q != q) = false := by simp
  have hne2 : (p != p) = false := by simp
  go_enter Tryz.func14, Tryz.ntmps14
  go_wp2_with fail
  refine (eqByteS_calls _ (h1.chg ((Chg.alloc (Chg.refl 0 0 w) _).alloc _) (by omega)) (h2.chg ((Chg.alloc (Chg.refl 0 0 w) _).alloc _) (by omega))).mono ?_
  rintro e w1 ⟨rfl, hs⟩
  have hc : Chg 0 0 w w1 := ((Chg.alloc (Chg.refl 0 0 w) _).alloc _).trans (hs.chg 0 0)
  clear hs
  go_wp2
  go_ret
  exact ⟨rfl, hc⟩

set_option maxRecDepth 20000 in
set_option maxHeartbeats 1000000 in
theorem eqOpS_some (w : World) (ps : List Opx) (lo hi lo' hi' b off b' off' cap cap' : Nat) (hl : ps.length ≤ 9223372036854775807)
    (h1 : ∀ i, i < ps.length → ∃ dv, w.cell? ⟨b, off + i * 3, none⟩ = some (.int .i64 (ps.getD i Opx.zero).1) ∧ w.cell? ⟨b, off + i * 3 + 1, none⟩ = some (.int .i64 (ps.getD i Opx.zero).2.1) ∧ w.cell? ⟨b, off + i * 3 + 2, none⟩ = some dv ∧ View w lo hi .u8 dv (ps.getD i Opx.zero).2.2)
    (h2 : ∀ i, i < ps.length → ∃ dv, w.cell? ⟨b', off' + i * 3, none⟩ = some (.int .i64 (ps.getD i Opx.zero).1) ∧ w.cell? ⟨b', off' + i * 3 + 1, none⟩ = some (.int .i64 (ps.getD i Opx.zero).2.1) ∧ w.cell? ⟨b', off' + i * 3 + 2, none⟩ = some dv ∧ View w lo' hi' .u8 dv (ps.getD i Opx.zero).2.2) :
    Calls Tryz.prog 7 #[.slice (some ⟨b, off, none⟩) ps.length cap, .slice (some ⟨b', off', none⟩) ps.length cap'] w fun e w' => e = .returned (.bool true) ∧ Chg 0 0 w w' := by
  have hne : ((ps.length : Int) != (ps.length : Int)) = false := by simp
  go_enter Tryz.func7, Tryz.ntmps7
  go_wp2
  go_loopw [5] (fun i wr => Chg 0 0 w wr ∧ ∃ k : Nat, k ≤ ps.length ∧ i = .int .i64 k) (fun i _ => ps.length - (intOf i).toNat)
  case atStart => exact ⟨Chg.refl _ _ _, 0, Nat.zero_le _, rfl⟩
  case round =>
    obtain ⟨hch, k, hk, rfl⟩ := hrel
    by_cases hlt : k < ps.length
    · obtain ⟨d1, c1, c2, c3, v1⟩ := h1 k hlt
      obtain ⟨d2, c4, c5, c6, v2⟩ := h2 k hlt
      clear h1 h2
      generalize (ps.getD k Opx.zero).1 = q at *
      generalize (ps.getD k Opx.zero).2.1 = p at *
      generalize (ps.getD k Opx.zero).2.2 = xs at *
      have c1 := hch.cell c1 (by omega)
      have c2 := hch.cell c2 (by omega)
      have c3 := hch.cell c3 (by omega)
      have c4 := hch.cell c4 (by omega)
      have c5 := hch.cell c5 (by omega)
      have c6 := hch.cell c6 (by omega)
      have v1 := v1.chg hch (by omega)
      have v2 := v2.chg hch (by omega)
      have hi : (k : Int) < (ps.length : Int) := by omega
      go_wp2
      go_region_with (go_at_call 14; refine (eqOp_calls _ q p (v1.chg (Chg.drew (Chg.refl 0 0 _)) (by omega)) (v2.chg (Chg.drew (Chg.refl 0 0 _)) (by omega))).mono ?_; rintro e w1 ⟨rfl, hs⟩)
      all_goals
        have hch' : Chg 0 0 w w1 := hch.drew.trans hs
        clear hs hch
        go_wp2
        go_roundw
        case rel => exact ⟨hch', k + 1, by omega, by go_num⟩
        case measure => simp [intOf]; omega
    · clear h1 h2
      go_wp2
      go_ret
      exact ⟨rfl, hch⟩

set_option maxRecDepth 20000 in
set_option maxHeartbeats 400000 in
theorem eqOpS_none (w : World) (ao bo : Option Addr) (cap cap' : Nat) :
    Calls Tryz.prog 7 #[.slice ao 0 cap, .slice bo 0 cap'] w fun e w' => e = .returned (.bool true) ∧ Chg 0 0 w w' := by
  go_enter Tryz.func7, Tryz.ntmps7
  go_wp2
  refine wp_loop_rounds 1 ?_; rw [rounds_succ]
  go_wp2
  go_ret
  exact ⟨rfl, Chg.refl _ _ _⟩

theorem eqOpS_calls (w : World) {lo hi lo' hi' : Nat} {a b : Value} {ps : List Opx} (h1 : OView w lo hi a ps) (h2 : OView w lo' hi' b ps) :
    Calls Tryz.prog 7 #[a, b] w fun e w' => e = .returned (.bool true) ∧ Chg 0 0 w w' := by
  obtain ⟨ao, cap, rfl, hl, _, h1⟩ := h1
  obtain ⟨bo, cap', rfl, _, _, h2⟩ := h2
  rcases h1 with rfl | ⟨x, off, rfl, _, _, h1⟩
  · exact eqOpS_none w ao bo cap cap'
  · rcases h2 with rfl | ⟨y, off', rfl, _, _, h2⟩
    · exact eqOpS_none w _ bo cap cap'
    · exact eqOpS_some w ps lo hi lo' hi' x off y off' cap cap' hl h1 h2

end Go.Proofs.YtkegadjdlkfabaaGreatDoor

namespace Go.Proofs.YtkegadjdlkfabaaGreatDoor
open Go.ChangeShapes Go.WideShapes Go.ChangeAt Go.RowKit Go.Joins

theorem array5 {α : Type} {cs : Array α} (h : cs.size = 5) : ∃ c0 c1 c2 c3 c4, cs = #[c0, c1, c2, c3, c4] := by
  obtain ⟨l⟩ := cs
  match l, h with
  | [c0, c1, c2, c3, c4], _ => exact ⟨c0, c1, c2, c3, c4, rfl⟩

set_option maxRecDepth 20000 in
theorem log_of_trod {H : Type} {enc : TypeId × Value → H} {W : World} {base : Nat} {v : Value} {dd : DataW H} {p : List MemPlace} (hv : Value.okWide Tryz.prog W .any base 23 v)
    (h : DataW.Trod enc Tryz.prog W 0 (fun _ => true) true 23 v dd p) : ∃ sz st sq hd us : Int, v = .agg #[.int .i64 sz, .int .i64 st, .int .i64 sq, .int .i64 hd, .int .i64 us] := by
  obtain ⟨cs, rfl, hsz⟩ := okWide_struct Tryz.underlying23 hv
  obtain ⟨c0, c1, c2, c3, c4, rfl⟩ := array5 (hsz.trans (by kernel_rfl))
  obtain ⟨fuel, hf⟩ := h
  obtain ⟨xs, n, _, _, _, hlen, hx⟩ := DataW.trod_struct Tryz.underlying23 hf
  match xs, hlen with
  | [y0, y1, y2, y3, y4], _ =>
  have hc : Tryz.prog.cellsOf 2 = 1 := by kernel_rfl
  have t0 := hx 0 _ rfl
  have t1 := hx 1 _ rfl
  have t2 := hx 2 _ rfl
  have t3 := hx 3 _ rfl
  have t4 := hx 4 _ rfl
  obtain ⟨q0, h0, _⟩ := DataW.trod_int Tryz.underlying2 t0
  obtain ⟨q1, h1, _⟩ := DataW.trod_int Tryz.underlying2 t1
  obtain ⟨q2, h2, _⟩ := DataW.trod_int Tryz.underlying2 t2
  obtain ⟨q3, h3, _⟩ := DataW.trod_int Tryz.underlying2 t3
  obtain ⟨q4, h4, _⟩ := DataW.trod_int Tryz.underlying2 t4
  simp [hc, Value.cells] at h0 h1 h2 h3 h4
  exact ⟨q0, q1, q2, q3, q4, by rw [h0, h1, h2, h3, h4]⟩

end Go.Proofs.YtkegadjdlkfabaaGreatDoor

namespace Go.Proofs.YtkegadjdlkfabaaGreatDoor
open Go.ChangeShapes Go.WideShapes Go.ChangeAt Go.RowKit
theorem own : ownKnob Tryz.prog.godebug = none := by kernel_rfl
theorem laidOut : laidOutB Tryz.prog = true := by kernel_rfl
end Go.Proofs.YtkegadjdlkfabaaGreatDoor

namespace Go.Proofs.YtkegadjdlkfabaaGreatDoor
open Go.ChangeShapes Go.WideShapes Go.RowKit

theorem lg_et : Tryz.prog.globalNamed "errors.errorType" = some 1 := by kernel_rfl
theorem lg_rt : (Tryz.prog.cutTypes.find? (·.1 == "internal/reflectlite.rtype")).map (·.2) = some 89 := by kernel_rfl
theorem lg_oneRow : ((List.range 178).filter fun t => Tryz.prog.rowNamed t [101, 114, 114, 111, 114]) = [64] := by kernel_rfl
theorem lg_size : Tryz.prog.types.size = 178 := by kernel_rfl

theorem lg_star : "*" ++ "errors.errorString" = "*errors.errorString" := by decide
theorem lg_row (u : TypeId) (h : Tryz.prog.typeName? 3 u = some "*errors.errorString") : u = 160 :=
  typeName_ptr_named (nm := "errors.errorString") (by rw [lg_star]; kernel_rfl) (by kernel_rfl) (by decide) u (by rw [lg_star]; exact h)

/-- The handle. -/
theorem errT_of_handles {W : World} {hs : List (String × DataW Unit)} (h : handlesMet Tryz.prog hs W) (hm : ("errors.errorType", Rows.laid_errors_errorType) ∈ hs) : ErrT W := by
  have hx := h _ hm
  simp only at hx
  obtain ⟨name, u, ty, e1, e2, e3, e4, e5⟩ := hx
  have en : name = [101, 114, 114, 111, 114] := (Option.some.inj e1).symm
  subst en
  obtain rfl := Option.some.inj (lg_rt.symm.trans e2)
  have hmm : ty ∈ (List.range 178).filter fun t => Tryz.prog.rowNamed t [101, 114, 114, 111, 114] := List.mem_filter.2 ⟨List.mem_range.2 (by rw [← lg_size]; exact e3), e4⟩
  rw [lg_oneRow] at hmm
  obtain rfl := List.mem_singleton.1 hmm
  have hh : typeHandle Tryz.prog 64 = .pointer (some ⟨3, 64, none⟩) := by kernel_rfl
  rw [hh] at e5
  simpa [ErrT] using World.var?_cell lg_et e5 0

/-- A sentinel. -/
theorem sent_of_laid {W : World} {n : String} {text : List UInt8} {r : List (String × DataW Unit)} {g : Nat} (h : laidMet Tryz.prog ((n, .iface "*errors.errorString" (.ptr (.agg [.lit (.string text)]))) :: r) W)
    (hg : Tryz.prog.globalNamed n = some g) (ht : (Tryz.prog.globals[g]?).map (·.type) = some 64) : ∃ a, W.cell? ⟨g, 0, none⟩ = some (.iface 160 (.pointer (some a))) := by
  obtain ⟨a, s, hv, _⟩ := laid_sentinel h hg ht Tryz.underlying64 lg_row Tryz.underlying160 Tryz.underlying166 rfl rfl Tryz.underlying9 (by kernel_rfl) (by kernel_rfl)
  exact ⟨a, by simpa using World.var?_cell hg hv 0⟩

/-- The magic. -/
theorem magic_of_laid {W : World} {r : List (String × DataW Unit)} (h : laidMet Tryz.prog (("loop.example/s01525/impl.journalMagic", .agg [.lit (.int .u8 106), .lit (.int .u8 108), .lit (.int .u8 111), .lit (.int .u8 103)]) :: r) W) :
    W.cell? ⟨0, 0, none⟩ = some (.int .u8 106) ∧ W.cell? ⟨0, 1, none⟩ = some (.int .u8 108) ∧ W.cell? ⟨0, 2, none⟩ = some (.int .u8 111) ∧ W.cell? ⟨0, 3, none⟩ = some (.int .u8 103) := by
  obtain ⟨ps, ⟨g0, t0, cs0, f0, p0, q0, hg0, ht0, hv0, hd0, _, _⟩, _, _⟩ := h
  have eg : Tryz.prog.globalNamed "loop.example/s01525/impl.journalMagic" = some 0 := by kernel_rfl
  obtain rfl := Option.some.inj (eg.symm.trans hg0)
  have et : (Tryz.prog.globals[(0 : Nat)]?).map (·.type) = some 51 := by kernel_rfl
  obtain rfl := Option.some.inj (et.symm.trans ht0)
  obtain ⟨xs, m, _, ex, hl, hn, hi⟩ := DataW.trod_array Tryz.underlying51 hd0
  have c1 : Tryz.prog.cellsOf 5 = 1 := by kernel_rfl
  rw [c1] at hi
  simp only [Nat.mul_one] at hi
  have hx : (xs.map (·.1)) = [.lit (.int .u8 106), .lit (.int .u8 108), .lit (.int .u8 111), .lit (.int .u8 103)] := by
    have := congrArg Prod.fst ex
    simpa using this.symm
  have cell : ∀ i n, i < 4 → (xs.map (·.1))[i]? = some (.lit (.int .u8 n)) → cs0[i]? = some (.int .u8 n) := by
    intro i n h4 hxi
    rw [List.getElem?_map] at hxi
    cases hxe : xs[i]? with
    | none => rw [hxe] at hxi; cases hxi
    | some x =>
      rw [hxe] at hxi
      have h1 := hi i h4
      rw [hxe] at h1
      obtain ⟨k, ek, ed, _⟩ := DataW.trod_int Tryz.underlying5 h1
      simp only [Option.map_some, Option.some.injEq] at hxi
      rw [ed] at hxi
      simp only [DataW.lit.injEq, Lit.int.injEq, true_and] at hxi
      have h0 : ((cs0.toList.drop i).take 1)[0]? = some (.int .u8 k) := by rw [ek]; rfl
      rw [List.getElem?_take, if_pos (by omega), List.getElem?_drop, Nat.add_zero, Array.getElem?_toList] at h0
      rw [h0, hxi]
  have v := fun i => World.var?_cell hg0 hv0 i
  refine ⟨?_, ?_, ?_, ?_⟩
  · rw [v 0]; exact cell 0 106 (by omega) (by rw [hx]; rfl)
  · rw [v 1]; exact cell 1 108 (by omega) (by rw [hx]; rfl)
  · rw [v 2]; exact cell 2 111 (by omega) (by rw [hx]; rfl)
  · rw [v 3]; exact cell 3 103 (by omega) (by rw [hx]; rfl)

end Go.Proofs.YtkegadjdlkfabaaGreatDoor
