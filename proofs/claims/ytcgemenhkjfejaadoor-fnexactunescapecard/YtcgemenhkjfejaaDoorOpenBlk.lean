/- openBlock of the program. -/
import Derived.Test.YtcgemenhkjfejaaDoorRowZ
import Derived.Test.YtcgemenhkjfejaaDoorHead
import Derived.Test.YtcgemenhkjfejaaDoorHeld
import Derived.Test.YtcgemenhkjfejaaDoorCells2
import Derived.Test.YtcgemenhkjfejaaDoorMg
import Derived.Deep.RegionWith
import Derived.Deep.DeepCutAuto
namespace Go.Proofs.YtcgemenhkjfejaaDoor
open Go.RowKit

/-- The package's variables, as they lie in memory. -/
structure Glob (w : World) (tL tM tK : TypeId) (vL vM vK : Value) : Prop where
  eL : w.cell? ⟨0, 0, none⟩ = some (.iface tL vL)
  eM : w.cell? ⟨2, 0, none⟩ = some (.iface tM vM)
  eK : w.cell? ⟨3, 0, none⟩ = some (.iface tK vK)
  m0 : w.cell? ⟨1, 0, none⟩ = some (.int .u8 106)
  m1 : w.cell? ⟨1, 1, none⟩ = some (.int .u8 108)
  m2 : w.cell? ⟨1, 2, none⟩ = some (.int .u8 111)
  m3 : w.cell? ⟨1, 3, none⟩ = some (.int .u8 103)

theorem Glob.chg {w w' : World} {tL tM tK : TypeId} {vL vM vK : Value} {lo hi : Nat} (h : Glob w tL tM tK vL vM vK) (c : Chg lo hi w w') (hlo : hi ≤ lo ∨ 4 ≤ lo) : Glob w' tL tM tK vL vM vK :=
  ⟨c.cell h.eL (by omega), c.cell h.eM (by omega), c.cell h.eK (by omega), c.cell h.m0 (by omega), c.cell h.m1 (by omega), c.cell h.m2 (by omega), c.cell h.m3 (by omega)⟩

/-- An error that wraps another one. -/
def Wraps (w : World) (lo : Nat) (ev : Value) (t : TypeId) (v : Value) : Prop := ∃ b k, lo ≤ b ∧ ev = .iface 53 (.pointer (some ⟨b, 0, none⟩)) ∧ FaultAt w b k (.iface t v)

theorem Wraps.chg {w w' : World} {lo l r : Nat} {ev : Value} {t : TypeId} {v : Value} (h : Wraps w lo ev t v) (c : Chg l r w w') (e : r ≤ l ∨ r ≤ lo) : Wraps w' lo ev t v := by
  obtain ⟨b, k, hb, he, hf⟩ := h
  exact ⟨b, k, hb, he, (c.block b (Array.getElem?_eq_some_iff.1 hf).1 (by omega)).trans hf⟩

theorem results_bhe {P : Program} {fn : Func} {p1 p2 p3 : Tmp} {t1 t2 : TypeId} {w : World} {tmps : Array Value} {a1 a2 : Addr} {v1 v2 v3 : Value} (h : fn.results = #[.cell p1 t1, .cell p2 t2, .tmp p3]) (h1 : tmps.getD p1 undef = .pointer (some a1)) (h2 : tmps.getD p2 undef = .pointer (some a2)) (h3 : tmps.getD p3 undef = v3)
    (hl1 : (loadVar t1 a1).run P w = .ok v1 w) (hl2 : (loadVar t2 a2).run P w = .ok v2 w) : (results fn tmps).run P w = .ok (.tuple #[v1, v2, v3]) w := by
  have h1' : tmps[p1]?.getD undef = .pointer (some a1) := by simpa using h1
  have h2' : tmps[p2]?.getD undef = .pointer (some a2) := by simpa using h2
  have h3' : tmps[p3]?.getD undef = v3 := by simpa using h3
  simp only [results, h]
  simp [asAddr, h1', h2', h3', hl1, hl2]

/-- The cells of a block. -/
def Blk (L : List Value) : Prop := L.length = 64 ∧ ∀ v ∈ L, v.oneCell' = true

abbrev z7 : List Value := [.int .u8 0, .int .u8 0, .int .u8 0, .int .u8 0, .int .i64 0, .int .i64 0, .int .i64 0]

set_option maxRecDepth 20000 in
set_option maxHeartbeats 4000000 in
theorem openBlock_short (w : World) {lo hi : Nat} {a : Value} {xs : List Int} {tL tM tK : TypeId} {vL vM vK : Value} (h1 : View w lo hi .u8 a xs) (hG : Glob w tL tM tK vL vM vK) (hx : xs.length ≠ 64) :
    Calls Tryd.prog 16 #[a] w fun e w' => ∃ ev, e = .returned (.tuple #[.agg Z64.toArray, .agg z7.toArray, ev]) ∧ Wraps w' w.heap.size ev tL vL ∧ Chg 0 0 w w' := by
  obtain ⟨ao, cap, rfl, hl, _, _⟩ := h1
  have hne : ((xs.length : Int) != 64) = true := by simp; omega
  clear hx
  go_enter Tryd.func16, Tryd.ntmps16
  go_upto_region 1 with fail
  simp only [Z64_eq]
  obtain ⟨z1, z2, z3⟩ := alloc2 w (.cells Z64.toArray 33) (.cells z7.toArray 36)
  have hA : Chg 0 0 w ((w.alloc (.cells Z64.toArray 33)).alloc (.cells z7.toArray 36)) := (Chg.alloc (Chg.refl 0 0 w) _).alloc _
  generalize (w.alloc (.cells Z64.toArray 33)).alloc (.cells z7.toArray 36) = wa at *
  have eL := (hG.chg hA (by omega)).eL
  clear hG
  go_wp2_with fail
  simp only [Z64_eq]
  refine (faultOf_calls _ 0 tL vL).mono ?_
  rintro e w1 ⟨rfl, hF, hC⟩
  have s1 := hC.size
  have B0 := (hC.block w.heap.size (by omega) (by omega)).trans z2
  have B1 := (hC.block (w.heap.size + 1) (by omega) (by omega)).trans z3
  have HB0 : Hid (w1.heap[w.heap.size]? = some (.cells Z64.toArray 33 (0, 0))) := B0
  have HB1 : Hid (w1.heap[w.heap.size + 1]? = some (.cells z7.toArray 36 (0, 0))) := B1
  have HC : Hid (Chg 0 0 w w1) := hA.trans hC
  have HF : Hid (FaultAt w1 wa.heap.size 0 (.iface tL vL)) := hF
  clear hC hA hF z2 z3 B0 B1
  have hi28 : (Tryd.prog.info? 33).map (·.size) = some Z64.length := by rw [Z64_length]; kernel_rfl
  go_wp2_with (first
    | (refine wpList_store_row rfl 33 (.tmp 2) (.tmp 10) rfl rfl w.heap.size rfl Z64 Z64 33 rfl HB0.out rfl hi28 Z64_one ?_; intro w2 hb2 hc2)
    | (refine wpList_store_row rfl 36 (.tmp 3) (.tmp 11) rfl rfl (w.heap.size + 1) rfl z7 z7 36 rfl ((hc2.block (w.heap.size + 1) (by omega) (by omega)).trans HB1.out) rfl (by kernel_rfl) (by simp [Value.oneCell']) ?_; intro w3 hb3 hc3))
  have s2 := hc2.size
  have s3 := hc3.size
  have hl1 : (loadVar 33 ⟨w.heap.size, 0, none⟩).run Tryd.prog w3 = .ok (.agg Z64.toArray) w3 := run_loadVar_mid _ _ _ _ Z64 _ (row_rng ((hc3.block w.heap.size (by omega) (by omega)).trans hb2)) Tryd.underlying33 rfl hi28
  have hl2 : (loadVar 36 ⟨w.heap.size + 1, 0, none⟩).run Tryd.prog w3 = .ok (.agg z7.toArray) w3 := run_loadVar_mid _ _ _ _ z7 _ (row_rng hb3) Tryd.underlying36 rfl (by kernel_rfl)
  have cz : Chg w.heap.size (w.heap.size + 2) w1 w3 := (hc2.widen (by omega) (by omega)).trans (hc3.widen (by omega) (by omega))
  refine bodyPost_ret (v := .tuple #[.agg Z64.toArray, .agg z7.toArray, .iface 53 (.pointer (some ⟨w.heap.size + 2, 0, none⟩))]) (results_bhe Tryd.results16 rfl rfl rfl hl1 hl2) rfl ⟨_, rfl, ⟨w.heap.size + 2, 0, by omega, rfl, ?_⟩, HC.out.step cz (by omega)⟩
  have hF := HF.out
  rw [z1] at hF
  exact (cz.block _ (Array.getElem?_eq_some_iff.1 hF).1 (by omega)).trans hF

end Go.Proofs.YtcgemenhkjfejaaDoor
