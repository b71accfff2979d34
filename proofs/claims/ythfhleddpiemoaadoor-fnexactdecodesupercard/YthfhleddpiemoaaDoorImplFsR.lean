/- readSystem, DecodeSuper of the program. (made by tools/mkread.py) -/
import Derived.Test.YthfhleddpiemoaaDoorImplFs
import Derived.Test.YthfhleddpiemoaaDoorFsDec
import Derived.Test.YthfhleddpiemoaaDoorArrEq
namespace Go.Proofs.YthfhleddpiemoaaDoor
open Go.RowKit

/-- What lies in memory while a superblock is read. -/
structure Rd (w x : World) (cs : List Value) (f0 f1 f2 : Int) : Prop where
  b0 : x.heap[w.heap.size]? = some (.cells cs.toArray 37 (0, 0))
  b1 : x.heap[w.heap.size + 1]? = some (.cells #[.int .i64 0, .int .i64 0, .int .i64 0] 24 (0, 0))
  b2 : x.heap[w.heap.size + 1 + 1]? = some (.cells #[.int .i64 f0, .int .i64 f1, .int .i64 f2] 43 (0, 0))
  ch : Chg 0 0 w x
theorem Rd.lt {w x : World} {cs : List Value} {f0 f1 f2 : Int} (h : Rd w x cs f0 f1 f2) : w.heap.size + 1 + 1 < x.heap.size := (Array.getElem?_eq_some_iff.1 h.b2).1
theorem Rd.chg {w x y : World} {cs : List Value} {f0 f1 f2 : Int} (h : Rd w x cs f0 f1 f2) (c : Chg 0 0 x y) : Rd w y cs f0 f1 f2 :=
  have := h.lt
  ⟨(c.block _ (by omega) (by omega)).trans h.b0, (c.block _ (by omega) (by omega)).trans h.b1, (c.block _ (by omega) (by omega)).trans h.b2, h.ch.trans c⟩
theorem Rd.put {w x y : World} {cs : List Value} {f0 f1 f2 g0 g1 g2 : Int} (h : Rd w x cs f0 f1 f2) (c : Chg (w.heap.size + 1 + 1) (w.heap.size + 1 + 1 + 1) x y) (hb : y.heap[w.heap.size + 1 + 1]? = some (.cells #[.int .i64 g0, .int .i64 g1, .int .i64 g2] 43 (0, 0))) : Rd w y cs g0 g1 g2 :=
  have := h.lt
  ⟨(c.block _ (by omega) (by omega)).trans h.b0, (c.block _ (by omega) (by omega)).trans h.b1, hb, h.ch.step c (by omega)⟩

set_option maxRecDepth 20000 in
set_option maxHeartbeats 4000000 in
theorem readSystem_calls (w : World) (xs : List Int) (hx : xs.length = 64) (hB : Byt xs) (hm : SysM w) :
    Calls Tryd.prog 12 #[.agg (xs.map (Value.int .u8)).toArray] w fun e w' =>
      e = .returned (.tuple #[geoV (sG xs 6) (sG xs 8) (sG xs 10), .bool (decide (encSup (sG xs 6) (sG xs 8) (sG xs 10) = xs))]) ∧ Chg 0 0 w w' := by
  have Hx : Hid (xs.length = 64) := hx
  have HBy : Hid (Byt xs) := hB
  have HM : Hid (SysM w) := hm
  obtain ⟨cs, hcs⟩ : ∃ cs, cs = xs.map (Value.int .u8) := ⟨_, rfl⟩
  have Hcs : Hid (cs = xs.map (Value.int .u8)) := hcs
  have L1 : cs.length = 64 := by rw [hcs, List.length_map]; exact hx
  have hi28 : (Tryd.prog.info? 37).map (·.size) = some cs.length := by rw [L1]; kernel_rfl
  rw [← hcs]
  have HR0 : Hid (Rd w (((w.alloc (.cells cs.toArray 37)).alloc (.cells #[.int .i64 0, .int .i64 0, .int .i64 0] 24)).alloc (.cells #[.int .i64 0, .int .i64 0, .int .i64 0] 43)) cs 0 0 0) := by
    obtain ⟨z1, z2, z3, z4⟩ := alloc3 w (.cells cs.toArray 37) (.cells #[.int .i64 0, .int .i64 0, .int .i64 0] 24) (.cells #[.int .i64 0, .int .i64 0, .int .i64 0] 43)
    exact ⟨z2, z3, z4, ((Chg.alloc (Chg.refl 0 0 w) _).alloc _).alloc _⟩
  have HG : Hid (∀ (W : World) (k : Nat), W.heap[w.heap.size]? = some (.cells cs.toArray 37 (0, 0)) → k + 2 ≤ 64 → Calls Tryd.prog 19 #[.slice (some ⟨w.heap.size, k, none⟩) 2 (64 - k)] W fun e w' => e = .returned (.int .i64 (sG xs k)) ∧ Same W w') := by
    intro W k h hk
    rw [Hcs.out] at h
    exact implGet_calls W (HBy.out.part k 2) (row_view h k 2 (64 - k) (by rw [Hx.out]; exact hk) (by rw [Hx.out]; decide) (by omega))
  obtain ⟨B, HBv⟩ : ∃ B, Hid (sG xs 6 = B) := ⟨_, rfl⟩
  obtain ⟨L, HLv⟩ : ∃ L, Hid (sG xs 8 = L) := ⟨_, rfl⟩
  obtain ⟨N, HNv⟩ : ∃ N, Hid (sG xs 10 = N) := ⟨_, rfl⟩
  rw [HBv.out, HLv.out, HNv.out]
  have G0 := fun W h => HG.out W 6 h (by omega)
  have G1 := fun W h => HG.out W 8 h (by omega)
  have G2 := fun W h => HG.out W 10 h (by omega)
  rw [HBv.out] at G0
  rw [HLv.out] at G1
  rw [HNv.out] at G2
  have HG0 : Hid (∀ W : World, W.heap[w.heap.size]? = some (.cells cs.toArray 37 (0, 0)) → Calls Tryd.prog 19 #[.slice (some ⟨w.heap.size, 6, none⟩) 2 58] W fun e w' => e = .returned (.int .i64 B) ∧ Same W w') := G0
  have HG1 : Hid (∀ W : World, W.heap[w.heap.size]? = some (.cells cs.toArray 37 (0, 0)) → Calls Tryd.prog 19 #[.slice (some ⟨w.heap.size, 8, none⟩) 2 56] W fun e w' => e = .returned (.int .i64 L) ∧ Same W w') := G1
  have HG2 : Hid (∀ W : World, W.heap[w.heap.size]? = some (.cells cs.toArray 37 (0, 0)) → Calls Tryd.prog 19 #[.slice (some ⟨w.heap.size, 10, none⟩) 2 54] W fun e w' => e = .returned (.int .i64 N) ∧ Same W w') := G2
  clear hx hB hm hcs L1 G0 G1 G2 HG
  go_enter Tryd.func12, Tryd.ntmps12
  go_wp2
  generalize (((w.alloc (.cells cs.toArray 37)).alloc (.cells #[.int .i64 0, .int .i64 0, .int .i64 0] 24)).alloc (.cells #[.int .i64 0, .int .i64 0, .int .i64 0] 43)) = wa at *
  go_loopw [8] (fun x wr => (x = .int .i64 0 ∧ Rd w wr cs 0 0 0) ∨ (x = .int .i64 1 ∧ Rd w wr cs B 0 0) ∨ (x = .int .i64 2 ∧ Rd w wr cs B L 0) ∨ (x = .int .i64 3 ∧ Rd w wr cs B L N)) (fun x _ => 3 - (intOf x).toNat)
  case atStart => exact Or.inl ⟨rfl, HR0.out⟩
  case round =>
    clear HR0
    rcases hrel with ⟨rfl, hr⟩ | ⟨rfl, hr⟩ | ⟨rfl, hr⟩ | ⟨rfl, hr⟩
    · have HR : Hid (Rd w wr cs 0 0 0) := hr
      have hN := HG0.out wr HR.out.b0
      clear hr
      go_wp2_with fail
      refine hN.mono ?_
      rintro e w2 ⟨rfl, h2⟩
      have HR2 : Hid (Rd w w2 cs 0 0 0) := HR.out.chg (h2.chg 0 0)
      have hb2 := HR2.out.b2
      have c1 : w2.cell? ⟨w.heap.size + 1 + 1, 0, none⟩ = some (.int .i64 0) := by simp [World.cell?, hb2]
      have c2 : w2.frozen? ⟨w.heap.size + 1 + 1, 0, none⟩ = false := by simp [World.frozen?, hb2]
      have HR3 : Hid (Rd w (w2.setCell ⟨w.heap.size + 1 + 1, 0, none⟩ (.int .i64 B)) cs B 0 0) := by
        show Rd _ _ _ _ _ _
        refine HR2.out.put (Chg.setCell (p := ⟨w.heap.size + 1 + 1, 0, none⟩) (Chg.refl _ _ w2) (Or.inl ⟨Nat.le_refl _, Nat.lt_succ_self _⟩) _) ?_
        have := HR2.out.lt
        simp [World.setCell, hb2, Array.getElem?_modify]
      clear hN h2 hb2 HR HR2
      go_wp2
      go_roundw
      case rel => exact Or.inr (Or.inl ⟨rfl, HR3.out⟩)
      case measure => simp [intOf]
    · have HR : Hid (Rd w wr cs B 0 0) := hr
      have hN := HG1.out wr HR.out.b0
      clear hr
      go_wp2_with fail
      refine hN.mono ?_
      rintro e w2 ⟨rfl, h2⟩
      have HR2 : Hid (Rd w w2 cs B 0 0) := HR.out.chg (h2.chg 0 0)
      have hb2 := HR2.out.b2
      have c1 : w2.cell? ⟨w.heap.size + 1 + 1, 1, none⟩ = some (.int .i64 0) := by simp [World.cell?, hb2]
      have c2 : w2.frozen? ⟨w.heap.size + 1 + 1, 1, none⟩ = false := by simp [World.frozen?, hb2]
      have HR3 : Hid (Rd w (w2.setCell ⟨w.heap.size + 1 + 1, 1, none⟩ (.int .i64 L)) cs B L 0) := by
        show Rd _ _ _ _ _ _
        refine HR2.out.put (Chg.setCell (p := ⟨w.heap.size + 1 + 1, 1, none⟩) (Chg.refl _ _ w2) (Or.inl ⟨Nat.le_refl _, Nat.lt_succ_self _⟩) _) ?_
        have := HR2.out.lt
        simp [World.setCell, hb2, Array.getElem?_modify]
      clear hN h2 hb2 HR HR2
      go_wp2
      go_roundw
      case rel => exact Or.inr (Or.inr (Or.inl ⟨rfl, HR3.out⟩))
      case measure => simp [intOf]
    · have HR : Hid (Rd w wr cs B L 0) := hr
      have hN := HG2.out wr HR.out.b0
      clear hr
      go_wp2_with fail
      refine hN.mono ?_
      rintro e w2 ⟨rfl, h2⟩
      have HR2 : Hid (Rd w w2 cs B L 0) := HR.out.chg (h2.chg 0 0)
      have hb2 := HR2.out.b2
      have c1 : w2.cell? ⟨w.heap.size + 1 + 1, 2, none⟩ = some (.int .i64 0) := by simp [World.cell?, hb2]
      have c2 : w2.frozen? ⟨w.heap.size + 1 + 1, 2, none⟩ = false := by simp [World.frozen?, hb2]
      have HR3 : Hid (Rd w (w2.setCell ⟨w.heap.size + 1 + 1, 2, none⟩ (.int .i64 N)) cs B L N) := by
        show Rd _ _ _ _ _ _
        refine HR2.out.put (Chg.setCell (p := ⟨w.heap.size + 1 + 1, 2, none⟩) (Chg.refl _ _ w2) (Or.inl ⟨Nat.le_refl _, Nat.lt_succ_self _⟩) _) ?_
        have := HR2.out.lt
        simp [World.setCell, hb2, Array.getElem?_modify]
      clear hN h2 hb2 HR HR2
      go_wp2
      go_roundw
      case rel => exact Or.inr (Or.inr (Or.inr (⟨rfl, HR3.out⟩)))
      case measure => simp [intOf]
    · have HR : Hid (Rd w wr cs B L N) := hr
      have hb2 := HR.out.b2
      have q0 : wr.cell? ⟨w.heap.size + 1 + 1, 0, none⟩ = some (.int .i64 B) := by simp [World.cell?, hb2]
      have q1 : wr.cell? ⟨w.heap.size + 1 + 1, 1, none⟩ = some (.int .i64 L) := by simp [World.cell?, hb2]
      have q2 : wr.cell? ⟨w.heap.size + 1 + 1, 2, none⟩ = some (.int .i64 N) := by simp [World.cell?, hb2]
      clear hr hb2
      go_upto_region 9 with fail
      clear q0 q1 q2
      have hlt := HR.out.lt
      have HR1 : Hid (Rd w (wr.alloc (.cells #[.int .i64 B, .int .i64 L, .int .i64 N] 24)) cs B L N) := HR.out.chg (Chg.alloc (Chg.refl 0 0 wr) _)
      have HGb : Hid ((wr.alloc (.cells #[.int .i64 B, .int .i64 L, .int .i64 N] 24)).heap[wr.heap.size]? = some (.cells #[.int .i64 B, .int .i64 L, .int .i64 N] 24 (0, 0))) := heap_new wr _
      generalize wr.alloc (.cells #[.int .i64 B, .int .i64 L, .int .i64 N] 24) = wb at *
      generalize wr.heap.size = M at *
      clear HR
      have hM2 : M < wb.heap.size := (Array.getElem?_eq_some_iff.1 HGb.out).1
      have HR2 : Hid (Rd w wb.drew cs B L N) := HR1.out.chg (Chg.drew (Chg.refl 0 0 wb))
      have HS : Hid ((fun w' : World => w'.heap[M]? = some (.cells #[.int .i64 B, .int .i64 L, .int .i64 N] 24 (0, 0)) ∧ w'.heap[w.heap.size]? = some (.cells cs.toArray 37 (0, 0))) wb.drew) := ⟨HGb.out, HR1.out.b0⟩
      have hMw : w.heap.size + 1 + 1 < M := by omega
      have hMx : M < wb.drew.heap.size := hM2
      clear HR1 HGb hM2
      refine held_region (fun w' : World => w'.heap[M]? = some (.cells #[.int .i64 B, .int .i64 L, .int .i64 N] 24 (0, 0)) ∧ w'.heap[w.heap.size]? = some (.cells cs.toArray 37 (0, 0))) (by kernel_rfl) ?_
      generalize wb.drew = x1 at *
      refine held_take 0 (geoV B L N) rfl (by kernel_rfl) (by kernel_rfl) (by kernel_rfl) (fun _ _ _ h => h) (.inl ⟨by kernel_rfl, fun w' hw' => by obtain ⟨q0, q1, q2⟩ := trio hw'.1; go_simp⟩) HS.out ?_
      go_simp
      refine held_take 1 (geoV B L N) rfl (by kernel_rfl) (by kernel_rfl) (by kernel_rfl) (fun _ _ _ h => h) (.inl ⟨by kernel_rfl, fun w' hw' => by obtain ⟨q0, q1, q2⟩ := trio hw'.1; go_simp⟩) HS.out ?_
      go_simp
      refine held_one 2 rfl rfl (by kernel_rfl) ?_
      refine wp_enter 20 #[geoV B L N] (by first | kernel_rfl | go_simp) (implValidGeometry_calls x1 B L N) ?_
      rintro e x2 ⟨rfl, c2⟩
      have HR3 : Hid (Rd w x2 cs B L N) := HR2.out.chg c2
      have HS2 : Hid ((fun w' : World => w'.heap[M]? = some (.cells #[.int .i64 B, .int .i64 L, .int .i64 N] 24 (0, 0)) ∧ w'.heap[w.heap.size]? = some (.cells cs.toArray 37 (0, 0))) x2) := ⟨(c2.block M (by omega) (by omega)).trans HS.out.1, HR3.out.b0⟩
      have hM2 : M < x2.heap.size := Nat.lt_of_lt_of_le hMx c2.size
      refine ⟨_, rfl, HS2.out, ?_⟩
      clear c2 HR2 HS hMx
      go_simp
      have HS := HS2
      by_cases hv : geoB B L N = true
      · have Henc : Hid (encSup B L N = fsL B L N) := if_pos hv
        have hNs := systemBlock_calls x2 B L N (geo_in hv) (HM.out.chg HR3.out.ch)
        have hEq := fun W => equal_bytes W 37 64 Tryd.underlying37 (xs := fsL B L N) (ys := xs) (fun x hx => encSup_byt B L N x (by rw [Henc.out]; exact hx)) HBy.out (fsL_len (geo_in hv)) Hx.out
        rw [hv]
        clear hv
        rw [← Hcs.out] at hEq
        obtain ⟨ds, Hds⟩ : ∃ ds, Hid ((fsL B L N).map (Value.int .u8) = ds) := ⟨_, rfl⟩
        rw [Hds.out] at hEq hNs
        obtain ⟨D, HD⟩ : ∃ D, Hid (decide (fsL B L N = xs) = D) := ⟨_, rfl⟩
        rw [HD.out] at hEq
        have HEq : Hid (∀ W : World, (Op.equalIn 10000 37 (.agg ds.toArray) (.agg cs.toArray)).run Tryd.prog W = .ok D W) := hEq
        clear hEq
        have Hres : Hid (decide (encSup B L N = xs) = D) := by rw [← HD.out, Henc.out]; rfl
        refine held_take 3 (.bool true) rfl (by kernel_rfl) (by kernel_rfl) (by kernel_rfl) (fun _ _ _ h => h) (.inl ⟨by kernel_rfl, fun w' hw' => by go_simp⟩) HS.out ?_
        go_simp
        refine held_take 4 (geoV B L N) rfl (by kernel_rfl) (by kernel_rfl) (by kernel_rfl) (fun _ _ _ h => h) (.inl ⟨by kernel_rfl, fun w' hw' => by obtain ⟨q0, q1, q2⟩ := trio hw'.1; go_simp⟩) HS.out ?_
        go_simp
        refine held_take 6 (.agg cs.toArray) rfl (by kernel_rfl) (by kernel_rfl) (by kernel_rfl) (fun _ _ _ h => h) (yieldsIf_load_mid (by kernel_rfl) 37 (.tmp 1) rfl w.heap.size 0 rfl cs _ (fun w' hw' => row_rng hw'.2) Tryd.underlying37 rfl hi28) HS.out ?_
        go_simp
        refine held_oneG 5 rfl (by kernel_rfl) (by kernel_rfl) ?_
        refine wp_enter 21 #[geoV B L N] (by first | kernel_rfl | go_simp) hNs ?_
        rintro e x3 ⟨rfl, c3⟩
        have HRc : Hid (Rd w x3 cs B L N) := HR3.out.chg c3
        have HS3 : Hid ((fun w' : World => w'.heap[M]? = some (.cells #[.int .i64 B, .int .i64 L, .int .i64 N] 24 (0, 0)) ∧ w'.heap[w.heap.size]? = some (.cells cs.toArray 37 (0, 0))) x3) := ⟨(c3.block M (by omega) (by omega)).trans HS.out.1, HRc.out.b0⟩
        have hM3 : M < x3.heap.size := Nat.lt_of_lt_of_le hM2 c3.size
        refine ⟨_, rfl, HS3.out, ?_⟩
        clear c3 HR3 HS HS2 hM2 hNs
        have HS := HS3
        go_simp
        refine held_take 7 (.bool D) rfl (by kernel_rfl) (by kernel_rfl) (by kernel_rfl) (fun _ _ _ h => h) (.inl ⟨by kernel_rfl, fun w' hw' => by have he := HEq.out w'; go_simp⟩) HS.out ?_
        go_simp
        refine held_take 8 (.bool D) rfl (by kernel_rfl) (by kernel_rfl) (by kernel_rfl) (fun _ _ _ h => h) (.inl ⟨by kernel_rfl, fun w' hw' => by go_simp⟩) HS.out ?_
        go_simp
        have hb1 := HRc.out.b1
        have hlc := HRc.out.lt
        refine held_one 9 rfl rfl (by kernel_rfl) ?_
        refine wp_store_row 24 (.tmp 2) (.tmp 29) rfl rfl (w.heap.size + 1) rfl [.int .i64 B, .int .i64 L, .int .i64 N] [.int .i64 0, .int .i64 0, .int .i64 0] 24 rfl hb1 rfl (by kernel_rfl) (by simp [Value.oneCell']) ?_
        intro wy hy cy
        have HSy : Hid ((fun w' : World => w'.heap[M]? = some (.cells #[.int .i64 B, .int .i64 L, .int .i64 N] 24 (0, 0)) ∧ w'.heap[w.heap.size]? = some (.cells cs.toArray 37 (0, 0))) wy) := ⟨(cy.block M (by omega) (by omega)).trans HS.out.1, (cy.block w.heap.size (by omega) (by omega)).trans HS.out.2⟩
        have HCy : Hid (Chg 0 0 w wy) := HRc.out.ch.step cy (by omega)
        have Hy : Hid (wy.heap[w.heap.size + 1]? = some (.cells #[.int .i64 B, .int .i64 L, .int .i64 N] 24 (0, 0))) := hy
        refine ⟨HSy.out, ?_⟩
        clear hy cy hb1
        go_simp
        refine held_one 10 rfl rfl (by kernel_rfl) ?_
        go_simp
        refine ⟨HSy.out, held_done (by kernel_rfl) (NoPanic.normal ?_)⟩
        obtain ⟨q0, q1, q2⟩ := trio Hy.out
        go_wp2
        refine bodyPost_ret (v := .tuple #[geoV B L N, .bool D]) (by simp [results, Tryd.results12, go_sem, *]) rfl ⟨by rw [Hres.out], HCy.out⟩
      · have Hres : Hid (decide (encSup B L N = xs) = false) := by
          show _ = _
          refine decide_eq_false (fun h => ?_)
          have : encSup B L N = [] := if_neg hv
          rw [this] at h
          have := Hx.out
          rw [← h] at this
          cases this
        rw [Bool.not_eq_true] at hv
        rw [hv]
        clear hv
        have HRc := HR3
        refine held_take 3 (.bool false) rfl (by kernel_rfl) (by kernel_rfl) (by kernel_rfl) (fun _ _ _ h => h) (.inl ⟨by kernel_rfl, fun w' hw' => by go_simp⟩) HS.out ?_
        go_simp
        refine held_take 4 (undef) rfl (by kernel_rfl) (by kernel_rfl) (by kernel_rfl) (fun _ _ _ h => h) (.inr ⟨by kernel_rfl, rfl⟩) HS.out ?_
        go_simp
        refine held_take 6 (undef) rfl (by kernel_rfl) (by kernel_rfl) (by kernel_rfl) (fun _ _ _ h => h) (.inr ⟨by kernel_rfl, rfl⟩) HS.out ?_
        go_simp
        refine held_take 5 (undef) rfl (by kernel_rfl) (by kernel_rfl) (by kernel_rfl) (fun _ _ _ h => h) (.inr ⟨by kernel_rfl, rfl⟩) HS.out ?_
        go_simp
        refine held_take 7 (undef) rfl (by kernel_rfl) (by kernel_rfl) (by kernel_rfl) (fun _ _ _ h => h) (.inr ⟨by kernel_rfl, rfl⟩) HS.out ?_
        go_simp
        refine held_take 8 (.bool false) rfl (by kernel_rfl) (by kernel_rfl) (by kernel_rfl) (fun _ _ _ h => h) (.inl ⟨by kernel_rfl, fun w' hw' => by go_simp⟩) HS.out ?_
        go_simp
        have hb1 := HRc.out.b1
        have hlc := HRc.out.lt
        refine held_one 9 rfl rfl (by kernel_rfl) ?_
        refine wp_store_row 24 (.tmp 2) (.tmp 29) rfl rfl (w.heap.size + 1) rfl [.int .i64 B, .int .i64 L, .int .i64 N] [.int .i64 0, .int .i64 0, .int .i64 0] 24 rfl hb1 rfl (by kernel_rfl) (by simp [Value.oneCell']) ?_
        intro wy hy cy
        have HSy : Hid ((fun w' : World => w'.heap[M]? = some (.cells #[.int .i64 B, .int .i64 L, .int .i64 N] 24 (0, 0)) ∧ w'.heap[w.heap.size]? = some (.cells cs.toArray 37 (0, 0))) wy) := ⟨(cy.block M (by omega) (by omega)).trans HS.out.1, (cy.block w.heap.size (by omega) (by omega)).trans HS.out.2⟩
        have HCy : Hid (Chg 0 0 w wy) := HRc.out.ch.step cy (by omega)
        have Hy : Hid (wy.heap[w.heap.size + 1]? = some (.cells #[.int .i64 B, .int .i64 L, .int .i64 N] 24 (0, 0))) := hy
        refine ⟨HSy.out, ?_⟩
        clear hy cy hb1
        go_simp
        refine held_one 10 rfl rfl (by kernel_rfl) ?_
        go_simp
        refine ⟨HSy.out, held_done (by kernel_rfl) (NoPanic.normal ?_)⟩
        obtain ⟨q0, q1, q2⟩ := trio Hy.out
        go_wp2
        refine bodyPost_ret (v := .tuple #[geoV B L N, .bool false]) (by simp [results, Tryd.results12, go_sem, *]) rfl ⟨by rw [Hres.out], HCy.out⟩

end Go.Proofs.YthfhleddpiemoaaDoor
