/- Several short texts in one: ImplRoot, ImplNew, ImplSuper. -/
import Derived.Test.YtmfkgnifkkkkiaaDoorWeak
import Derived.Test.YtmfkgnifkkkkiaaDoorInoEncP
import Derived.Test.YtmfkgnifkkkkiaaDoorRows
import Derived.Deep.DeepCutAuto
import Derived.Test.YtmfkgnifkkkkiaaDoorEncRow
import Derived.Deep.RegionWith
namespace Go.Proofs.YtmfkgnifkkkkiaaDoor
open Go.RowKit

/-- The first block of the table of inodes of a new disk. -/
def rootL : List Int := [2, 1] ++ List.replicate 62 0
def rootV : List Value := rootL.map (Value.int .u8)
theorem rootV_length : rootV.length = 64 := by unfold rootV; rfl

/-- The root's inode. -/
def rootNo : Ino := ⟨2, 1, 0, [0, 0, 0, 0, 0, 0, 0, 0], 0⟩
theorem rootNo_fits : Fits rootNo := ⟨by decide, by decide, by decide, rfl, by decide, by decide⟩
theorem rootNo_rec : recV rootNo = ([2, 1] ++ List.replicate 30 (0 : Int)).map (Value.int .u8) := by unfold recV; rfl
theorem rootNo_arr : (#[.int .i64 2, .int .i64 1, .int .i64 0, .int .i64 0, .int .i64 0, .int .i64 0, .int .i64 0, .int .i64 0, .int .i64 0, .int .i64 0, .int .i64 0, .int .i64 0] : Array Value) = (nC rootNo).toArray := rfl
theorem root_splice : splice Z64 0 (recV rootNo) = rootV := by
  rw [rootNo_rec]
  unfold Z64 rootV splice
  rfl

set_option maxRecDepth 20000 in
set_option maxHeartbeats 1000000 in
theorem rootBlock_calls (w : World) : Calls Tryd.prog 29 #[] w fun e w' => e = .returned (.agg rootV.toArray) ∧ Chg 0 0 w w' := by
  have hics : (Tryd.prog.info? 58).map (·.size) = some rootV.length := by rw [rootV_length]; kernel_rfl
  have h1c : ∀ v ∈ rootV, v.oneCell' = true := by unfold rootV; exact ints_oneCell _ _
  have u44 := Tryd.underlying58
  have Hlr : Hid (rootV.length = 64) := rootV_length
  have hrl : (recV rootNo).length = 32 := by rw [rootNo_rec]; rfl
  have Hrl : Hid ((recV rootNo).length = 32) := hrl
  have hicr : (Tryd.prog.info? 95).map (·.size) = some (recV rootNo).length := by rw [hrl]; exact Tryd.sizeRec
  have HV2 : Hid (∀ v ∈ recV rootNo, v.oneCell' = true) := by show ∀ v ∈ recV rootNo, v.oneCell' = true; unfold recV; exact ints_oneCell _ _
  have HSp : Hid (splice Z64 0 (recV rootNo) = rootV) := root_splice
  have hN4 := fun w' => encR_calls w' rootNo rootNo_fits
  rw [← rootNo_arr] at hN4
  generalize recV rootNo = rs at *
  clear hrl
  go_enter Tryd.func29, Tryd.ntmps29
  go_upto_region 1 with fail
  have hn := heap_new w (.cells Z64.toArray 58)
  simp only [Z64_eq]
  have hA : Chg 0 0 w (w.alloc (.cells Z64.toArray 58)) := Chg.alloc (Chg.refl 0 0 w) _
  generalize w.alloc (.cells Z64.toArray 58) = wa at *
  go_upto_region 3 with (first
    | (go_at_call 55; refine (hN4 _).mono ?_; clear hN4; rintro e w5 ⟨rfl, hc5⟩)
    | (refine wpList_store_row rfl 95 (.tmp 1) (.tmp 4) rfl rfl w5.heap.size rfl rs Z32b 95 rfl (by rw [← Z32b_eq]; exact heap_new w5 _) (by rw [Z32b_length]; exact Hrl.out) hicr HV2.out ?_; intro wh hbh hch))
  simp only [Z64_eq]
  have C5 := hA.trans hc5
  have C6 : Chg 0 0 w wh := C5.trans ((Chg.alloc (Chg.refl 0 0 w5) _).step hch (by omega))
  have hs5 : w5.heap.size < wh.heap.size := (Array.getElem?_eq_some_iff.1 hbh).1
  have hs0 : w.heap.size < w5.heap.size := Nat.lt_of_lt_of_le (Array.getElem?_eq_some_iff.1 hn).1 hc5.size
  have hr0 : wh.heap[w.heap.size]? = some (.cells Z64.toArray 58 (0, 0)) := by
    have h1 := (hc5.block _ (Array.getElem?_eq_some_iff.1 hn).1 (by omega)).trans hn
    exact (((Chg.alloc (Chg.refl 0 0 w5) _).step hch (by omega) : Chg 0 0 w5 wh).block _ hs0 (by omega)).trans h1
  have C7 : Chg 0 0 wh (wh.alloc (.cells Z64.toArray 58)) := Chg.alloc (Chg.refl 0 0 wh) _
  have HRt : Hid ((wh.alloc (.cells Z64.toArray 58)).drew.heap[w.heap.size]? = some (.cells Z64.toArray 58 (0, 0))) := (C7.block _ (by omega) (by omega)).trans hr0
  have HRec : Hid ((wh.alloc (.cells Z64.toArray 58)).drew.heap[w5.heap.size]? = some (.cells rs.toArray 95 (0, 0))) := (C7.block _ hs5 (by omega)).trans hbh
  have HBl : Hid ((wh.alloc (.cells Z64.toArray 58)).drew.heap[wh.heap.size]? = some (.cells Z64.toArray 58 (0, 0))) := heap_new wh _
  have HC : Hid (Chg 0 0 w (wh.alloc (.cells Z64.toArray 58)).drew) := (C6.trans C7).drew
  have HS0 : Hid ((fun _ : World => True) (wh.alloc (.cells Z64.toArray 58)).drew) := trivial
  clear C5 C6 C7 hr0 hbh hch hc5 hA hn
  refine held_region (fun _ : World => True) (by kernel_rfl) ?_
  generalize (wh.alloc (.cells Z64.toArray 58)).drew = x1 at *
  generalize w5.heap.size = M at *
  generalize wh.heap.size = N at *
  refine held_take 0 (.slice (some ⟨N, 0, none⟩) 64 64) rfl (by kernel_rfl) (by kernel_rfl) (by kernel_rfl) (fun _ _ _ h => h) (.inl ⟨by kernel_rfl, fun w' hw' => by go_simp⟩) HS0.out ?_
  go_simp
  refine held_take 1 (.slice (some ⟨M, 0, none⟩) 32 32) rfl (by kernel_rfl) (by kernel_rfl) (by kernel_rfl) (fun _ _ _ h => h) (.inl ⟨by kernel_rfl, fun w' hw' => by go_simp⟩) HS0.out ?_
  go_simp
  refine held_one 2 rfl rfl (by kernel_rfl) ?_
  refine wp_copy_row (.tmp 5) (.tmp 6) 24 24 rfl 5 Tryd.underlying24 (by kernel_rfl) N 0 64 64 ⟨M, 0, none⟩ 32 32 rfl rfl Z64 58 HBl.out rs (by rw [Hrl.out]; rfl) (fun j v hj => by
      rw [Addr.add_mid, Nat.zero_add]
      have h := HRec.out
      simp only [World.cell?, h]
      simpa using hj) (by rw [Hrl.out, Z64_length]; omega) HV2.out ?_
  intro x3 hb3 hc3
  have HB3 : Hid (x3.heap[N]? = some (.cells rootV.toArray 58 (0, 0))) := by show _ = _; rw [← HSp.out]; exact hb3.out
  have HC3 : Hid (Chg 0 0 w x3) := HC.out.step hc3 (by omega)
  have HR3 : Hid (x3.heap[w.heap.size]? = some (.cells Z64.toArray 58 (0, 0))) := (hc3.block _ (Array.getElem?_eq_some_iff.1 HRt.out).1 (by omega)).trans HRt.out
  refine ⟨trivial, ?_⟩
  clear hb3 hc3 HRt HRec HBl HC
  go_simp
  refine held_done (by kernel_rfl) (NoPanic.normal ?_)
  go_wp2_with (first
    | (refine wpList_load_mid rfl 58 (.tmp 2) rfl N 0 rfl rootV _ (row_rng HB3.out) u44 rfl hics ?_)
    | (refine wpList_store_row rfl 58 (.tmp 0) (.tmp 8) rfl rfl w.heap.size rfl rootV Z64 58 rfl HR3.out (by rw [Z64_length]; exact Hlr.out) hics h1c ?_; intro wg hbg hcg))
  have HCg : Hid (Chg 0 0 w wg) := HC3.out.step hcg (by omega)
  have hl1 : (loadVar 58 ⟨w.heap.size, 0, none⟩).run Tryd.prog wg = .ok (.agg rootV.toArray) wg := run_loadVar_mid _ _ _ _ rootV _ (row_rng hbg) u44 rfl hics
  go_wp2
  exact bodyPost_ret (v := .agg rootV.toArray) (results_one Tryd.results29 rfl hl1) rfl ⟨rfl, HCg.out⟩

end Go.Proofs.YtmfkgnifkkkkiaaDoor

namespace Go.Proofs.YtmfkgnifkkkkiaaDoor
open Go.RowKit

set_option maxRecDepth 20000 in
set_option maxHeartbeats 1000000 in
theorem newHeader_calls (w : World) (kd it sq : Int) (m0 : w.cell? ⟨1, 0, none⟩ = some (.int .u8 106)) (m1 : w.cell? ⟨1, 1, none⟩ = some (.int .u8 108)) (m2 : w.cell? ⟨1, 2, none⟩ = some (.int .u8 111)) (m3 : w.cell? ⟨1, 3, none⟩ = some (.int .u8 103)) :
    Calls Tryd.prog 49 #[.int .i64 kd, .int .i64 it, .int .i64 sq] w fun e w' => e = .returned (.agg #[.int .u8 106, .int .u8 108, .int .u8 111, .int .u8 103, .int .i64 kd, .int .i64 it, .int .i64 sq]) ∧ Chg 0 0 w w' := by
  have C0 : Chg 0 0 w (w.alloc (.cells #[.int .u8 0, .int .u8 0, .int .u8 0, .int .u8 0, .int .i64 0, .int .i64 0, .int .i64 0] 62)) := Chg.alloc (Chg.refl 0 0 w) _
  have n0 := C0.cell m0 (by omega)
  have n1 := C0.cell m1 (by omega)
  have n2 := C0.cell m2 (by omega)
  have n3 := C0.cell m3 (by omega)
  have HC : Hid (Chg 0 0 w (w.alloc (.cells #[.int .u8 106, .int .u8 108, .int .u8 111, .int .u8 103, .int .i64 kd, .int .i64 it, .int .i64 sq] 62))) := Chg.alloc (Chg.refl 0 0 w) _
  clear C0
  go_enter Tryd.func49, Tryd.ntmps49
  go_wp2
  exact bodyPost_ret (v := .agg #[.int .u8 106, .int .u8 108, .int .u8 111, .int .u8 103, .int .i64 kd, .int .i64 it, .int .i64 sq]) (by simp [results, Tryd.results49, go_sem]) rfl ⟨rfl, HC.out⟩

end Go.Proofs.YtmfkgnifkkkkiaaDoor

namespace Go.Proofs.YtmfkgnifkkkkiaaDoor
open Go.RowKit

set_option maxRecDepth 20000 in
set_option maxHeartbeats 2000000 in
theorem superOf_calls (w : World) (c s q : Int) (m0 : w.cell? ⟨1, 0, none⟩ = some (.int .u8 106)) (m1 : w.cell? ⟨1, 1, none⟩ = some (.int .u8 108)) (m2 : w.cell? ⟨1, 2, none⟩ = some (.int .u8 111)) (m3 : w.cell? ⟨1, 3, none⟩ = some (.int .u8 103)) :
    Calls Tryd.prog 24 #[.agg #[.int .i64 c, .int .i64 s, .int .i64 q]] w fun e w' => e = .returned (.agg #[.int .u8 106, .int .u8 108, .int .u8 111, .int .u8 103, .int .i64 1, .int .i64 c, .int .i64 q, .int .i64 s]) ∧ Chg 0 0 w w' := by
  have C0 : Chg 0 0 w ((w.alloc (.cells #[.int .i64 c, .int .i64 s, .int .i64 q] 43)).alloc (.cells #[.int .u8 0, .int .u8 0, .int .u8 0, .int .u8 0, .int .i64 0, .int .i64 0, .int .i64 0, .int .i64 0] 64)) := (Chg.alloc (Chg.refl 0 0 w) _).alloc _
  have B0 : ((w.alloc (.cells #[.int .i64 c, .int .i64 s, .int .i64 q] 43)).alloc (.cells #[.int .u8 0, .int .u8 0, .int .u8 0, .int .u8 0, .int .i64 0, .int .i64 0, .int .i64 0, .int .i64 0] 64)).heap[w.heap.size]? = some (.cells #[.int .i64 c, .int .i64 s, .int .i64 q] 43 (0, 0)) := alloc_two _ _ _
  have B1 : ((w.alloc (.cells #[.int .i64 c, .int .i64 s, .int .i64 q] 43)).alloc (.cells #[.int .u8 0, .int .u8 0, .int .u8 0, .int .u8 0, .int .i64 0, .int .i64 0, .int .i64 0, .int .i64 0] 64)).heap[w.heap.size + 1]? = some (.cells #[.int .u8 0, .int .u8 0, .int .u8 0, .int .u8 0, .int .i64 0, .int .i64 0, .int .i64 0, .int .i64 0] 64 (0, 0)) := alloc_twoN _ _ _
  have hlt : w.heap.size + 1 < ((w.alloc (.cells #[.int .i64 c, .int .i64 s, .int .i64 q] 43)).alloc (.cells #[.int .u8 0, .int .u8 0, .int .u8 0, .int .u8 0, .int .i64 0, .int .i64 0, .int .i64 0, .int .i64 0] 64)).heap.size := (Array.getElem?_eq_some_iff.1 B1).1
  have HM : Hid (w.cell? ⟨1, 0, none⟩ = some (.int .u8 106) ∧ w.cell? ⟨1, 1, none⟩ = some (.int .u8 108) ∧ w.cell? ⟨1, 2, none⟩ = some (.int .u8 111) ∧ w.cell? ⟨1, 3, none⟩ = some (.int .u8 103)) := ⟨m0, m1, m2, m3⟩
  obtain ⟨k0, k1, k2⟩ := trio B0
  have HC0 : Hid (Chg 0 0 w ((w.alloc (.cells #[.int .i64 c, .int .i64 s, .int .i64 q] 43)).alloc (.cells #[.int .u8 0, .int .u8 0, .int .u8 0, .int .u8 0, .int .i64 0, .int .i64 0, .int .i64 0, .int .i64 0] 64))) := C0
  have HB1 : Hid (((w.alloc (.cells #[.int .i64 c, .int .i64 s, .int .i64 q] 43)).alloc (.cells #[.int .u8 0, .int .u8 0, .int .u8 0, .int .u8 0, .int .i64 0, .int .i64 0, .int .i64 0, .int .i64 0] 64)).heap[w.heap.size + 1]? = some (.cells #[.int .u8 0, .int .u8 0, .int .u8 0, .int .u8 0, .int .i64 0, .int .i64 0, .int .i64 0, .int .i64 0] 64 (0, 0))) := B1
  have HS0 : Hid (((w.alloc (.cells #[.int .i64 c, .int .i64 s, .int .i64 q] 43)).alloc (.cells #[.int .u8 0, .int .u8 0, .int .u8 0, .int .u8 0, .int .i64 0, .int .i64 0, .int .i64 0, .int .i64 0] 64)).drew.cell? ⟨w.heap.size, 0, none⟩ = some (.int .i64 c) ∧ ((w.alloc (.cells #[.int .i64 c, .int .i64 s, .int .i64 q] 43)).alloc (.cells #[.int .u8 0, .int .u8 0, .int .u8 0, .int .u8 0, .int .i64 0, .int .i64 0, .int .i64 0, .int .i64 0] 64)).drew.cell? ⟨w.heap.size, 1, none⟩ = some (.int .i64 s) ∧ ((w.alloc (.cells #[.int .i64 c, .int .i64 s, .int .i64 q] 43)).alloc (.cells #[.int .u8 0, .int .u8 0, .int .u8 0, .int .u8 0, .int .i64 0, .int .i64 0, .int .i64 0, .int .i64 0] 64)).drew.cell? ⟨w.heap.size, 2, none⟩ = some (.int .i64 q)) := ⟨k0, k1, k2⟩
  clear C0 B0 B1 m0 m1 m2 m3 k0 k1 k2
  go_enter Tryd.func24, Tryd.ntmps24
  go_upto_region 1 with fail
  generalize ((w.alloc (.cells #[.int .i64 c, .int .i64 s, .int .i64 q] 43)).alloc (.cells #[.int .u8 0, .int .u8 0, .int .u8 0, .int .u8 0, .int .i64 0, .int .i64 0, .int .i64 0, .int .i64 0] 64)) = wa at *
  refine held_region (fun w' : World => w'.cell? ⟨w.heap.size, 0, none⟩ = some (.int .i64 c) ∧ w'.cell? ⟨w.heap.size, 1, none⟩ = some (.int .i64 s) ∧ w'.cell? ⟨w.heap.size, 2, none⟩ = some (.int .i64 q)) (by kernel_rfl) ?_
  refine held_take 0 (.pointer (some ⟨w.heap.size, 0, none⟩)) rfl (by kernel_rfl) (by kernel_rfl) (by kernel_rfl) (fun _ _ _ h => h) (.inl ⟨by kernel_rfl, fun w' hw' => by have h4 := hw'.1; have h5 := hw'.2.1; have h6 := hw'.2.2; go_simp⟩) HS0.out ?_
  go_simp
  refine held_take 1 (.int .i64 c) rfl (by kernel_rfl) (by kernel_rfl) (by kernel_rfl) (fun _ _ _ h => h) (.inl ⟨by kernel_rfl, fun w' hw' => by have h4 := hw'.1; have h5 := hw'.2.1; have h6 := hw'.2.2; go_simp⟩) HS0.out ?_
  go_simp
  refine held_take 2 (.pointer (some ⟨w.heap.size, 2, none⟩)) rfl (by kernel_rfl) (by kernel_rfl) (by kernel_rfl) (fun _ _ _ h => h) (.inl ⟨by kernel_rfl, fun w' hw' => by have h4 := hw'.1; have h5 := hw'.2.1; have h6 := hw'.2.2; go_simp⟩) HS0.out ?_
  go_simp
  refine held_take 3 (.int .i64 q) rfl (by kernel_rfl) (by kernel_rfl) (by kernel_rfl) (fun _ _ _ h => h) (.inl ⟨by kernel_rfl, fun w' hw' => by have h4 := hw'.1; have h5 := hw'.2.1; have h6 := hw'.2.2; go_simp⟩) HS0.out ?_
  go_simp
  refine held_take 5 (.pointer (some ⟨w.heap.size, 1, none⟩)) rfl (by kernel_rfl) (by kernel_rfl) (by kernel_rfl) (fun _ _ _ h => h) (.inl ⟨by kernel_rfl, fun w' hw' => by have h4 := hw'.1; have h5 := hw'.2.1; have h6 := hw'.2.2; go_simp⟩) HS0.out ?_
  go_simp
  refine held_take 6 (.int .i64 s) rfl (by kernel_rfl) (by kernel_rfl) (by kernel_rfl) (fun _ _ _ h => h) (.inl ⟨by kernel_rfl, fun w' hw' => by have h4 := hw'.1; have h5 := hw'.2.1; have h6 := hw'.2.2; go_simp⟩) HS0.out ?_
  go_simp
  have HC1 : Hid (Chg 0 0 w wa.drew) := HC0.out.drew
  have HB2 : Hid (wa.drew.heap[w.heap.size + 1]? = some (.cells #[.int .u8 0, .int .u8 0, .int .u8 0, .int .u8 0, .int .i64 0, .int .i64 0, .int .i64 0, .int .i64 0] 64 (0, 0))) := HB1.out
  have hlt2 : w.heap.size + 1 < wa.drew.heap.size := hlt
  generalize wa.drew = w1 at *
  have hN := newHeader_calls w1 1 c q (HC1.out.cell HM.out.1 (by omega)) (HC1.out.cell HM.out.2.1 (by omega)) (HC1.out.cell HM.out.2.2.1 (by omega)) (HC1.out.cell HM.out.2.2.2 (by omega))
  refine held_one 4 rfl rfl (by kernel_rfl) ?_
  refine wp_enter 49 #[.int .i64 1, .int .i64 c, .int .i64 q] (by first | kernel_rfl | go_simp) hN ?_
  rintro e w2 ⟨rfl, h2⟩
  have HS2 : Hid (_ ∧ _ ∧ _) := ⟨h2.cell HS0.out.1 (by omega), h2.cell HS0.out.2.1 (by omega), h2.cell HS0.out.2.2 (by omega)⟩
  have HC2 : Hid _ := HC1.out.trans h2
  have HB3 : Hid (w2.heap[w.heap.size + 1]? = some (.cells #[.int .u8 0, .int .u8 0, .int .u8 0, .int .u8 0, .int .i64 0, .int .i64 0, .int .i64 0, .int .i64 0] 64 (0, 0))) := (h2.block (w.heap.size + 1) hlt2 (by omega)).trans HB2.out
  refine ⟨_, rfl, HS2.out, ?_⟩
  clear hN h2
  go_simp
  refine held_take 7 (.agg #[.int .u8 106, .int .u8 108, .int .u8 111, .int .u8 103, .int .i64 1, .int .i64 c, .int .i64 q, .int .i64 s]) rfl (by kernel_rfl) (by kernel_rfl) (by kernel_rfl) (fun _ _ _ h => h) (.inl ⟨by kernel_rfl, fun w' hw' => by have h4 := hw'.1; have h5 := hw'.2.1; have h6 := hw'.2.2; go_simp⟩) HS2.out ?_
  go_simp
  refine held_one 8 rfl rfl (by kernel_rfl) ?_
  refine wp_store_row 64 (.tmp 2) (.tmp 10) rfl rfl (w.heap.size + 1) rfl [.int .u8 106, .int .u8 108, .int .u8 111, .int .u8 103, .int .i64 1, .int .i64 c, .int .i64 q, .int .i64 s] [.int .u8 0, .int .u8 0, .int .u8 0, .int .u8 0, .int .i64 0, .int .i64 0, .int .i64 0, .int .i64 0] 64 rfl HB3.out rfl (by kernel_rfl) (by simp [Value.oneCell']) ?_
  intro w3 hb3 hc3
  have HS3 : Hid (_ ∧ _ ∧ _) := ⟨hc3.cell HS2.out.1 (by omega), hc3.cell HS2.out.2.1 (by omega), hc3.cell HS2.out.2.2 (by omega)⟩
  have HC3 : Hid _ := HC2.out.step hc3 (by omega)
  have HB4 : Hid _ := hb3
  refine ⟨HS3.out, ?_⟩
  clear hb3 hc3
  refine held_done (by kernel_rfl) (NoPanic.normal ?_)
  go_wp2
  have hb := HB4.out
  exact bodyPost_ret (v := .agg #[.int .u8 106, .int .u8 108, .int .u8 111, .int .u8 103, .int .i64 1, .int .i64 c, .int .i64 q, .int .i64 s]) (by simp [results, Tryd.results24, go_sem, World.cell?, hb]) rfl ⟨rfl, HC3.out⟩

end Go.Proofs.YtmfkgnifkkkkiaaDoor
