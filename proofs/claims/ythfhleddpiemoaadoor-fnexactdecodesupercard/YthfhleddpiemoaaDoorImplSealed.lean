/- sealed of the program: a superblock's sum at its end. -/
import Derived.Test.YthfhleddpiemoaaDoorRowZ
import Derived.Test.YthfhleddpiemoaaDoorCopyRow
import Derived.Test.YthfhleddpiemoaaDoorPutN
import Derived.Test.YthfhleddpiemoaaDoorPutLen
import Derived.Test.YthfhleddpiemoaaDoorImplCrc
import Derived.Test.YthfhleddpiemoaaDoorHeld
import Derived.Test.YthfhleddpiemoaaDoorWeak
import Derived.Deep.RegionWith
import Derived.Deep.DeepCutAuto
namespace Go.Proofs.YthfhleddpiemoaaDoor
open Go.RowKit

/-- What lies in memory while a block is sealed. -/
structure Seal (w x : World) (cur : List Value) : Prop where
  b0 : x.heap[w.heap.size]? = some (.cells cur.toArray 37 (0, 0))
  b1 : x.heap[w.heap.size + 1]? = some (.cells Z64.toArray 37 (0, 0))
  ch : Chg 0 0 w x
theorem Seal.lt {w x : World} {cur : List Value} (h : Seal w x cur) : w.heap.size + 1 < x.heap.size := (Array.getElem?_eq_some_iff.1 h.b1).1
theorem Seal.chg {w x y : World} {cur : List Value} (h : Seal w x cur) (c : Chg 0 0 x y) : Seal w y cur :=
  have := h.lt
  ⟨(c.block _ (by omega) (by omega)).trans h.b0, (c.block _ (by omega) (by omega)).trans h.b1, h.ch.trans c⟩
theorem Seal.put {w x y : World} {cur cur' : List Value} (h : Seal w x cur) (c : Chg w.heap.size (w.heap.size + 1) x y) (hb : y.heap[w.heap.size]? = some (.cells cur'.toArray 37 (0, 0))) : Seal w y cur' :=
  have := h.lt
  ⟨hb, (c.block _ (by omega) (by omega)).trans h.b1, h.ch.step c (by omega)⟩

set_option maxRecDepth 20000 in
set_option maxHeartbeats 4000000 in
theorem sealed_calls (w : World) (xa zs : List Int) (hx : xa.length = 60) (hz : zs.length = 4) (hB : Byt xa) :
    Calls Tryd.prog 28 #[.agg ((xa ++ zs).map (Value.int .u8)).toArray] w fun e w' => e = .returned (.agg ((xa ++ putN (crcV xa) 4).map (Value.int .u8)).toArray) ∧ Chg 0 0 w w' := by
  obtain ⟨hc0, hc1⟩ := crcV_range xa
  have Hc4 : Hid ((putN (crcV xa) 4).length = 4) := pn4 hc0 hc1
  have Hal : Hid (xa.length = 60) := hx
  have Hzl : Hid (zs.length = 4) := hz
  have HBy : Hid (Byt xa) := hB
  obtain ⟨cv, Hcv⟩ : ∃ cv, Hid (cv = crcV xa) := ⟨_, rfl⟩
  have hcm : cv ≤ 9223372036854775807 := by rw [Hcv.out]; omega
  obtain ⟨bs, Hbs⟩ : ∃ bs, Hid (bs = (xa ++ zs).map (Value.int .u8)) := ⟨_, rfl⟩
  have Hbl : Hid (bs.length = 64) := by show _ = _; rw [Hbs.out, List.length_map, List.length_append, hx, hz]
  have HE : Hid (Seal w ((w.alloc (.cells bs.toArray 37)).alloc (.cells Z64.toArray 37)) bs) := by
    obtain ⟨z1, z2, z3⟩ := alloc2 w (.cells bs.toArray 37) (.cells Z64.toArray 37)
    exact ⟨z2, z3, (Chg.alloc (Chg.refl 0 0 w) _).alloc _⟩
  rw [← Hbs.out, ← Hcv.out]
  rw [← Hcv.out] at Hc4
  clear hx hz hB hc0 hc1
  go_enter Tryd.func28, Tryd.ntmps28
  go_upto_region 1 with fail
  simp only [Z64_eq]
  generalize (w.alloc (.cells bs.toArray 37)).alloc (.cells Z64.toArray 37) = w4 at *
  go_cut [7] (fun _ wx => Seal w wx (splice bs 60 ((putN cv 4).map (Value.int .u8))))
  case first =>
    have HB1 : Hid (Seal w w4.drew bs) := HE.out.chg (Chg.drew (Chg.refl 0 0 w4))
    have HS0 : Hid ((fun _ : World => True) w4.drew) := trivial
    refine held_region (fun _ : World => True) (by kernel_rfl) ?_
    refine held_take 0 (.slice (some ⟨w.heap.size, 60, none⟩) 4 4) rfl (by kernel_rfl) (by kernel_rfl) (by kernel_rfl) (fun _ _ _ h => h) (.inl ⟨by kernel_rfl, fun w' hw' => by go_simp⟩) HS0.out ?_
    go_simp
    refine held_take 1 (.slice (some ⟨w.heap.size, 0, none⟩) 60 64) rfl (by kernel_rfl) (by kernel_rfl) (by kernel_rfl) (fun _ _ _ h => h) (.inl ⟨by kernel_rfl, fun w' hw' => by go_simp⟩) HS0.out ?_
    go_simp
    generalize w4.drew = x1 at *
    have hlt := HB1.out.lt
    have hvw : View x1 w.heap.size (w.heap.size + 1) .u8 (.slice (some ⟨w.heap.size, 0, none⟩) 60 64) xa := by
      have h0 := HB1.out.b0
      rw [Hbs.out] at h0
      have hv := row_view h0 0 60 64 (by rw [List.length_append, Hal.out]; omega) (by rw [List.length_append, Hal.out, Hzl.out]; decide) (by omega)
      rwa [List.drop_zero, List.take_append_of_le_length (by rw [Hal.out]; exact Nat.le_refl _), List.take_of_length_le (by rw [Hal.out]; exact Nat.le_refl _)] at hv
    have hN := implCrc_calls x1 HBy.out hvw (by omega)
    rw [← Hcv.out] at hN
    refine held_one 2 rfl rfl (by kernel_rfl) ?_
    refine wp_enter 32 #[.slice (some ⟨w.heap.size, 0, none⟩) 60 64] (by first | kernel_rfl | go_simp) hN ?_
    rintro e x2 ⟨rfl, c2⟩
    have HB2 : Hid (Seal w x2 bs) := HB1.out.chg c2
    refine ⟨_, rfl, trivial, ?_⟩
    clear hN hvw c2
    go_simp
    have hN := implPut_calls x2 cv 4 (by omega)
    refine held_one 3 rfl rfl (by kernel_rfl) ?_
    refine wp_enter 27 #[.int .i64 cv, .int .i64 4] (by first | kernel_rfl | go_simp) hN ?_
    rintro e x3 ⟨r, rfl, o2, c2⟩
    have HB3 : Hid (Seal w x3 bs) := HB2.out.chg c2
    obtain ⟨g, gc, rfl, hcell⟩ : ∃ g gc, r = .slice (some ⟨g, 0, none⟩) 4 gc ∧ ∀ i, i < 4 → x3.cell? ⟨g, i, none⟩ = some (.int .u8 ((putN cv 4).getD i 0)) := by
      have hv := o2.view (hi := x3.heap.size) (by rw [Hc4.out]; omega) (fun g hg => (o2.lt g hg).2)
      rcases o2.2 with ⟨_, h0⟩ | ⟨g, gc, cur, rfl, _⟩
      · rw [Hc4.out] at h0; omega
      · refine ⟨g, gc, by rw [Hc4.out], fun i hi => hv.cellAt' i (by rw [Hc4.out]; exact hi)⟩
    refine ⟨_, rfl, trivial, ?_⟩
    have Hcell : Hid (∀ i, i < 4 → x3.cell? ⟨g, i, none⟩ = some (.int .u8 ((putN cv 4).getD i 0))) := hcell
    clear hN o2 c2 hcell
    go_simp
    refine held_one 4 rfl rfl (by kernel_rfl) ?_
    refine wp_copy_row (.tmp 3) (.tmp 6) 22 22 rfl 5 Tryd.underlying22 (by kernel_rfl) w.heap.size 60 4 4 ⟨g, 0, none⟩ 4 gc rfl rfl bs 37 HB3.out.b0 ((putN cv 4).map (Value.int .u8)) (by rw [List.length_map, Hc4.out]; rfl) ?_ (by rw [List.length_map, Hc4.out, Hbl.out]; decide) (ints_oneCell _ _) ?_
    · intro j v hj
      have hj4 : j < 4 := by have := (List.getElem?_eq_some_iff.1 hj).1; rwa [List.length_map, Hc4.out] at this
      have hjl : j < (putN cv 4).length := by rw [Hc4.out]; exact hj4
      rw [Addr.add_mid, Nat.zero_add, Hcell.out j hj4, ← hj]
      simp [List.getD_eq_getElem?_getD, hjl]
    intro x4 hb4 hc4
    have HB4 : Hid (Seal w x4 (splice bs 60 ((putN cv 4).map (Value.int .u8)))) := HB3.out.put hc4 hb4.out
    refine ⟨trivial, ?_⟩
    clear hb4 hc4
    go_simp
    refine held_done (by kernel_rfl) (NoPanic.normal ?_)
    go_wp2
    go_meet
    exact HB4.out
  case rest =>
    have hF : splice bs 60 ((putN cv 4).map (Value.int .u8)) = (xa ++ putN cv 4).map (Value.int .u8) := by
      have hm : (xa.map (Value.int .u8)).length = 60 := by rw [List.length_map]; exact Hal.out
      have e1 : bs.take 60 = xa.map (Value.int .u8) := by
        rw [Hbs.out, List.map_append, List.take_append_of_le_length (by rw [hm]; exact Nat.le_refl _), List.take_of_length_le (by rw [hm]; exact Nat.le_refl _)]
      have e2 : bs.drop (60 + ((putN cv 4).map (Value.int .u8)).length) = [] := by
        apply List.drop_eq_nil_of_le
        rw [List.length_map, Hbl.out, Hc4.out]
        decide
      rw [List.map_append (l₁ := xa) (l₂ := putN cv 4)]
      unfold splice
      rw [e1, e2, List.append_nil]
    rw [hF] at hcut
    have hln : ((xa ++ putN cv 4).map (Value.int .u8)).length = 64 := by
      rw [List.length_map, List.length_append, Hal.out, Hc4.out]
    obtain ⟨cs, hcs⟩ : ∃ cs, cs = (xa ++ putN cv 4).map (Value.int .u8) := ⟨_, rfl⟩
    have HV2 : Hid (∀ v ∈ cs, v.oneCell' = true) := by show ∀ v ∈ cs, v.oneCell' = true; rw [hcs]; exact ints_oneCell _ _
    rw [← hcs] at hcut hln
    have HBm : Hid (Seal w wc cs) := hcut
    generalize wc = wf at *
    have Hcs : Hid (cs = (xa ++ putN cv 4).map (Value.int .u8)) := hcs
    have hics : (Tryd.prog.info? 37).map (·.size) = some cs.length := by rw [hln]; kernel_rfl
    have Hln : Hid (cs.length = 64) := hln
    have u44 := Tryd.underlying37
    have HR : Hid (wf.rangeAt w.heap.size 0 cs) := row_rng HBm.out.b0
    have hlt := HBm.out.lt
    clear hF hln hcs hcut HE
    go_wp2_with (first
      | (refine wpList_load_mid rfl 37 (.tmp 1) rfl w.heap.size 0 rfl cs _ HR.out u44 rfl hics ?_)
      | (refine wpList_store_row rfl 37 (.tmp 2) (.tmp 8) rfl rfl (w.heap.size + 1) rfl cs Z64 37 rfl HBm.out.b1 (by rw [Z64_length]; exact Hln.out) hics HV2.out ?_; intro wg hbg hcg))
    have HCg : Hid (Chg 0 0 w wg) := HBm.out.ch.step hcg (by omega)
    have hl1 : (loadVar 37 ⟨w.heap.size + 1, 0, none⟩).run Tryd.prog wg = .ok (.agg cs.toArray) wg := run_loadVar_mid _ _ _ _ cs _ (row_rng hbg) u44 rfl hics
    go_wp2
    exact bodyPost_ret (v := .agg cs.toArray) (results_one Tryd.results28 rfl hl1) rfl ⟨by rw [Hcs.out], HCg.out⟩

end Go.Proofs.YthfhleddpiemoaaDoor
