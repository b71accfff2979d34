/- encoded of a superblock, of the program. -/
import Derived.Test.YtiagpcbekcljmaaGreatDoorEncRow
import Derived.Test.YtiagpcbekcljmaaGreatDoorImplCrc
import Derived.Deep.DeepCutAuto
namespace Go.Proofs.YtiagpcbekcljmaaGreatDoor
open Go.RowKit

/-- The first sixty bytes; all. -/
def supA (h0 h1 h2 h3 kd it sq st : Int) : List Int := [h0, h1, h2, h3, kd, 0] ++ putN it 2 ++ putN sq 4 ++ putN st 2 ++ List.replicate 46 0
def supL (h0 h1 h2 h3 kd it sq st : Int) : List Int := supA h0 h1 h2 h3 kd it sq st ++ putN (crcV (supA h0 h1 h2 h3 kd it sq st)) 4

theorem supA_length {h0 h1 h2 h3 kd it sq st : Int} (hi2 : (putN it 2).length = 2) (hq4 : (putN sq 4).length = 4) (ht2 : (putN st 2).length = 2) : (supA h0 h1 h2 h3 kd it sq st).length = 60 := by
  unfold supA; simp [hi2, hq4, ht2]

abbrev jsO (t : TypeId) (h0 h1 h2 h3 kd it sq st : Int) : Obj := .cells #[.int .u8 h0, .int .u8 h1, .int .u8 h2, .int .u8 h3, .int .i64 kd, .int .i64 it, .int .i64 sq, .int .i64 st] t

set_option maxRecDepth 20000 in
set_option maxHeartbeats 4000000 in
theorem encodedS_calls (w : World) (h0 h1 h2 h3 kd it sq st : Int) (hk0 : 0 ≤ kd) (hk1 : kd < 256) (hi : it ≤ 9223372036854775807) (hq : sq ≤ 9223372036854775807) (ht : st ≤ 9223372036854775807) (hi2 : (putN it 2).length = 2) (hq4 : (putN sq 4).length = 4) (ht2 : (putN st 2).length = 2)
    (hc4 : (putN (crcV (supA h0 h1 h2 h3 kd it sq st)) 4).length = 4) (hB : Byt (supA h0 h1 h2 h3 kd it sq st)) (hcm : crcV (supA h0 h1 h2 h3 kd it sq st) ≤ 9223372036854775807) :
    Calls Tryz.prog 77 #[.agg #[.int .u8 h0, .int .u8 h1, .int .u8 h2, .int .u8 h3, .int .i64 kd, .int .i64 it, .int .i64 sq, .int .i64 st]] w fun e w' => e = .returned (.agg ((supL h0 h1 h2 h3 kd it sq st).map (Value.int .u8)).toArray) ∧ Chg 0 0 w w' := by
  have hN := fun w => begun_calls w h0 h1 h2 h3 kd it sq hk0 hk1 hi hq hi2 hq4
  have Hi2 : Hid ((putN it 2).length = 2) := hi2
  have Hq4 : Hid ((putN sq 4).length = 4) := hq4
  have Ht2 : Hid ((putN st 2).length = 2) := ht2
  have Hc4 : Hid ((putN (crcV (supA h0 h1 h2 h3 kd it sq st)) 4).length = 4) := hc4
  have HBy : Hid (Byt (supA h0 h1 h2 h3 kd it sq st)) := hB
  have hbl := begL_length (h0 := h0) (h1 := h1) (h2 := h2) (h3 := h3) (kd := kd) hi2 hq4
  obtain ⟨bs, Hbs⟩ : ∃ bs, Hid (bs = (begL h0 h1 h2 h3 kd it sq).map (Value.int .u8)) := ⟨_, rfl⟩
  have Hbl : Hid (bs.length = 64) := by show _ = _; rw [Hbs.out, List.length_map]; exact hbl
  have HV : Hid (∀ v ∈ bs, v.oneCell' = true) := by show ∀ v ∈ bs, v.oneCell' = true; rw [Hbs.out]; exact ints_oneCell _ _
  rw [← Hbs.out] at hN
  have hib : (Tryz.prog.info? 82).map (·.size) = some bs.length := by rw [Hbl.out]; kernel_rfl
  obtain ⟨z1, z2, z3⟩ := alloc2 w (jsO 70 h0 h1 h2 h3 kd it sq st) (.cells Z64.toArray 82)
  have hA : Chg 0 0 w ((w.alloc (jsO 70 h0 h1 h2 h3 kd it sq st)).alloc (.cells Z64.toArray 82)) := (Chg.alloc (Chg.refl 0 0 w) _).alloc _
  have HZ : Hid (((w.alloc (jsO 70 h0 h1 h2 h3 kd it sq st)).alloc (.cells Z64.toArray 82)).heap.size = w.heap.size + 2 ∧ ((w.alloc (jsO 70 h0 h1 h2 h3 kd it sq st)).alloc (.cells Z64.toArray 82)).heap[w.heap.size]? = some (jsO 70 h0 h1 h2 h3 kd it sq st) ∧ ((w.alloc (jsO 70 h0 h1 h2 h3 kd it sq st)).alloc (.cells Z64.toArray 82)).heap[w.heap.size + 1]? = some (.cells Z64.toArray 82) ∧ Chg 0 0 w ((w.alloc (jsO 70 h0 h1 h2 h3 kd it sq st)).alloc (.cells Z64.toArray 82))) := ⟨z1, z2, z3, hA⟩
  clear z1 z2 z3 hA hi2 hq4 ht2 hc4 hbl hB
  go_enter Tryz.func77, Tryz.ntmps77
  go_wp2_with fail
  simp only [Z64_eq]
  generalize ((w.alloc (jsO 70 h0 h1 h2 h3 kd it sq st)).alloc (.cells Z64.toArray 82)) = wa at *
  refine (hN wa).mono ?_
  rintro e w2 ⟨rfl, hc2⟩
  have HE : Hid (Enc w (w2.alloc (.cells Z64.toArray 82)) w2.heap.size (jsO 70 h0 h1 h2 h3 kd it sq st) Z64) := by
    obtain ⟨z1, z2, z3, hA⟩ := HZ.out
    have s2 := hc2.size
    have hc3 : Chg 0 0 wa (w2.alloc (.cells Z64.toArray 82)) := hc2.alloc _
    exact ⟨(hc3.block _ (by omega) (by omega)).trans z2, (hc3.block _ (by omega) (by omega)).trans z3, heap_new _ _, by omega, hA.trans hc3⟩
  clear hN hc2 HZ
  have hg := HE.out.b2
  rw [← Z64_eq] at hg
  have Hg : Hid (_ = _) := hg
  clear hg
  go_upto_region 2 with (first
    | (refine wpList_store_row rfl 82 (.tmp 3) (.tmp 6) rfl rfl w2.heap.size rfl bs _ 82 rfl Hg.out (by rw [Hbl.out]; rfl) hib HV.out ?_; intro w3 hb3 hc3))
  simp only [Z64_eq] at hc3
  clear Hg
  have HE3 : Hid (Enc w w3 w2.heap.size (jsO 70 h0 h1 h2 h3 kd it sq st) bs) := HE.out.put hc3 hb3
  have hlo := HE3.out.lo
  generalize w2.heap.size = N at *
  clear hb3 hc3 HE
  go_cut [11] (fun _ wx => Enc w wx N (jsO 70 h0 h1 h2 h3 kd it sq st) (splice bs 12 ((putN st 2).map (Value.int .u8))))
  case first =>
    have HB1 : Hid (Enc w w3.drew N (jsO 70 h0 h1 h2 h3 kd it sq st) bs) := HE3.out.chg (Chg.drew (Chg.refl 0 0 w3))
    have HS0 : Hid ((fun w' : World => w'.cell? ⟨w.heap.size, 7, none⟩ = some (.int .i64 st)) w3.drew) := by
      have hb := HB1.out.b0
      show _ = _
      simp [World.cell?, hb]
    refine held_region (fun w' : World => w'.cell? ⟨w.heap.size, 7, none⟩ = some (.int .i64 st)) (by kernel_rfl) ?_
    refine held_take 0 (.slice (some ⟨N, 12, none⟩) 52 52) rfl (by kernel_rfl) (by kernel_rfl) (by kernel_rfl) (fun _ _ _ h => h) (.inl ⟨by kernel_rfl, fun w' hw' => by go_simp⟩) HS0.out ?_
    go_simp
    refine held_take 1 (.pointer (some ⟨w.heap.size, 7, none⟩)) rfl (by kernel_rfl) (by kernel_rfl) (by kernel_rfl) (fun _ _ _ h => h) (.inl ⟨by kernel_rfl, fun w' hw' => by go_simp⟩) HS0.out ?_
    go_simp
    refine held_take 2 (.int .i64 st) rfl (by kernel_rfl) (by kernel_rfl) (by kernel_rfl) (fun _ _ _ h => h) (.inl ⟨by kernel_rfl, fun w' hw' => by have h4 : w'.cell? _ = _ := hw'; go_simp⟩) HS0.out ?_
    go_simp
    generalize w3.drew = x1 at *
    have hlt := HB1.out.lt
    have hN := implPut_calls x1 st 2 (by omega)
    refine held_one 3 rfl rfl (by kernel_rfl) ?_
    refine wp_enter 80 #[.int .i64 st, .int .i64 2] (by first | kernel_rfl | go_simp) hN ?_
    rintro e x2 ⟨r, rfl, o2, c2⟩
    have HB2 : Hid (Enc w x2 N (jsO 70 h0 h1 h2 h3 kd it sq st) bs) := HB1.out.chg c2
    have HS2 : Hid ((fun w' : World => w'.cell? ⟨w.heap.size, 7, none⟩ = some (.int .i64 st)) x2) := c2.cell HS0.out (by omega)
    obtain ⟨g, gc, rfl, hcell⟩ : ∃ g gc, r = .slice (some ⟨g, 0, none⟩) 2 gc ∧ ∀ i, i < 2 → x2.cell? ⟨g, i, none⟩ = some (.int .u8 ((putN st 2).getD i 0)) := by
      have hv := o2.view (hi := x2.heap.size) (by rw [Ht2.out]; omega) (fun g hg => (o2.lt g hg).2)
      rcases o2.2 with ⟨_, h0⟩ | ⟨g, gc, cur, rfl, _⟩
      · rw [Ht2.out] at h0; omega
      · refine ⟨g, gc, by rw [Ht2.out], fun i hi => hv.cellAt' i (by rw [Ht2.out]; exact hi)⟩
    refine ⟨_, rfl, HS2.out, ?_⟩
    have Hcell : Hid (∀ i, i < 2 → x2.cell? ⟨g, i, none⟩ = some (.int .u8 ((putN st 2).getD i 0))) := hcell
    clear hN o2 c2 hcell
    go_simp
    refine held_one 4 rfl rfl (by kernel_rfl) ?_
    refine wp_copy_row (.tmp 7) (.tmp 10) 38 38 rfl 5 Tryz.underlying38 (by kernel_rfl) N 12 52 52 ⟨g, 0, none⟩ 2 gc rfl rfl bs 82 HB2.out.b2 ((putN st 2).map (Value.int .u8)) (by rw [List.length_map, Ht2.out]; rfl) ?_ (by rw [List.length_map, Ht2.out, Hbl.out]; decide) (ints_oneCell _ _) ?_
    · intro j v hj
      have hj4 : j < 2 := by have := (List.getElem?_eq_some_iff.1 hj).1; rwa [List.length_map, Ht2.out] at this
      have hjl : j < (putN st 2).length := by rw [Ht2.out]; exact hj4
      rw [Addr.add_mid, Nat.zero_add, Hcell.out j hj4, ← hj]
      simp [List.getD_eq_getElem?_getD, hjl]
    intro x3 hb3 hc3
    have HB4 : Hid (Enc w x3 N (jsO 70 h0 h1 h2 h3 kd it sq st) (splice bs 12 ((putN st 2).map (Value.int .u8)))) := HB2.out.put hc3 hb3.out
    have HS3 : Hid ((fun w' : World => w'.cell? ⟨w.heap.size, 7, none⟩ = some (.int .i64 st)) x3) := hc3.cell HS2.out (by omega)
    refine ⟨HS3.out, ?_⟩
    clear hb3 hc3
    go_simp
    refine held_done (by kernel_rfl) (NoPanic.normal ?_)
    go_wp2
    go_meet
    exact HB4.out
  case rest =>
    have hF : splice bs 12 ((putN st 2).map (Value.int .u8)) = (supA h0 h1 h2 h3 kd it sq st ++ [0, 0, 0, 0]).map (Value.int .u8) := by
      rw [Hbs.out]
      unfold begL supA
      match h2' : putN it 2, Hi2.out, h4' : putN sq 4, Hq4.out, h5' : putN st 2, Ht2.out with
      | [a, b], _, [c, d, e, f], _, [g, h], _ => unfold splice; rfl
    rw [hF] at hcut
    have hal := supA_length (h0 := h0) (h1 := h1) (h2 := h2) (h3 := h3) (kd := kd) Hi2.out Hq4.out Ht2.out
    obtain ⟨xa, Hxa⟩ : ∃ xa, Hid (xa = supA h0 h1 h2 h3 kd it sq st) := ⟨_, rfl⟩
    have Hal : Hid (xa.length = 60) := by show _ = _; rw [Hxa.out]; exact hal
    have HBx : Hid (Byt xa) := by show Byt xa; rw [Hxa.out]; exact HBy.out
    rw [← Hxa.out] at hcut
    have Hc4' : Hid ((putN (crcV xa) 4).length = 4) := by show _ = _; rw [Hxa.out]; exact Hc4.out
    have hcm' : crcV xa ≤ 9223372036854775807 := by rw [Hxa.out]; exact hcm
    obtain ⟨cv, Hcv⟩ : ∃ cv, Hid (cv = crcV xa) := ⟨_, rfl⟩
    rw [← Hcv.out] at hcm'
    have HE4 : Hid (Enc w wc N (jsO 70 h0 h1 h2 h3 kd it sq st) ((xa ++ [0, 0, 0, 0]).map (Value.int .u8))) := hcut
    generalize wc = w4 at *
    clear hcut hF hal HE3
    go_upto_region 3 with fail
    go_cut [16] (fun _ wx => Enc w wx N (jsO 70 h0 h1 h2 h3 kd it sq st) (splice ((xa ++ [0, 0, 0, 0]).map (Value.int .u8)) 60 ((putN cv 4).map (Value.int .u8))))
    case first =>
      have HB1 : Hid (Enc w w4.drew N (jsO 70 h0 h1 h2 h3 kd it sq st) ((xa ++ [0, 0, 0, 0]).map (Value.int .u8))) := HE4.out.chg (Chg.drew (Chg.refl 0 0 w4))
      have HS0 : Hid ((fun _ : World => True) w4.drew) := trivial
      refine held_region (fun _ : World => True) (by kernel_rfl) ?_
      refine held_take 0 (.slice (some ⟨N, 60, none⟩) 4 4) rfl (by kernel_rfl) (by kernel_rfl) (by kernel_rfl) (fun _ _ _ h => h) (.inl ⟨by kernel_rfl, fun w' hw' => by go_simp⟩) HS0.out ?_
      go_simp
      refine held_take 1 (.slice (some ⟨N, 0, none⟩) 60 64) rfl (by kernel_rfl) (by kernel_rfl) (by kernel_rfl) (fun _ _ _ h => h) (.inl ⟨by kernel_rfl, fun w' hw' => by go_simp⟩) HS0.out ?_
      go_simp
      generalize w4.drew = x1 at *
      have hlt := HB1.out.lt
      have hvw : View x1 N (N + 1) .u8 (.slice (some ⟨N, 0, none⟩) 60 64) xa := by
        have hv := row_view HB1.out.b2 0 60 64 (by rw [List.length_append, Hal.out]; decide) (by rw [List.length_append, Hal.out]; decide) (by omega)
        rwa [List.drop_zero, List.take_append_of_le_length (by rw [Hal.out]; exact Nat.le_refl _), List.take_of_length_le (by rw [Hal.out]; exact Nat.le_refl _)] at hv
      have hN := implCrc_calls x1 HBx.out hvw (by omega)
      rw [← Hcv.out] at hN
      refine held_one 2 rfl rfl (by kernel_rfl) ?_
      refine wp_enter 81 #[.slice (some ⟨N, 0, none⟩) 60 64] (by first | kernel_rfl | go_simp) hN ?_
      rintro e x2 ⟨rfl, c2⟩
      have HB2 : Hid (Enc w x2 N (jsO 70 h0 h1 h2 h3 kd it sq st) ((xa ++ [0, 0, 0, 0]).map (Value.int .u8))) := HB1.out.chg c2
      refine ⟨_, rfl, trivial, ?_⟩
      clear hN hvw c2
      go_simp
      have hN := implPut_calls x2 cv 4 (by omega)
      have Hv4 : Hid ((putN cv 4).length = 4) := by show _ = _; rw [Hcv.out]; exact Hc4'.out
      refine held_one 3 rfl rfl (by kernel_rfl) ?_
      refine wp_enter 80 #[.int .i64 cv, .int .i64 4] (by first | kernel_rfl | go_simp) hN ?_
      rintro e x3 ⟨r, rfl, o2, c2⟩
      have HB3 : Hid (Enc w x3 N (jsO 70 h0 h1 h2 h3 kd it sq st) ((xa ++ [0, 0, 0, 0]).map (Value.int .u8))) := HB2.out.chg c2
      obtain ⟨g, gc, rfl, hcell⟩ : ∃ g gc, r = .slice (some ⟨g, 0, none⟩) 4 gc ∧ ∀ i, i < 4 → x3.cell? ⟨g, i, none⟩ = some (.int .u8 ((putN cv 4).getD i 0)) := by
        have hv := o2.view (hi := x3.heap.size) (by rw [Hv4.out]; omega) (fun g hg => (o2.lt g hg).2)
        rcases o2.2 with ⟨_, h0⟩ | ⟨g, gc, cur, rfl, _⟩
        · rw [Hv4.out] at h0; omega
        · refine ⟨g, gc, by rw [Hv4.out], fun i hi => hv.cellAt' i (by rw [Hv4.out]; exact hi)⟩
      refine ⟨_, rfl, trivial, ?_⟩
      have Hcell : Hid (∀ i, i < 4 → x3.cell? ⟨g, i, none⟩ = some (.int .u8 ((putN cv 4).getD i 0))) := hcell
      clear hN o2 c2 hcell
      go_simp
      refine held_one 4 rfl rfl (by kernel_rfl) ?_
      refine wp_copy_row (.tmp 12) (.tmp 15) 38 38 rfl 5 Tryz.underlying38 (by kernel_rfl) N 60 4 4 ⟨g, 0, none⟩ 4 gc rfl rfl ((xa ++ [0, 0, 0, 0]).map (Value.int .u8)) 82 HB3.out.b2 ((putN cv 4).map (Value.int .u8)) (by rw [List.length_map, Hv4.out]; rfl) ?_ (by rw [List.length_map, Hv4.out, List.length_map, List.length_append, Hal.out]; decide) (ints_oneCell _ _) ?_
      · intro j v hj
        have hj4 : j < 4 := by have := (List.getElem?_eq_some_iff.1 hj).1; rwa [List.length_map, Hv4.out] at this
        have hjl : j < (putN cv 4).length := by rw [Hv4.out]; exact hj4
        rw [Addr.add_mid, Nat.zero_add, Hcell.out j hj4, ← hj]
        simp [List.getD_eq_getElem?_getD, hjl]
      intro x4 hb4 hc4
      have HB4 : Hid (Enc w x4 N (jsO 70 h0 h1 h2 h3 kd it sq st) (splice ((xa ++ [0, 0, 0, 0]).map (Value.int .u8)) 60 ((putN cv 4).map (Value.int .u8)))) := HB3.out.put hc4 hb4.out
      refine ⟨trivial, ?_⟩
      clear hb4 hc4
      go_simp
      refine held_done (by kernel_rfl) (NoPanic.normal ?_)
      go_wp2
      go_meet
      exact HB4.out
    case rest =>
      have h4 : (putN cv 4).length = 4 := by rw [Hcv.out]; exact Hc4'.out
      have hF : splice ((xa ++ [0, 0, 0, 0]).map (Value.int .u8)) 60 ((putN cv 4).map (Value.int .u8)) = (supL h0 h1 h2 h3 kd it sq st).map (Value.int .u8) := by
        have hm : (xa.map (Value.int .u8)).length = 60 := by rw [List.length_map]; exact Hal.out
        have e1 : ((xa ++ [0, 0, 0, 0]).map (Value.int .u8)).take 60 = xa.map (Value.int .u8) := by
          rw [List.map_append, List.take_append_of_le_length (by rw [hm]; exact Nat.le_refl _), List.take_of_length_le (by rw [hm]; exact Nat.le_refl _)]
        have e2 : ((xa ++ [0, 0, 0, 0]).map (Value.int .u8)).drop (60 + ((putN cv 4).map (Value.int .u8)).length) = [] := by
          apply List.drop_eq_nil_of_le
          rw [List.length_map, List.length_map, List.length_append, Hal.out, h4]
          decide
        unfold supL
        rw [← Hxa.out, ← Hcv.out, List.map_append (l₁ := xa) (l₂ := putN cv 4)]
        unfold splice
        rw [e1, e2, List.append_nil]
      rw [hF] at hcut
      have hln : ((supL h0 h1 h2 h3 kd it sq st).map (Value.int .u8)).length = 64 := by
        rw [List.length_map]; unfold supL; rw [← Hxa.out, ← Hcv.out, List.length_append, Hal.out, h4]
      obtain ⟨cs, hcs⟩ : ∃ cs, cs = (supL h0 h1 h2 h3 kd it sq st).map (Value.int .u8) := ⟨_, rfl⟩
      have HV2 : Hid (∀ v ∈ cs, v.oneCell' = true) := by show ∀ v ∈ cs, v.oneCell' = true; rw [hcs]; exact ints_oneCell _ _
      rw [← hcs] at hcut hln
      have HBm : Hid (Enc w wc N (jsO 70 h0 h1 h2 h3 kd it sq st) cs) := hcut
      generalize wc = wf at *
      have Hcs : Hid (cs = (supL h0 h1 h2 h3 kd it sq st).map (Value.int .u8)) := hcs
      have hics : (Tryz.prog.info? 82).map (·.size) = some cs.length := by rw [hln]; kernel_rfl
      have Hln : Hid (cs.length = 64) := hln
      have u44 := Tryz.underlying82
      have HR : Hid (wf.rangeAt N 0 cs) := row_rng HBm.out.b2
      have hlt := HBm.out.lt
      clear hF hln hcs hcut h4 HE4
      go_wp2_with (first
        | (refine wpList_load_mid rfl 82 (.tmp 3) rfl N 0 rfl cs _ HR.out u44 rfl hics ?_)
        | (refine wpList_store_row rfl 82 (.tmp 2) (.tmp 17) rfl rfl (w.heap.size + 1) rfl cs Z64 82 rfl HBm.out.b1 (by rw [Z64_length]; exact Hln.out) hics HV2.out ?_; intro wg hbg hcg))
      have HCg : Hid (Chg 0 0 w wg) := HBm.out.ch.step hcg (by omega)
      have hl1 : (loadVar 82 ⟨w.heap.size + 1, 0, none⟩).run Tryz.prog wg = .ok (.agg cs.toArray) wg := run_loadVar_mid _ _ _ _ cs _ (row_rng hbg) u44 rfl hics
      go_wp2
      exact bodyPost_ret (v := .agg cs.toArray) (results_one Tryz.results77 rfl hl1) rfl ⟨by rw [Hcs.out], HCg.out⟩

end Go.Proofs.YtiagpcbekcljmaaGreatDoor
