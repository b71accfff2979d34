/- Several short texts in one: LogTaken, LogNext, ImplSealed. -/
import Derived.Test.YtahjaejepkgfdaaGreatDoorLogTakes
import Derived.Test.YtahjaejepkgfdaaGreatDoorByt
import Derived.Test.YtahjaejepkgfdaaGreatDoorRowZ
import Derived.Test.YtahjaejepkgfdaaGreatDoorCopyRow
import Derived.Test.YtahjaejepkgfdaaGreatDoorGoodBlk
import Derived.Test.YtahjaejepkgfdaaGreatDoorJCommit
import Derived.Test.YtahjaejepkgfdaaGreatDoorSpecBeg
import Derived.Deep.RegionWith
import Derived.Deep.DeepCutAuto
namespace Go.Proofs.YtahjaejepkgfdaaGreatDoor
open Go.RowKit

theorem TL_pos {t : Tx} (h : validT t = true) : 1 ≤ (TL t).length := by unfold TL; rw [if_pos h, List.length_append]; simp
theorem TL_none {t : Tx} (h : ¬ validT t = true) : TL t = [] := by unfold TL; rw [if_neg h]

set_option maxRecDepth 20000 in
set_option maxHeartbeats 4000000 in
theorem taken_calls (w : World) {lo hi : Nat} {a : Value} {t : Tx} (sz st sq hd us : Int) (hl : cntT t ≤ 1048576) (hhi : hi ≤ w.heap.size) (hby : ∀ x ∈ t.homes, Byt x.2) (hM : Mag w) (h1 : TView w lo hi a t) :
    Calls Tryz.prog 23 #[logV sz st sq hd us, a] w fun e w' => e = .returned (.int .i64 (if takesB sz st sq hd us t = true then ((TL t).length : Int) else 0)) ∧ Chg 0 0 w w' := by
  have hT := h1
  obtain ⟨hv, rv, rfl, p1, v1⟩ := h1
  obtain ⟨po, pcap, rfl⟩ := p1.slice
  obtain ⟨ao, cap, rfl⟩ := v1.slice
  have hMl := hM.lt
  obtain ⟨rz, Hrz⟩ : ∃ rz : Int, Hid (rz = if takesB sz st sq hd us t = true then ((TL t).length : Int) else 0) := ⟨_, rfl⟩
  rw [← Hrz.out]
  have HT : Hid (∀ W, Chg 0 0 w W → TView W lo hi (.agg #[.int .i64 t.seq, .slice po t.homes.length pcap, .slice ao t.revs.length cap]) t) := fun W hW => hT.chg hW (by omega)
  have hA : Chg 0 0 w ((w.alloc (logO 31 sz st sq hd us)).alloc (.cells #[.int .i64 t.seq, .slice po t.homes.length pcap, .slice ao t.revs.length cap] 35)) := (Chg.alloc (Chg.refl 0 0 w) _).alloc _
  obtain ⟨z, b0, b1⟩ := alloc2 w (logO 31 sz st sq hd us) (.cells #[.int .i64 t.seq, .slice po t.homes.length pcap, .slice ao t.revs.length cap] 35)
  clear hT p1 v1
  have hN : ∀ (W : World), Chg 0 0 w W → validLog sz st sq hd us = true → t.seq = sq → sq < 4294967295 → Calls Tryz.prog 47 #[.agg #[.int .i64 t.seq, .slice po t.homes.length pcap, .slice ao t.revs.length cap], .int .i64 (sz - us)] W fun e w' => e = .returned (.int .i64 rz) ∧ Chg 0 0 W w' := by
    intro W hW hvl hsq hlt
    have hIn := InLog_of hvl
    unfold InLog at hIn
    have Ht : (if ((TL t).length : Int) ≤ sz - us then ((TL t).length : Int) else 0) = rz := by
      rw [Hrz.out]
      unfold takesB
      by_cases hvt : validT t = true
      · rw [hvl, hvt, decide_eq_true hsq.symm, decide_eq_true hlt]
        simp
      · rw [TL_none hvt]
        simp
    rw [← Ht]
    exact lengthWithin_calls W (sz - us) (by omega) hl (by have := hW.size; omega) hby (hM.chg hW (by omega)) (HT.out W hW)
  clear HT hM
  go_enter Tryz.func23, Tryz.ntmps23
  go_wp2_with fail
  generalize (w.alloc (logO 31 sz st sq hd us)).alloc (.cells #[.int .i64 t.seq, .slice po t.homes.length pcap, .slice ao t.revs.length cap] 35) = w0 at *
  refine (implValidLog_calls _ sz st sq hd us).mono ?_
  rintro e w1 ⟨rfl, h1⟩
  have B0 := (h1.block _ (by omega) (by omega)).trans b0
  have B1 := (h1.block _ (by omega) (by omega)).trans b1
  have HA : Hid (Chg 0 0 w w1) := hA.trans h1
  obtain ⟨x0, x1, x2, x3, x4⟩ := five_cells B0
  obtain ⟨⟨k0, k1, k2⟩, _⟩ := tri B1
  clear h1 b0 b1 B0 B1 hA
  by_cases hvl : validLog sz st sq hd us = true
  case neg =>
    rw [Bool.not_eq_true] at hvl
    have Ht : Hid (rz = 0) := by show _ = _; rw [Hrz.out]; unfold takesB; rw [hvl]; rfl
    rw [hvl]
    clear hvl hN
    go_wp2
    go_ret
    exact ⟨by rw [Ht.out]; rfl, HA.out⟩
  have hIn := InLog_of hvl
  by_cases hsq : t.seq = sq
  case neg =>
    have Ht : Hid (rz = 0) := by show _ = _; rw [Hrz.out]; unfold takesB; rw [decide_eq_false (fun e => hsq e.symm)]; simp
    rw [hvl]
    clear hvl hN
    go_wp2
    go_ret
    exact ⟨by rw [Ht.out]; rfl, HA.out⟩
  by_cases hlt : sq < 4294967295
  case neg =>
    have Ht : Hid (rz = 0) := by show _ = _; rw [Hrz.out]; unfold takesB; rw [decide_eq_false hlt]; simp
    rw [hvl]
    clear hvl hN
    go_wp2
    go_ret
    exact ⟨by rw [Ht.out]; rfl, HA.out⟩
  unfold InLog at hIn
  have hN := fun W h => hN W h hvl hsq hlt
  have hwr : IntKind.i64.wrap (sz - us) = sz - us := by rw [IntKind.wrap_i64]; omega
  rw [hvl]
  have hvs : (t.seq != sq) = false := by rw [hsq]; simp
  clear hvl hsq
  go_wp2_with fail
  refine (hN _ HA.out).mono ?_
  rintro e w3 ⟨rfl, h3⟩
  have HA3 : Hid (Chg 0 0 w w3) := HA.out.trans h3
  clear h3 hN
  go_wp2
  go_ret
  exact ⟨rfl, HA3.out⟩

end Go.Proofs.YtahjaejepkgfdaaGreatDoor

namespace Go.Proofs.YtahjaejepkgfdaaGreatDoor
open Go.RowKit

/-- LogNext. -/
def nextV (sz st sq hd us : Int) (t : Tx) : Value := if takesB sz st sq hd us t = true then logV sz (if st = 0 then hd else st) (sq + 1) (placeI sz hd ((TL t).length : Int)) (us + ((TL t).length : Int)) else logV 0 0 0 0 0

theorem takesB_spec {sz st sq hd us : Int} {t : Tx} (h : takesB sz st sq hd us t = true) : InLog sz st sq hd us ∧ validT t = true ∧ sq = t.seq ∧ sq < 4294967295 ∧ ((TL t).length : Int) ≤ sz - us := by
  unfold takesB at h
  simp only [Bool.and_eq_true, decide_eq_true_eq] at h
  exact ⟨InLog_of h.1, h.2⟩

theorem nextV_log (sz st sq hd us : Int) (t : Tx) : ∃ a b c d e, nextV sz st sq hd us t = logV a b c d e := by
  unfold nextV
  split
  · exact ⟨_, _, _, _, _, rfl⟩
  · exact ⟨_, _, _, _, _, rfl⟩

end Go.Proofs.YtahjaejepkgfdaaGreatDoor

namespace Go.Proofs.YtahjaejepkgfdaaGreatDoor
open Go.RowKit

/-- What lies in memory while a block is sealed. -/
structure Seal (w x : World) (cur : List Value) : Prop where
  b0 : x.heap[w.heap.size]? = some (.cells cur.toArray 60 (0, 0))
  b1 : x.heap[w.heap.size + 1]? = some (.cells Z64.toArray 60 (0, 0))
  ch : Chg 0 0 w x
theorem Seal.lt {w x : World} {cur : List Value} (h : Seal w x cur) : w.heap.size + 1 < x.heap.size := (Array.getElem?_eq_some_iff.1 h.b1).1
theorem Seal.chg {w x y : World} {cur : List Value} (h : Seal w x cur) (c : Chg 0 0 x y) : Seal w y cur :=
  have := h.lt
  ⟨(c.block _ (by omega) (by omega)).trans h.b0, (c.block _ (by omega) (by omega)).trans h.b1, h.ch.trans c⟩
theorem Seal.put {w x y : World} {cur cur' : List Value} (h : Seal w x cur) (c : Chg w.heap.size (w.heap.size + 1) x y) (hb : y.heap[w.heap.size]? = some (.cells cur'.toArray 60 (0, 0))) : Seal w y cur' :=
  have := h.lt
  ⟨hb, (c.block _ (by omega) (by omega)).trans h.b1, h.ch.step c (by omega)⟩

set_option maxRecDepth 20000 in
set_option maxHeartbeats 4000000 in
theorem sealed_calls (w : World) (xa zs : List Int) (hx : xa.length = 60) (hz : zs.length = 4) (hB : Byt xa) :
    Calls Tryz.prog 161 #[.agg ((xa ++ zs).map (Value.int .u8)).toArray] w fun e w' => e = .returned (.agg ((xa ++ putN (crcV xa) 4).map (Value.int .u8)).toArray) ∧ Chg 0 0 w w' := by
  obtain ⟨hc0, hc1⟩ := crcV_range xa
  have Hc4 : Hid ((putN (crcV xa) 4).length = 4) := pn4 hc0 hc1
  have Hal : Hid (xa.length = 60) := hx
  have Hzl : Hid (zs.length = 4) := hz
  have HBy : Hid (Byt xa) := hB
  obtain ⟨cv, Hcv⟩ : ∃ cv, Hid (cv = crcV xa) := ⟨_, rfl⟩
  have hcm : cv ≤ 9223372036854775807 := by rw [Hcv.out]; omega
  obtain ⟨bs, Hbs⟩ : ∃ bs, Hid (bs = (xa ++ zs).map (Value.int .u8)) := ⟨_, rfl⟩
  have Hbl : Hid (bs.length = 64) := by show _ = _; rw [Hbs.out, List.length_map, List.length_append, hx, hz]
  have HE : Hid (Seal w ((w.alloc (.cells bs.toArray 60)).alloc (.cells Z64.toArray 60)) bs) := by
    obtain ⟨z1, z2, z3⟩ := alloc2 w (.cells bs.toArray 60) (.cells Z64.toArray 60)
    exact ⟨z2, z3, (Chg.alloc (Chg.refl 0 0 w) _).alloc _⟩
  rw [← Hbs.out, ← Hcv.out]
  rw [← Hcv.out] at Hc4
  clear hx hz hB hc0 hc1
  go_enter Tryz.func161, Tryz.ntmps161
  go_upto_region 1 with fail
  simp only [Z64_eq]
  generalize (w.alloc (.cells bs.toArray 60)).alloc (.cells Z64.toArray 60) = w4 at *
  go_cut [7] (fun _ wx => Seal w wx (splice bs 60 ((putN cv 4).map (Value.int .u8))))
  case first =>
    have HB1 : Hid (Seal w w4.drew bs) := HE.out.chg (Chg.drew (Chg.refl 0 0 w4))
    have HS0 : Hid ((fun _ : World => True) w4.drew) := trivial
    refine held_region (fun _ : World => True) (by kernel_rfl) ?_
    refine held_take 0 (.slice (some ⟨w.heap.size, 60, none⟩) 4 4) rfl (by kernel_rfl) (by kernel_rfl) (by kernel_rfl) (fun _ _ _ h => h) (.inl ⟨by kernel_rfl, fun w' hw' => by go_simp⟩) HS0.out ?_
    go_simp
    refine held_take 1 (.slice (some ⟨w.heap.size, 0, none⟩) 60 64) rfl (by kernel_rfl) (by kernel_rfl) (by kernel_rfl) (fun _ _ _ h => h) (.inl ⟨by kernel_rfl, fun w' hw' => by go_simp⟩) HS0.out ?_
    go_simp
    generalize w4.drew = x1 at *
    have hlt := HB1.out.lt
    have hvw : View x1 w.heap.size (w.heap.size + 1) .u8 (.slice (some ⟨w.heap.size, 0, none⟩) 60 64) xa := by
      have h0 := HB1.out.b0
      rw [Hbs.out] at h0
      have hv := row_view h0 0 60 64 (by rw [List.length_append, Hal.out]; omega) (by rw [List.length_append, Hal.out, Hzl.out]; decide) (by omega)
      rwa [List.drop_zero, List.take_append_of_le_length (by rw [Hal.out]; exact Nat.le_refl _), List.take_of_length_le (by rw [Hal.out]; exact Nat.le_refl _)] at hv
    have hN := implCrc_calls x1 HBy.out hvw (by omega)
    rw [← Hcv.out] at hN
    refine held_one 2 rfl rfl (by kernel_rfl) ?_
    refine wp_enter 162 #[.slice (some ⟨w.heap.size, 0, none⟩) 60 64] (by first | kernel_rfl | go_simp) hN ?_
    rintro e x2 ⟨rfl, c2⟩
    have HB2 : Hid (Seal w x2 bs) := HB1.out.chg c2
    refine ⟨_, rfl, trivial, ?_⟩
    clear hN hvw c2
    go_simp
    have hN := implPut_calls x2 cv 4 (by omega)
    refine held_one 3 rfl rfl (by kernel_rfl) ?_
    refine wp_enter 86 #[.int .i64 cv, .int .i64 4] (by first | kernel_rfl | go_simp) hN ?_
    rintro e x3 ⟨r, rfl, o2, c2⟩
    have HB3 : Hid (Seal w x3 bs) := HB2.out.chg c2
    obtain ⟨g, gc, rfl, hcell⟩ : ∃ g gc, r = .slice (some ⟨g, 0, none⟩) 4 gc ∧ ∀ i, i < 4 → x3.cell? ⟨g, i, none⟩ = some (.int .u8 ((putN cv 4).getD i 0)) := by
      have hv := o2.view (hi := x3.heap.size) (by rw [Hc4.out]; omega) (fun g hg => (o2.lt g hg).2)
      rcases o2.2 with ⟨_, h0⟩ | ⟨g, gc, cur, rfl, _⟩
      · rw [Hc4.out] at h0; omega
      · refine ⟨g, gc, by rw [Hc4.out], fun i hi => hv.cellAt' i (by rw [Hc4.out]; exact hi)⟩
    refine ⟨_, rfl, trivial, ?_⟩
    have Hcell : Hid (∀ i, i < 4 → x3.cell? ⟨g, i, none⟩ = some (.int .u8 ((putN cv 4).getD i 0))) := hcell
    clear hN o2 c2 hcell
    go_simp
    refine held_one 4 rfl rfl (by kernel_rfl) ?_
    refine wp_copy_row (.tmp 3) (.tmp 6) 45 45 rfl 5 Tryz.underlying45 (by kernel_rfl) w.heap.size 60 4 4 ⟨g, 0, none⟩ 4 gc rfl rfl bs 60 HB3.out.b0 ((putN cv 4).map (Value.int .u8)) (by rw [List.length_map, Hc4.out]; rfl) ?_ (by rw [List.length_map, Hc4.out, Hbl.out]; decide) (ints_oneCell _ _) ?_
    · intro j v hj
      have hj4 : j < 4 := by have := (List.getElem?_eq_some_iff.1 hj).1; rwa [List.length_map, Hc4.out] at this
      have hjl : j < (putN cv 4).length := by rw [Hc4.out]; exact hj4
      rw [Addr.add_mid, Nat.zero_add, Hcell.out j hj4, ← hj]
      simp [List.getD_eq_getElem?_getD, hjl]
    intro x4 hb4 hc4
    have HB4 : Hid (Seal w x4 (splice bs 60 ((putN cv 4).map (Value.int .u8)))) := HB3.out.put hc4 hb4.out
    refine ⟨trivial, ?_⟩
    clear hb4 hc4
    go_simp
    refine held_done (by kernel_rfl) (NoPanic.normal ?_)
    go_wp2
    go_meet
    exact HB4.out
  case rest =>
    have hF : splice bs 60 ((putN cv 4).map (Value.int .u8)) = (xa ++ putN cv 4).map (Value.int .u8) := by
      have hm : (xa.map (Value.int .u8)).length = 60 := by rw [List.length_map]; exact Hal.out
      have e1 : bs.take 60 = xa.map (Value.int .u8) := by
        rw [Hbs.out, List.map_append, List.take_append_of_le_length (by rw [hm]; exact Nat.le_refl _), List.take_of_length_le (by rw [hm]; exact Nat.le_refl _)]
      have e2 : bs.drop (60 + ((putN cv 4).map (Value.int .u8)).length) = [] := by
        apply List.drop_eq_nil_of_le
        rw [List.length_map, Hbl.out, Hc4.out]
        decide
      rw [List.map_append (l₁ := xa) (l₂ := putN cv 4)]
      unfold splice
      rw [e1, e2, List.append_nil]
    rw [hF] at hcut
    have hln : ((xa ++ putN cv 4).map (Value.int .u8)).length = 64 := by
      rw [List.length_map, List.length_append, Hal.out, Hc4.out]
    obtain ⟨cs, hcs⟩ : ∃ cs, cs = (xa ++ putN cv 4).map (Value.int .u8) := ⟨_, rfl⟩
    have HV2 : Hid (∀ v ∈ cs, v.oneCell' = true) := by show ∀ v ∈ cs, v.oneCell' = true; rw [hcs]; exact ints_oneCell _ _
    rw [← hcs] at hcut hln
    have HBm : Hid (Seal w wc cs) := hcut
    generalize wc = wf at *
    have Hcs : Hid (cs = (xa ++ putN cv 4).map (Value.int .u8)) := hcs
    have hics : (Tryz.prog.info? 60).map (·.size) = some cs.length := by rw [hln]; kernel_rfl
    have Hln : Hid (cs.length = 64) := hln
    have u44 := Tryz.underlying60
    have HR : Hid (wf.rangeAt w.heap.size 0 cs) := row_rng HBm.out.b0
    have hlt := HBm.out.lt
    clear hF hln hcs hcut HE
    go_wp2_with (first
      | (refine wpList_load_mid rfl 60 (.tmp 1) rfl w.heap.size 0 rfl cs _ HR.out u44 rfl hics ?_)
      | (refine wpList_store_row rfl 60 (.tmp 2) (.tmp 8) rfl rfl (w.heap.size + 1) rfl cs Z64 60 rfl HBm.out.b1 (by rw [Z64_length]; exact Hln.out) hics HV2.out ?_; intro wg hbg hcg))
    have HCg : Hid (Chg 0 0 w wg) := HBm.out.ch.step hcg (by omega)
    have hl1 : (loadVar 60 ⟨w.heap.size + 1, 0, none⟩).run Tryz.prog wg = .ok (.agg cs.toArray) wg := run_loadVar_mid _ _ _ _ cs _ (row_rng hbg) u44 rfl hics
    go_wp2
    exact bodyPost_ret (v := .agg cs.toArray) (results_one Tryz.results161 rfl hl1) rfl ⟨by rw [Hcs.out], HCg.out⟩

end Go.Proofs.YtahjaejepkgfdaaGreatDoor
