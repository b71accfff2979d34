/- Several short texts in one: ImplEncS, OkSup, SpecSuper. -/
import Derived.Test.YtahjaejepkgfdaaGreatDoorJEnc
import Derived.Test.YtahjaejepkgfdaaGreatDoorImplSealed
import Derived.Deep.DeepCutAuto
import Derived.Test.YtahjaejepkgfdaaGreatDoorGoodBlk
import Derived.Test.YtahjaejepkgfdaaGreatDoorPutByt
import Derived.Test.YtahjaejepkgfdaaGreatDoorSpecCrc
import Derived.Test.YtahjaejepkgfdaaGreatDoorSpecBeg
import Derived.Deep.RegionWith
namespace Go.Proofs.YtahjaejepkgfdaaGreatDoor
open Go.RowKit

/-- The first sixty bytes; all. -/
def supA (h0 h1 h2 h3 kd it sq st : Int) : List Int := [h0, h1, h2, h3, kd, 0] ++ putN it 2 ++ putN sq 4 ++ putN st 2 ++ List.replicate 46 0
def supL (h0 h1 h2 h3 kd it sq st : Int) : List Int := supA h0 h1 h2 h3 kd it sq st ++ putN (crcV (supA h0 h1 h2 h3 kd it sq st)) 4

theorem supA_length {h0 h1 h2 h3 kd it sq st : Int} (hi2 : (putN it 2).length = 2) (hq4 : (putN sq 4).length = 4) (ht2 : (putN st 2).length = 2) : (supA h0 h1 h2 h3 kd it sq st).length = 60 := by
  unfold supA; simp [hi2, hq4, ht2]

abbrev jsO (t : TypeId) (h0 h1 h2 h3 kd it sq st : Int) : Obj := .cells #[.int .u8 h0, .int .u8 h1, .int .u8 h2, .int .u8 h3, .int .i64 kd, .int .i64 it, .int .i64 sq, .int .i64 st] t

set_option maxRecDepth 20000 in
set_option maxHeartbeats 4000000 in
theorem encodedS_calls (w : World) (h0 h1 h2 h3 kd it sq st : Int) (hk0 : 0 ≤ kd) (hk1 : kd < 256) (hi : it ≤ 9223372036854775807) (hq : sq ≤ 9223372036854775807) (ht : st ≤ 9223372036854775807) (hi2 : (putN it 2).length = 2) (hq4 : (putN sq 4).length = 4) (ht2 : (putN st 2).length = 2)
    (hc4 : (putN (crcV (supA h0 h1 h2 h3 kd it sq st)) 4).length = 4) (hB : Byt (supA h0 h1 h2 h3 kd it sq st)) (_ : crcV (supA h0 h1 h2 h3 kd it sq st) ≤ 9223372036854775807) :
    Calls Tryz.prog 159 #[.agg #[.int .u8 h0, .int .u8 h1, .int .u8 h2, .int .u8 h3, .int .i64 kd, .int .i64 it, .int .i64 sq, .int .i64 st]] w fun e w' => e = .returned (.agg ((supL h0 h1 h2 h3 kd it sq st).map (Value.int .u8)).toArray) ∧ Chg 0 0 w w' := by
  have hN := fun w => begun_calls w h0 h1 h2 h3 kd it sq hk0 hk1 hi hq hi2 hq4
  have Hi2 : Hid _ := hi2
  have Hq4 : Hid _ := hq4
  have Ht2 : Hid _ := ht2
  have Hc4 : Hid _ := hc4
  have HBy : Hid _ := hB
  have hbl := begL_length (h0 := h0) (h1 := h1) (h2 := h2) (h3 := h3) (kd := kd) hi2 hq4
  obtain ⟨bs, Hbs⟩ : ∃ bs, Hid (bs = (begL h0 h1 h2 h3 kd it sq).map (Value.int .u8)) := ⟨_, rfl⟩
  have Hbl : Hid (bs.length = 64) := by show _ = _; rw [Hbs.out, List.length_map]; exact hbl
  have HV : Hid (∀ v ∈ bs, v.oneCell' = true) := by show ∀ v ∈ bs, v.oneCell' = true; rw [Hbs.out]; exact ints_oneCell _ _
  rw [← Hbs.out] at hN
  have hib : (Tryz.prog.info? 60).map (·.size) = some bs.length := by rw [Hbl.out]; kernel_rfl
  obtain ⟨z1, z2, z3⟩ := alloc2 w (jsO 136 h0 h1 h2 h3 kd it sq st) (.cells Z64.toArray 60)
  have hA : Chg 0 0 w ((w.alloc (jsO 136 h0 h1 h2 h3 kd it sq st)).alloc (.cells Z64.toArray 60)) := (Chg.alloc (Chg.refl 0 0 w) _).alloc _
  have HZ : Hid (_ ∧ _ ∧ _ ∧ _) := ⟨z1, z2, z3, hA⟩
  clear z1 z2 z3 hA hi2 hq4 ht2 hc4 hbl hB
  go_enter Tryz.func159, Tryz.ntmps159
  go_wp2_with fail
  simp only [Z64_eq]
  generalize ((w.alloc (jsO 136 h0 h1 h2 h3 kd it sq st)).alloc (.cells Z64.toArray 60)) = wa at *
  refine (hN wa).mono ?_
  rintro e w2 ⟨rfl, hc2⟩
  have HE : Hid (Enc w (w2.alloc (.cells Z64.toArray 60)) w2.heap.size (jsO 136 h0 h1 h2 h3 kd it sq st) Z64) := by
    obtain ⟨z1, z2, z3, hA⟩ := HZ.out
    have s2 := hc2.size
    have hc3 : Chg 0 0 wa (w2.alloc (.cells Z64.toArray 60)) := hc2.alloc _
    exact ⟨(hc3.block _ (by omega) (by omega)).trans z2, (hc3.block _ (by omega) (by omega)).trans z3, heap_new _ _, by omega, hA.trans hc3⟩
  clear hN hc2 HZ
  have hg := HE.out.b2
  rw [← Z64_eq] at hg
  have Hg : Hid (_ = _) := hg
  clear hg
  go_upto_region 2 with (first
    | (refine wpList_store_row rfl 60 (.tmp 3) (.tmp 6) rfl rfl w2.heap.size rfl bs _ 60 rfl Hg.out (by rw [Hbl.out]; rfl) hib HV.out ?_; intro w3 hb3 hc3))
  simp only [Z64_eq] at hc3
  clear Hg
  have HE3 : Hid _ := HE.out.put hc3 hb3
  have hlo := HE3.out.lo
  generalize w2.heap.size = N at *
  clear hb3 hc3 HE
  go_cut [11] (fun _ wx => Enc w wx N (jsO 136 h0 h1 h2 h3 kd it sq st) (splice bs 12 ((putN st 2).map (Value.int .u8))))
  case first =>
    have HB1 : Hid _ := HE3.out.chg (Chg.drew (Chg.refl 0 0 w3))
    have HS0 : Hid ((fun w' : World => w'.cell? ⟨w.heap.size, 7, none⟩ = some (.int .i64 st)) w3.drew) := by
      have hb := HB1.out.b0
      show _ = _
      simp [World.cell?, hb]
    refine held_region (fun w' : World => w'.cell? ⟨w.heap.size, 7, none⟩ = some (.int .i64 st)) (by kernel_rfl) ?_
    refine held_take 0 (.slice (some ⟨N, 12, none⟩) 52 52) rfl (by kernel_rfl) (by kernel_rfl) (by kernel_rfl) (fun _ _ _ h => h) (.inl ⟨by kernel_rfl, fun w' hw' => by go_simp⟩) HS0.out ?_
    go_simp
    refine held_take 1 (.pointer (some ⟨w.heap.size, 7, none⟩)) rfl (by kernel_rfl) (by kernel_rfl) (by kernel_rfl) (fun _ _ _ h => h) (.inl ⟨by kernel_rfl, fun w' hw' => by go_simp⟩) HS0.out ?_
    go_simp
    refine held_take 2 (.int .i64 st) rfl (by kernel_rfl) (by kernel_rfl) (by kernel_rfl) (fun _ _ _ h => h) (.inl ⟨by kernel_rfl, fun w' hw' => by have h4 : w'.cell? _ = _ := hw'; go_simp⟩) HS0.out ?_
    go_simp
    generalize w3.drew = x1 at *
    have hlt := HB1.out.lt
    have hN := implPut_calls x1 st 2 (by omega)
    refine held_one 3 rfl rfl (by kernel_rfl) ?_
    refine wp_enter 86 #[.int .i64 st, .int .i64 2] (by first | kernel_rfl | go_simp) hN ?_
    rintro e x2 ⟨r, rfl, o2, c2⟩
    have HB2 : Hid _ := HB1.out.chg c2
    have HS2 : Hid _ := c2.cell HS0.out (by omega)
    obtain ⟨g, gc, rfl, hcell⟩ : ∃ g gc, r = .slice (some ⟨g, 0, none⟩) 2 gc ∧ ∀ i, i < 2 → x2.cell? ⟨g, i, none⟩ = some (.int .u8 ((putN st 2).getD i 0)) := by
      have hv := o2.view (hi := x2.heap.size) (by rw [Ht2.out]; omega) (fun g hg => (o2.lt g hg).2)
      rcases o2.2 with ⟨_, h0⟩ | ⟨g, gc, cur, rfl, _⟩
      · rw [Ht2.out] at h0; omega
      · refine ⟨g, gc, by rw [Ht2.out], fun i hi => hv.cellAt' i (by rw [Ht2.out]; exact hi)⟩
    refine ⟨_, rfl, HS2.out, ?_⟩
    have Hcell : Hid _ := hcell
    clear hN o2 c2 hcell
    go_simp
    refine held_one 4 rfl rfl (by kernel_rfl) ?_
    refine wp_copy_row (.tmp 7) (.tmp 10) 45 45 rfl 5 Tryz.underlying45 (by kernel_rfl) N 12 52 52 ⟨g, 0, none⟩ 2 gc rfl rfl bs 60 HB2.out.b2 ((putN st 2).map (Value.int .u8)) (by rw [List.length_map, Ht2.out]; rfl) ?_ (by rw [List.length_map, Ht2.out, Hbl.out]; decide) (ints_oneCell _ _) ?_
    · intro j v hj
      have hj4 : j < 2 := by have := (List.getElem?_eq_some_iff.1 hj).1; rwa [List.length_map, Ht2.out] at this
      have hjl : j < (putN st 2).length := by rw [Ht2.out]; exact hj4
      rw [Addr.add_mid, Nat.zero_add, Hcell.out j hj4, ← hj]
      simp [List.getD_eq_getElem?_getD, hjl]
    intro x3 hb3 hc3
    have HB4 : Hid _ := HB2.out.put hc3 hb3.out
    have HS3 : Hid _ := hc3.cell HS2.out (by omega)
    refine ⟨HS3.out, ?_⟩
    clear hb3 hc3
    go_simp
    refine held_done (by kernel_rfl) (NoPanic.normal ?_)
    go_wp2
    go_meet
    exact HB4.out
  case rest =>
    have hF : splice bs 12 ((putN st 2).map (Value.int .u8)) = (supA h0 h1 h2 h3 kd it sq st ++ [0, 0, 0, 0]).map (Value.int .u8) := by
      rw [Hbs.out]
      unfold begL supA
      match h2' : putN it 2, Hi2.out, h4' : putN sq 4, Hq4.out, h5' : putN st 2, Ht2.out with
      | [a, b], _, [c, d, e, f], _, [g, h], _ => unfold splice; rfl
    rw [hF] at hcut
    have hal := supA_length (h0 := h0) (h1 := h1) (h2 := h2) (h3 := h3) (kd := kd) Hi2.out Hq4.out Ht2.out
    have hN2 := fun W => sealed_calls W (supA h0 h1 h2 h3 kd it sq st) [0, 0, 0, 0] hal rfl HBy.out
    have hbl : ((supA h0 h1 h2 h3 kd it sq st ++ [0, 0, 0, 0]).map (Value.int .u8)).length = 64 := by rw [List.length_map, List.length_append, hal]; rfl
    have hcl : ((supA h0 h1 h2 h3 kd it sq st ++ putN (crcV (supA h0 h1 h2 h3 kd it sq st)) 4).map (Value.int .u8)).length = 64 := by rw [List.length_map, List.length_append, hal, Hc4.out]
    obtain ⟨ds, hds⟩ : ∃ ds, ds = (supA h0 h1 h2 h3 kd it sq st ++ [0, 0, 0, 0]).map (Value.int .u8) := ⟨_, rfl⟩
    obtain ⟨cs, hcs⟩ : ∃ cs, cs = (supA h0 h1 h2 h3 kd it sq st ++ putN (crcV (supA h0 h1 h2 h3 kd it sq st)) 4).map (Value.int .u8) := ⟨_, rfl⟩
    have HV2 : Hid (∀ v ∈ cs, v.oneCell' = true) := by show ∀ v ∈ cs, v.oneCell' = true; rw [hcs]; exact ints_oneCell _ _
    have Hcs : Hid (cs = (supL h0 h1 h2 h3 kd it sq st).map (Value.int .u8)) := hcs
    rw [← hds, ← hcs] at hN2
    rw [← hds] at hcut hbl
    rw [← hcs] at hcl
    have HBm : Hid _ := hcut
    generalize wc = wf at *
    have hids : (Tryz.prog.info? 60).map (·.size) = some ds.length := by rw [hbl]; kernel_rfl
    have hics : (Tryz.prog.info? 60).map (·.size) = some cs.length := by rw [hcl]; kernel_rfl
    have Hcl : Hid _ := hcl
    have u44 := Tryz.underlying60
    have HR : Hid _ := row_rng HBm.out.b2
    have hlt := HBm.out.lt
    clear hF hal hbl hcl hds hcs hcut HE3
    go_wp2_with (refine wpList_load_mid rfl 60 (.tmp 3) rfl N 0 rfl ds _ HR.out u44 rfl hids ?_)
    refine (hN2 wf).mono ?_
    rintro e x2 ⟨rfl, c2⟩
    have HB2 : Hid _ := HBm.out.chg c2
    clear hN2 c2 HBm HR
    go_wp2_with (refine wpList_store_row rfl 60 (.tmp 2) (.tmp 13) rfl rfl (w.heap.size + 1) rfl cs Z64 60 rfl HB2.out.b1 (by rw [Z64_length]; exact Hcl.out) hics HV2.out ?_; intro wg hbg hcg)
    have HCg : Hid (Chg 0 0 w wg) := HB2.out.ch.step hcg (by omega)
    have hl1 : (loadVar 60 ⟨w.heap.size + 1, 0, none⟩).run Tryz.prog wg = .ok (.agg cs.toArray) wg := run_loadVar_mid _ _ _ _ cs _ (row_rng hbg) u44 rfl hics
    go_wp2
    exact bodyPost_ret (v := .agg cs.toArray) (results_one Tryz.results159 rfl hl1) rfl ⟨by rw [Hcs.out], HCg.out⟩

end Go.Proofs.YtahjaejepkgfdaaGreatDoor

namespace Go.Proofs.YtahjaejepkgfdaaGreatDoor
open Go.RowKit

theorem supL_length {h0 h1 h2 h3 kd it sq st : Int} (hi2 : (putN it 2).length = 2) (hq4 : (putN sq 4).length = 4) (ht2 : (putN st 2).length = 2) (hc4 : (putN (crcV (supA h0 h1 h2 h3 kd it sq st)) 4).length = 4) : (supL h0 h1 h2 h3 kd it sq st).length = 64 := by
  unfold supL; rw [List.length_append, supA_length hi2 hq4 ht2, hc4]

/-- The numbers of a superblock that is valid. -/
structure OkS (it sq st : Int) : Prop where
  a1 : 1 ≤ sq
  a2 : sq ≤ 4294967295
  a3 : 16 ≤ it
  a4 : it ≤ 512
  a5 : 0 ≤ st
  a6 : st ≤ it

end Go.Proofs.YtahjaejepkgfdaaGreatDoor

namespace Go.Proofs.YtahjaejepkgfdaaGreatDoor
open Go.RowKit

theorem supA_head (c q s : Int) : headL 1 c q ++ putN s 2 ++ List.replicate 46 0 = supA 106 108 111 103 1 c q s := by
  unfold headL supA mg
  simp

set_option maxRecDepth 20000 in
set_option maxHeartbeats 4000000 in
theorem specJSuper_ok (w : World) (c s q : Int) (h : OkS c q s) (hB : Byt (supA 106 108 111 103 1 c q s)) :
    Calls Tryz.prog 39 #[.agg #[.int .i64 c, .int .i64 s, .int .i64 q]] w fun e w' => ∃ v, e = .returned v ∧ OwnB w' w.heap.size 5 v (supL 106 108 111 103 1 c q s) ∧ Chg 0 0 w w' := by
  obtain ⟨a1, a2, a3, a4, a5, a6⟩ := h
  have Hc2 : Hid ((putN c 2).length = 2) := pn2 (by omega) (by omega)
  have Hq4 : Hid ((putN q 4).length = 4) := pn4 (by omega) (by omega)
  have Hs2 : Hid _ := pn2 (by omega) (by omega)
  have HBy : Hid _ := hB
  have hg : goodSeq q = true := by unfold goodSeq; rw [decide_eq_true a1, decide_eq_true a2]; rfl
  have C0 : Chg 0 0 w (w.alloc (.cells #[.int .i64 c, .int .i64 s, .int .i64 q] 75)) := Chg.alloc (Chg.refl 0 0 w) _
  have B0 := heap_new w (.cells #[.int .i64 c, .int .i64 s, .int .i64 q] 75)
  have s0 : (w.alloc (.cells #[.int .i64 c, .int .i64 s, .int .i64 q] 75)).heap.size = w.heap.size + 1 := by simp
  have hN := l3GoodSeq_calls (w.alloc (.cells #[.int .i64 c, .int .i64 s, .int .i64 q] 75)) q
  rw [hg] at hN
  have HB : Hid _ := B0
  have HC : Hid _ := C0
  have b1 : ¬ c < 16 := by omega
  have b2 : ¬ 512 < c := by omega
  have b3 : ¬ s < 0 := by omega
  have b4 : ¬ c < s := by omega
  clear C0 B0 hB hg
  go_enter Tryz.func39, Tryz.ntmps39
  go_wp2_with fail
  generalize w.alloc (.cells #[.int .i64 c, .int .i64 s, .int .i64 q] 75) = w1 at *
  refine hN.mono ?_
  rintro e w2 ⟨rfl, rfl⟩
  have hlt : w.heap.size < w2.heap.size := by omega
  clear hN s0
  obtain ⟨k0, k1, k2⟩ := trio HB.out
  go_upto_region 4 with fail
  go_cut [4] (fun s4 wx => OwnB wx w.heap.size 5 s4 (headL 1 c q ++ putN s 2) ∧ Chg 0 0 w2 wx)
  case first =>
    have HS0 : Hid (w2.drew.cell? ⟨w.heap.size, 0, none⟩ = some (.int .i64 c) ∧ w2.drew.cell? ⟨w.heap.size, 1, none⟩ = some (.int .i64 s) ∧ w2.drew.cell? ⟨w.heap.size, 2, none⟩ = some (.int .i64 q)) := ⟨k0, k1, k2⟩
    have HC0 : Hid _ := Chg.drew (Chg.refl 0 0 w2)
    have hq2 : q ≤ 9223372036854775807 := by omega
    clear k0 k1 k2
    refine held_region (fun w' : World => w'.cell? ⟨w.heap.size, 0, none⟩ = some (.int .i64 c) ∧ w'.cell? ⟨w.heap.size, 1, none⟩ = some (.int .i64 s) ∧ w'.cell? ⟨w.heap.size, 2, none⟩ = some (.int .i64 q)) (by kernel_rfl) ?_
    refine held_take 0 (.pointer (some ⟨w.heap.size, 0, none⟩)) rfl (by kernel_rfl) (by kernel_rfl) (by kernel_rfl) (fun _ _ _ h => h) (.inl ⟨by kernel_rfl, fun w' hw' => by have h4 := hw'.1; have h5 := hw'.2.1; have h6 := hw'.2.2; go_simp⟩) HS0.out ?_
    go_simp
    refine held_take 1 (.int .i64 c) rfl (by kernel_rfl) (by kernel_rfl) (by kernel_rfl) (fun _ _ _ h => h) (.inl ⟨by kernel_rfl, fun w' hw' => by have h4 := hw'.1; have h5 := hw'.2.1; have h6 := hw'.2.2; go_simp⟩) HS0.out ?_
    go_simp
    refine held_take 2 (.pointer (some ⟨w.heap.size, 2, none⟩)) rfl (by kernel_rfl) (by kernel_rfl) (by kernel_rfl) (fun _ _ _ h => h) (.inl ⟨by kernel_rfl, fun w' hw' => by have h4 := hw'.1; have h5 := hw'.2.1; have h6 := hw'.2.2; go_simp⟩) HS0.out ?_
    go_simp
    refine held_take 3 (.int .i64 q) rfl (by kernel_rfl) (by kernel_rfl) (by kernel_rfl) (fun _ _ _ h => h) (.inl ⟨by kernel_rfl, fun w' hw' => by have h4 := hw'.1; have h5 := hw'.2.1; have h6 := hw'.2.2; go_simp⟩) HS0.out ?_
    go_simp
    refine held_take 5 (.pointer (some ⟨w.heap.size, 1, none⟩)) rfl (by kernel_rfl) (by kernel_rfl) (by kernel_rfl) (fun _ _ _ h => h) (.inl ⟨by kernel_rfl, fun w' hw' => by have h4 := hw'.1; have h5 := hw'.2.1; have h6 := hw'.2.2; go_simp⟩) HS0.out ?_
    go_simp
    refine held_take 6 (.int .i64 s) rfl (by kernel_rfl) (by kernel_rfl) (by kernel_rfl) (fun _ _ _ h => h) (.inl ⟨by kernel_rfl, fun w' hw' => by have h4 := hw'.1; have h5 := hw'.2.1; have h6 := hw'.2.2; go_simp⟩) HS0.out ?_
    go_simp
    have hds : w.heap.size < w2.drew.heap.size := by show w.heap.size < w2.heap.size; omega
    generalize w2.drew = w3 at *
    have hN := l3Head_calls w3 1 c q (by omega) (by omega) (by omega) Hc2.out Hq4.out
    refine held_one 4 rfl rfl (by kernel_rfl) ?_
    refine wp_enter 62 #[.int .i64 1, .int .i64 c, .int .i64 q] (by first | kernel_rfl | go_simp) hN ?_
    rintro e w4 ⟨v4, rfl, o4, h4⟩
    obtain ⟨e4, l4, c4, rfl⟩ := row_slice o4
    have HS4 : Hid (w4.cell? ⟨w.heap.size, 0, none⟩ = some (.int .i64 c) ∧ w4.cell? ⟨w.heap.size, 1, none⟩ = some (.int .i64 s) ∧ w4.cell? ⟨w.heap.size, 2, none⟩ = some (.int .i64 q)) := ⟨h4.cell HS0.out.1 (by omega), h4.cell HS0.out.2.1 (by omega), h4.cell HS0.out.2.2 (by omega)⟩
    have s4 := h4.size
    have HO4 : Hid (OwnB w4 w3.heap.size 5 (.slice e4 l4 c4) (headL 1 c q)) := o4
    have HC4 : Hid _ := HC0.out.trans h4
    refine ⟨_, rfl, HS4.out, ?_⟩
    clear hN o4 h4
    go_simp
    have hN := specPut_calls w4 s 2 (by omega)
    refine held_one 7 rfl rfl (by kernel_rfl) ?_
    refine wp_enter 63 #[.int .i64 s, .int .i64 2] (by first | kernel_rfl | go_simp) hN ?_
    rintro e w5 ⟨v5, rfl, o5, h5⟩
    have HS5 : Hid (_ ∧ _ ∧ _) := ⟨h5.cell HS4.out.1 (by omega), h5.cell HS4.out.2.1 (by omega), h5.cell HS4.out.2.2 (by omega)⟩
    have s5 := h5.size
    have HV4 : Hid (View w5 w3.heap.size w4.heap.size .u8 (.slice e4 l4 c4) (headL 1 c q)) := (HO4.out.view (by have h1 := Hc2.out; have h2 := Hq4.out; simp [headL, mg, h1, h2]) (fun g hg => (HO4.out.lt g hg).2)).chg h5 (by omega)
    have HV5 : Hid (View w5 w4.heap.size w5.heap.size .u8 v5 (putN s 2)) := o5.view (by rw [Hs2.out]; omega) (fun g hg => (o5.lt g hg).2)
    obtain ⟨e5, l5, c5, rfl⟩ := row_slice o5
    have HC5 : Hid _ := HC4.out.trans h5
    refine ⟨_, rfl, HS5.out, ?_⟩
    clear hN o5 h5
    go_simp
    obtain ⟨b5, f5, rfl⟩ : ∃ b f, e5 = some ⟨b, f, none⟩ := by
      obtain ⟨ao, cap, e, _, _, h⟩ := HV5.out
      rcases h with h | ⟨b, off, hb, _⟩
      · have := Hs2.out; rw [h] at this; simp at this
      · simp only [Value.slice.injEq] at e
        exact ⟨b, off, by rw [e.1, hb]⟩
    have hN := l2Join_calls (xs := headL 1 c q) (ys := putN s 2) w5 (by have h1 := Hc2.out; have h2 := Hq4.out; simp [headL, mg, h1, h2]) (by rw [Hs2.out]; omega) HV4.out HV5.out (by rw [Hs2.out]; omega)
    refine held_one 8 rfl rfl (by kernel_rfl) ?_
    refine wp_enter 42 #[.slice e4 l4 c4, .slice (some ⟨b5, f5, none⟩) l5 c5] (by first | kernel_rfl | go_simp) hN ?_
    rintro e w6 ⟨v6, rfl, o6, h6⟩
    have HS6 : Hid (_ ∧ _ ∧ _) := ⟨h6.cell HS5.out.1 (by omega), h6.cell HS5.out.2.1 (by omega), h6.cell HS5.out.2.2 (by omega)⟩
    have s6 := h6.size
    have Hl14 : Hid ((headL 1 c q ++ putN s 2).length = 14) := by
      show _ = _
      have h1 := Hc2.out; have h2 := Hq4.out; have h3 := Hs2.out
      simp [headL, mg, h1, h2, h3]
    have HO6 : Hid (OwnB w6 w.heap.size 5 v6 (headL 1 c q ++ putN s 2)) := o6.base (fun g hg => by have := (o6.lt g hg).1; omega)
    obtain ⟨e6, l6, c6, rfl⟩ := row_slice o6
    have HC6 : Hid _ := HC5.out.trans h6
    refine ⟨_, rfl, HS6.out, ?_⟩
    clear hN o6 h6
    go_simp
    refine held_one 9 rfl rfl (by kernel_rfl) ?_
    go_simp
    refine ⟨HS6.out, ?_⟩
    refine held_done (by kernel_rfl) (NoPanic.normal ?_)
    go_wp2
    go_meet
    exact ⟨HO6.out, HC6.out⟩
  case rest =>
    obtain ⟨ho, hc⟩ := hcut
    have hl14 : (headL 1 c q ++ putN s 2).length = 14 := by
      have h1 := Hc2.out; have h2 := Hq4.out; have h3 := Hs2.out
      simp [headL, mg, h1, h2, h3]
    have Hl14 : Hid _ := hl14
    obtain ⟨hd, Hhd⟩ : ∃ hd, Hid (hd = headL 1 c q ++ putN s 2) := ⟨_, rfl⟩
    rw [← Hhd.out] at ho hl14
    have Hl : Hid _ := hl14
    have sW := hc.size
    have HCw : Hid _ := HC.out.trans hc
    have vh := ho.view (hi := wc.heap.size) (by omega) (fun g hg => (ho.lt g hg).2)
    obtain ⟨e4, l4, c4, rfl⟩ := row_slice ho
    generalize wc = w3 at *
    clear ho hc Hl14 hl14 k0 k1 k2
    have hN := l2Zero_calls w3 46 (by omega)
    go_wp2_with fail
    refine hN.mono ?_
    rintro e w4 ⟨g, rfl, oz, h4⟩
    have s4 := h4.size
    have vz := oz.view (hi := w4.heap.size) (by simp) (fun g hg => (oz.lt g hg).2)
    have vh4 := vh.chg h4 (by omega)
    have HC4 : Hid _ := HCw.out.trans h4
    have hN2 := l2Join_calls (xs := hd) (ys := List.replicate 46 0) w4 (by have := Hl.out; omega) (by simp) vh4 vz (by simp)
    rw [show hd ++ List.replicate 46 0 = supA 106 108 111 103 1 c q s from by rw [Hhd.out]; exact supA_head c q s] at hN2
    clear hN oz h4 vz vh vh4
    go_wp2_with fail
    refine hN2.mono ?_
    rintro e w5 ⟨v5, rfl, o5, h5⟩
    have s5 := h5.size
    have Hal : Hid ((supA 106 108 111 103 1 c q s).length = 60) := supA_length Hc2.out Hq4.out Hs2.out
    have va := o5.view (hi := w5.heap.size) (by rw [Hal.out]; omega) (fun g hg => (o5.lt g hg).2)
    obtain ⟨e5, l5, c5, rfl⟩ := row_slice o5
    have HC5 : Hid _ := HC4.out.trans h5
    obtain ⟨hc0, hc1⟩ := crcV_range (supA 106 108 111 103 1 c q s)
    have hc4 := pn4 hc0 hc1
    have HSL : Hid (supA 106 108 111 103 1 c q s ++ putN (crcV (supA 106 108 111 103 1 c q s)) 4 = supL 106 108 111 103 1 c q s) := rfl
    have hN := specCrc_calls w5 HBy.out va
    have va' := va
    generalize supA 106 108 111 103 1 c q s = xa at *
    generalize crcV xa = cv at *
    have Hc4 : Hid _ := hc4
    clear hN2 o5 h5 hc4
    go_wp2_with fail
    refine hN.mono ?_
    rintro e w6 ⟨rfl, rfl⟩
    have hN3 := specPut_calls w6 cv 4 (by omega)
    clear hN
    go_wp2_with fail
    refine hN3.mono ?_
    rintro e w7 ⟨v7, rfl, o7, h7⟩
    have s7 := h7.size
    have HC7 : Hid _ := HC5.out.trans h7
    have va7 := va.chg h7 (by omega)
    have v7' := o7.view (hi := w7.heap.size) (by rw [Hc4.out]; omega) (fun g hg => (o7.lt g hg).2)
    obtain ⟨g7, c7, rfl⟩ : ∃ g c, v7 = .slice (some ⟨g, 0, none⟩) 4 c := by
      rcases o7.2 with ⟨_, h0⟩ | ⟨g, gc, cur, rfl, _⟩
      · rw [Hc4.out] at h0; omega
      · exact ⟨g, gc, by rw [Hc4.out]⟩
    have hN4 := l2Join_calls (xs := xa) (ys := putN cv 4) w7 (by rw [Hal.out]; omega) (by rw [Hc4.out]; omega) va7 v7' (by rw [Hc4.out]; omega)
    rw [HSL.out] at hN4
    clear hN3 o7 h7 va va' va7 v7'
    go_wp2_with fail
    refine hN4.mono ?_
    rintro e w8 ⟨v8, rfl, o8, h8⟩
    have HO8 : Hid (OwnB w8 w.heap.size 5 v8 (supL 106 108 111 103 1 c q s)) := o8.base (fun g hg => by have := (o8.lt g hg).1; have := HC7.out.size; omega)
    have HC8 : Hid _ := HC7.out.trans h8
    clear hN4 o8 h8
    go_wp2
    go_ret
    exact ⟨_, rfl, HO8.out, HC8.out⟩

end Go.Proofs.YtahjaejepkgfdaaGreatDoor
