/- CheckpointOps of the program. -/
import Derived.Test.YtkkbaedlfijlmaaGreatDoorImplClone
namespace Go.Proofs.YtkkbaedlfijlmaaGreatDoor
open Go.RowKit

set_option maxRecDepth 20000 in
set_option maxHeartbeats 4000000 in
theorem implCkpt_calls (w : World) (sz st sq hd us : Int) {lo hi : Nat} {hv : Value} {ps : List Wr} (hl : cnt ps ≤ 1048576) (h1 : PView w lo hi hv ps)
    (m0 : w.cell? ⟨0, 0, none⟩ = some (.int .u8 106)) (m1 : w.cell? ⟨0, 1, none⟩ = some (.int .u8 108)) (m2 : w.cell? ⟨0, 2, none⟩ = some (.int .u8 111)) (m3 : w.cell? ⟨0, 3, none⟩ = some (.int .u8 103)) :
    Calls Tryz.prog 8 #[.agg #[.int .i64 sz, .int .i64 st, .int .i64 sq, .int .i64 hd, .int .i64 us], hv] w fun e w' => ∃ v, e = .returned v ∧ (∃ cells dvs, OwnOx w' w.heap.size 44 5 v (ckptO sz st sq hd us ps) cells dvs) ∧ Chg 0 0 w w' := by
  have C0 : Chg 0 0 w (w.alloc (.cells #[.int .i64 sz, .int .i64 st, .int .i64 sq, .int .i64 hd, .int .i64 us] 28)) := Chg.alloc (Chg.refl 0 0 w) _
  have B0 := heap_new w (.cells #[.int .i64 sz, .int .i64 st, .int .i64 sq, .int .i64 hd, .int .i64 us] 28)
  have s0 : (w.alloc (.cells #[.int .i64 sz, .int .i64 st, .int .i64 sq, .int .i64 hd, .int .i64 us] 28)).heap.size = w.heap.size + 1 := by simp
  have HC : Hid (Chg 0 0 w (w.alloc (.cells #[.int .i64 sz, .int .i64 st, .int .i64 sq, .int .i64 hd, .int .i64 us] 28))) := C0
  have HB : Hid ((w.alloc (.cells #[.int .i64 sz, .int .i64 st, .int .i64 sq, .int .i64 hd, .int .i64 us] 28)).heap[w.heap.size]? = some (.cells #[.int .i64 sz, .int .i64 st, .int .i64 sq, .int .i64 hd, .int .i64 us] 28 (0, 0))) := B0
  have HM : Hid (w.cell? ⟨0, 0, none⟩ = some (.int .u8 106) ∧ w.cell? ⟨0, 1, none⟩ = some (.int .u8 108) ∧ w.cell? ⟨0, 2, none⟩ = some (.int .u8 111) ∧ w.cell? ⟨0, 3, none⟩ = some (.int .u8 103)) := ⟨m0, m1, m2, m3⟩
  have V0 : Hid (PView w lo hi hv ps) := h1
  obtain ⟨ao, cap, rfl, hle, _, hps⟩ := h1
  have HPs : Hid (ps = [] ∨ ∃ b off, ao = some ⟨b, off, none⟩ ∧ lo ≤ b ∧ b < hi ∧ ∀ i, i < ps.length → ∃ dv, w.cell? ⟨b, off + i * 2, none⟩ = some (.int .i64 (ps.getD i (0, [])).1) ∧ w.cell? ⟨b, off + i * 2 + 1, none⟩ = some dv ∧ View w lo hi .u8 dv (ps.getD i (0, [])).2) := hps
  clear C0 B0 m0 m1 m2 m3 hps
  go_enter Tryz.func8, Tryz.ntmps8
  go_wp2_with fail
  generalize w.alloc (.cells #[.int .i64 sz, .int .i64 st, .int .i64 sq, .int .i64 hd, .int .i64 us] 28) = w0 at *
  refine (implValidLog_calls _ sz st sq hd us).mono ?_
  rintro e w1 ⟨rfl, h1⟩
  have HC1 : Hid (Chg 0 0 w w1) := HC.out.trans h1
  have HB1 : Hid (w1.heap[w.heap.size]? = some (.cells #[.int .i64 sz, .int .i64 st, .int .i64 sq, .int .i64 hd, .int .i64 us] 28 (0, 0))) := (h1.block _ (by omega) (by omega)).trans HB.out
  obtain ⟨k0, k1, k2, k3, k4⟩ := five_cells HB1.out
  have s1 := h1.size
  clear h1
  by_cases hv : validLog sz st sq hd us = true
  case neg =>
    have Ht : Hid (ckptO sz st sq hd us ps = []) := by show _ = _; unfold ckptO; rw [if_neg (fun h => hv h.1)]
    rw [Bool.not_eq_true] at hv
    rw [hv]
    clear hv
    go_wp2
    go_ret
    exact ⟨_, rfl, by rw [Ht.out]; exact ⟨_, _, OwnOx.none _ _ _ _⟩, HC1.out⟩
  by_cases hu : us = 0
  · subst hu
    have Ht : Hid (ckptO sz st sq hd 0 ps = []) := by show _ = _; unfold ckptO; rw [if_neg (fun h => h.2.1 rfl)]
    rw [hv]
    clear hv
    go_wp2
    go_ret
    exact ⟨_, rfl, by rw [Ht.out]; exact ⟨_, _, OwnOx.none _ _ _ _⟩, HC1.out⟩
  have hue : (us == 0) = false := by simpa using hu
  by_cases hp : (600 : Int) < (ps.length : Int)
  · have Ht : Hid (ckptO sz st sq hd us ps = []) := by show _ = _; unfold ckptO; rw [if_neg (fun h => by have := h.2.2; omega)]
    rw [hv]
    clear hv hu
    go_wp2
    go_ret
    exact ⟨_, rfl, by rw [Ht.out]; exact ⟨_, _, OwnOx.none _ _ _ _⟩, HC1.out⟩
  have Ht : Hid (ckptO sz st sq hd us ps = (opsOf ps ++ flushO ps) ++ twoOps (supL 106 108 111 103 1 sz sq hd)) := by show _ = _; unfold ckptO; rw [if_pos ⟨hv, hu, by omega⟩]
  have HTl : Hid (tailO sz st sq hd us = twoOps (supL 106 108 111 103 1 sz sq hd)) := by show _ = _; unfold tailO; rw [if_pos ⟨hv, hu⟩]
  rw [hv]
  clear hv hu
  go_wp2_with fail
  clear k0 k1 k2 k3 k4
  have hbw : w.heap.size < w1.heap.size := by omega
  go_loopw [5, 23] (fun o x wr => ∃ (k : Nat) (oa : Option Addr) (oc : Nat), k ≤ ps.length ∧ x = .int .i64 k ∧ o = .slice oa k oc ∧ (∃ cells dvs, OwnOx wr w.heap.size 44 5 (.slice oa k oc) (opsOf (ps.take k)) cells dvs) ∧ Chg 0 0 w wr ∧ w1.heap.size ≤ wr.heap.size ∧ wr.heap[w.heap.size]? = some (.cells #[.int .i64 sz, .int .i64 st, .int .i64 sq, .int .i64 hd, .int .i64 us] 28 (0, 0))) (fun _ x _ => ps.length - (intOf x).toNat)
  case atStart => exact ⟨0, _, _, Nat.zero_le _, rfl, rfl, ⟨_, _, OwnOx.none _ _ _ _⟩, HC1.out, Nat.le_refl _, HB1.out⟩
  case round =>
    obtain ⟨k, oa, oc, hk, rfl, rfl, ⟨cells, dvs, ho⟩, hch, hs, hb⟩ := hrel
    by_cases hlt : k < ps.length
    · have hi' : (k : Int) < (ps.length : Int) := by omega
      obtain ⟨b, off, rfl, _, _, h1⟩ := HPs.out.resolve_left (fun h => by rw [h] at hlt; exact absurd hlt (Nat.not_lt_zero k))
      obtain ⟨dv, c0, c1, vw⟩ := h1 k hlt
      have HT : Hid (opsOf (ps.take (k + 1)) = opsOf (ps.take k) ++ [(1, (ps.getD k (0, [])).1, (ps.getD k (0, [])).2)]) := opsOf_take ps k hlt
      have HL : Hid ((opsOf (ps.take k)).length = k) := by show _ = _; rw [opsOf_length, List.length_take]; omega
      have hxl : (ps.getD k (0, [])).2.length ≤ 1048576 := by have := cnt_data hlt; omega
      generalize ps.getD k (0, []) = p at *
      obtain ⟨q, xs⟩ := p
      simp only at c0 c1 vw hxl
      have vw' := vw
      obtain ⟨dao, dcap, rfl, _, _, _⟩ := vw'
      have d0 := hch.cell c0 (by omega)
      have d1 := hch.cell c1 (by omega)
      have HC : Hid (Chg 0 0 w wr) := hch
      have HO : Hid (OwnOx wr w.heap.size 44 5 (.slice oa k oc) (opsOf (ps.take k)) cells dvs) := ho
      clear ho hch
      go_wp2
      have HBn := heap_new wr (.cells #[.int .i64 q, .slice dao xs.length dcap] 46)
      have Cz : Chg 0 0 wr (wr.alloc (.cells #[.int .i64 q, .slice dao xs.length dcap] 46)) := Chg.alloc (Chg.refl 0 0 wr) _
      have sz' : (wr.alloc (.cells #[.int .i64 q, .slice dao xs.length dcap] 46)).heap.size = wr.heap.size + 1 := by simp
      generalize wr.alloc (.cells #[.int .i64 q, .slice dao xs.length dcap] 46) = wz at *
      have HCz : Hid (Chg 0 0 w wz) := HC.out.trans Cz
      have HOz : Hid (OwnOx wz w.heap.size 44 5 (.slice oa k oc) (opsOf (ps.take k)) cells dvs) := HO.out.chg Cz (by intro g _; omega) (by intro i g _ _; omega)
      have HBz : Hid (wz.heap[w.heap.size]? = some (.cells #[.int .i64 sz, .int .i64 st, .int .i64 sq, .int .i64 hd, .int .i64 us] 28 (0, 0))) := (Cz.block _ (by omega) (by omega)).trans hb
      have VX : Hid (View wz.drew lo hi .u8 (.slice dao xs.length dcap) xs) := (vw.chg HCz.out (by omega)).chg (Chg.drew (Chg.refl 0 0 wz)) (by omega)
      have HS : Hid ((fun w' : World => w'.heap[wr.heap.size]? = some (.cells #[.int .i64 q, .slice dao xs.length dcap] 46 (0, 0))) wz.drew) := HBn
      have hzr : wr.heap.size < wz.drew.heap.size := by show _ < wz.heap.size; omega
      clear HC HO hb d0 d1 c0 c1 vw HBn Cz h1 V0 HPs HB HB1 HC1
      have HC := HCz
      have HO := HOz
      clear HCz HOz
      refine held_region (fun w' : World => w'.heap[wr.heap.size]? = some (.cells #[.int .i64 q, .slice dao xs.length dcap] 46 (0, 0))) (by kernel_rfl) ?_
      refine held_take 0 (.slice oa k oc) rfl (by kernel_rfl) (by kernel_rfl) (by kernel_rfl) (fun _ _ _ h => h) (.inl ⟨by kernel_rfl, fun w' hw' => by go_simp⟩) HS.out ?_
      go_simp
      refine held_take 1 (.pointer (some ⟨wr.heap.size, 0, none⟩)) rfl (by kernel_rfl) (by kernel_rfl) (by kernel_rfl) (fun _ _ _ h => h) (.inl ⟨by kernel_rfl, fun w' hw' => by go_simp⟩) HS.out ?_
      go_simp
      refine held_take 2 (.int .i64 q) rfl (by kernel_rfl) (by kernel_rfl) (by kernel_rfl) (fun _ _ _ h => h) (.inl ⟨by kernel_rfl, fun w' hw' => by have h4 := (two_cells hw').1; go_simp⟩) HS.out ?_
      go_simp
      refine held_take 3 (.pointer (some ⟨wr.heap.size, 1, none⟩)) rfl (by kernel_rfl) (by kernel_rfl) (by kernel_rfl) (fun _ _ _ h => h) (.inl ⟨by kernel_rfl, fun w' hw' => by go_simp⟩) HS.out ?_
      go_simp
      refine held_take 4 (.slice dao xs.length dcap) rfl (by kernel_rfl) (by kernel_rfl) (by kernel_rfl) (fun _ _ _ h => h) (.inl ⟨by kernel_rfl, fun w' hw' => by have h4 := (two_cells hw').2.1; go_simp⟩) HS.out ?_
      go_simp
      refine held_one 5 rfl rfl (by kernel_rfl) ?_
      have hds : wz.drew.heap.size = wz.heap.size := rfl
      refine wp_enter 20 #[.slice dao xs.length dcap] (by first | kernel_rfl | go_simp) (clone_calls wz.drew hxl VX.out) ?_
      rintro e w5 ⟨v5, rfl, ho5, hc5⟩
      obtain ⟨va, vl, vc, rfl⟩ := row_slice ho5
      refine ⟨_, rfl, ?_⟩
      have HS5 : Hid ((fun w' : World => w'.heap[wr.heap.size]? = some (.cells #[.int .i64 q, .slice dao xs.length dcap] 46 (0, 0))) w5) := (hc5.block _ hzr (by omega)).trans HS.out
      have HC5 : Hid (Chg 0 0 wz w5) := (Chg.drew (Chg.refl 0 0 wz)).trans hc5
      have s5 := hc5.size
      rw [hds] at s5 ho5
      have HO5 : Hid (OwnB w5 wz.heap.size 5 (.slice va vl vc) xs) := ho5
      clear HS ho5 hc5
      refine ⟨HS5.out, ?_⟩
      go_simp
      refine held_take 6 (.agg #[.int .i64 1, .int .i64 q, .slice va vl vc]) rfl (by kernel_rfl) (by kernel_rfl) (by kernel_rfl) (fun _ _ _ h => h) (.inl ⟨by kernel_rfl, fun w' hw' => by go_simp⟩) HS5.out ?_
      go_simp
      obtain ⟨ic, hic, hcz0, hcz1, hcz2⟩ := info_parts Tryz.infoOp
      refine held_one 7 rfl rfl (by kernel_rfl) ?_
      refine wp_buildSlice 26 44 1 #[(0, .tmp 33)] rfl #[.int .i64 1, .int .i64 q, .slice va vl vc] ic _ Tryz.underlying26 hic hcz0 (by rw [hcz1]; decide) (by rw [hcz1]; decide) (by rw [hcz1, Array.toList_map]; refine fill3 _ ?_ _ _ _; simp) ?_
      have X6 := oneOp_own w5 wz.heap.size 1 q (.slice va vl vc) xs (by omega) HO5.out
      have C6 : Chg 0 0 wz (w5.alloc (.cells #[.int .i64 1, .int .i64 q, .slice va vl vc] 44)) := HC5.out.alloc _
      have C6' : Chg 0 0 w5 (w5.alloc (.cells #[.int .i64 1, .int .i64 q, .slice va vl vc] 44)) := Chg.alloc (Chg.refl 0 0 w5) _
      have s6 : (w5.alloc (.cells #[.int .i64 1, .int .i64 q, .slice va vl vc] 44)).heap.size = w5.heap.size + 1 := by simp
      generalize w5.alloc (.cells #[.int .i64 1, .int .i64 q, .slice va vl vc] 44) = w6 at *
      have HS6 : Hid ((fun w' : World => w'.heap[wr.heap.size]? = some (.cells #[.int .i64 q, .slice dao xs.length dcap] 46 (0, 0))) w6) := (C6'.block _ (by omega) (by omega)).trans HS5.out
      refine ⟨HS6.out, ?_⟩
      have O6 := HO.out.chg C6 (by intro g' _; omega) (by intro i g' _ _; omega)
      have hfr := more_apart (os := (opsOf (ps.take k))) (dvs := dvs) (nv := .slice va vl vc) (N := wz.heap.size) (fun i g' hi hg => ((HO.out.data i hi).lt g' hg).2) (fun g' hg => (HO5.out.lt g' hg).1)
      have HX6 : Hid (OwnOx w6 wz.heap.size 44 5 (.slice (some ⟨w5.heap.size, 0, none⟩) 1 1) [(1, q, xs)] [.int .i64 1, .int .i64 q, .slice va vl vc] (fun _ => .slice va vl vc)) := X6
      have HO6 : Hid (OwnOx w6 w.heap.size 44 5 (.slice oa k oc) (opsOf (ps.take k)) cells dvs) := O6
      have HC6 : Hid (Chg 0 0 w w6) := HC.out.trans C6
      have Hfr : Hid (∀ (i j : Nat) (g : Nat), i < (opsOf (ps.take k)).length → j < 1 → (dvs i).ownBlock = some g → (Value.slice va vl vc).ownBlock ≠ some g) := hfr
      have HB6 : Hid (w6.heap[w.heap.size]? = some (.cells #[.int .i64 sz, .int .i64 st, .int .i64 sq, .int .i64 hd, .int .i64 us] 28 (0, 0))) := (C6.block _ (by omega) (by omega)).trans HBz.out
      clear X6 C6 C6' O6 hfr HC5 HO5
      go_simp
      refine held_one 8 rfl rfl (by kernel_rfl) ?_
      refine wp_app_ops (.tmp 27) (.tmp 34) rfl w.heap.size wz.heap.size _ _ (opsOf (ps.take k)) [(1, q, xs)] cells _ dvs _ rfl HO6.out rfl HX6.out (by omega) (by omega) Nat.one_pos (by rw [HL.out]; show k + 1 ≤ _; omega) Hfr.out ?_
      rintro v' w8 ⟨g8, cp8, rfl⟩ ⟨cells8, dvs8, ho8⟩ hc8 hk8
      rw [HL.out]
      have HC8 : Hid (Chg 0 0 w w8) := HC6.out.step hc8 (by omega)
      have HS8 : Hid ((fun w' : World => w'.heap[wr.heap.size]? = some (.cells #[.int .i64 q, .slice dao xs.length dcap] 46 (0, 0))) w8) := hk8 _ _ _ (by decide) HS6.out
      have HO8 : Hid (OwnOx w8 w.heap.size 44 5 (.slice (some ⟨g8, 0, none⟩) (k + 1) cp8) (opsOf (ps.take (k + 1))) cells8 dvs8) := by
        rw [HT.out]
        rw [HL.out] at ho8
        exact ho8
      have HB8 : Hid (w8.heap[w.heap.size]? = some (.cells #[.int .i64 sz, .int .i64 st, .int .i64 sq, .int .i64 hd, .int .i64 us] 28 (0, 0))) := hk8 _ _ _ (by decide) HB6.out
      have s8 := hc8.size
      clear ho8 hc8 hk8 HC6 HO6 HX6 HS6 Hfr HS5 HO
      refine ⟨HS8.out, ?_⟩
      go_simp
      refine held_take 9 (.slice (some ⟨g8, 0, none⟩) (k + 1) cp8) rfl (by kernel_rfl) (by kernel_rfl) (by kernel_rfl) (fun _ _ _ h => h) (.inl ⟨by kernel_rfl, fun w' hw' => by go_simp⟩) HS8.out ?_
      go_simp
      refine held_done (by kernel_rfl) (NoPanic.normal ?_)
      go_wp2
      go_roundw
      case rel => exact ⟨k + 1, _, cp8, by omega, by go_num, rfl, ⟨_, _, HO8.out⟩, HC8.out, by omega, HB8.out⟩
      case measure => simp [intOf]; omega
    · obtain rfl : k = ps.length := by omega
      have HC2 : Hid (Chg 0 0 w wr) := hch
      have HB2 : Hid (wr.heap[w.heap.size]? = some (.cells #[.int .i64 sz, .int .i64 st, .int .i64 sq, .int .i64 hd, .int .i64 us] 28 (0, 0))) := hb
      have HO2 : Hid (OwnOx wr w.heap.size 44 5 (.slice oa ps.length oc) (opsOf ps) cells dvs) := by rw [List.take_length] at ho; exact ho
      have hbw : w.heap.size < wr.heap.size := by omega
      clear ho hch hb V0 HPs HB HB1 HC1 HC
      go_upto_if 39 with fail
      go_cut [5] (fun o wx => ∃ a c cells dvs, o = .slice a (opsOf ps ++ flushO ps).length c ∧ OwnOx wx w.heap.size 44 5 (.slice a (opsOf ps ++ flushO ps).length c) (opsOf ps ++ flushO ps) cells dvs ∧ Chg 0 0 w wx ∧ wr.heap.size ≤ wx.heap.size ∧ wx.heap[w.heap.size]? = some (.cells #[.int .i64 sz, .int .i64 st, .int .i64 sq, .int .i64 hd, .int .i64 us] 28 (0, 0)))
      case first =>
        by_cases h0 : ps.length = 0
        · have Hf : Hid (opsOf ps ++ flushO ps = opsOf ps) := by show _ = _; unfold flushO; rw [if_pos h0, List.append_nil]
          have hz : ¬ ((0 : Int) < (ps.length : Int)) := by omega
          clear h0
          go_wp2
          go_meet
          rw [Hf.out, opsOf_length]
          exact ⟨_, _, _, _, rfl, HO2.out, HC2.out, Nat.le_refl _, HB2.out⟩
        · have Hf : Hid (opsOf ps ++ flushO ps = opsOf ps ++ [(2, 0, [])]) := by show _ = _; unfold flushO; rw [if_neg h0]
          have hz : (0 : Int) < (ps.length : Int) := by omega
          have HX : Hid (OwnOx (wr.alloc (.cells #[.int .i64 2, .int .i64 0, .slice none 0 0] 44)) w.heap.size 44 5 (.slice (some ⟨wr.heap.size, 0, none⟩) 1 1) [(2, 0, [])] [.int .i64 2, .int .i64 0, .slice none 0 0] (fun _ => .slice none 0 0)) := oneOp_own wr w.heap.size 2 0 (.slice none 0 0) [] (by omega) ⟨rfl, Or.inl ⟨rfl, rfl⟩⟩
          have C6 : Chg 0 0 wr (wr.alloc (.cells #[.int .i64 2, .int .i64 0, .slice none 0 0] 44)) := Chg.alloc (Chg.refl 0 0 wr) _
          have HO6 : Hid (OwnOx (wr.alloc (.cells #[.int .i64 2, .int .i64 0, .slice none 0 0] 44)) w.heap.size 44 5 (.slice oa ps.length oc) (opsOf ps) cells dvs) := HO2.out.chg C6 (by intro g _; omega) (by intro i g _ _; omega)
          have HC6 : Hid (Chg 0 0 w (wr.alloc (.cells #[.int .i64 2, .int .i64 0, .slice none 0 0] 44))) := HC2.out.trans C6
          have HB6 : Hid ((wr.alloc (.cells #[.int .i64 2, .int .i64 0, .slice none 0 0] 44)).heap[w.heap.size]? = some (.cells #[.int .i64 sz, .int .i64 st, .int .i64 sq, .int .i64 hd, .int .i64 us] 28 (0, 0))) := (C6.block _ hbw (by omega)).trans HB2.out
          have s6 : (wr.alloc (.cells #[.int .i64 2, .int .i64 0, .slice none 0 0] 44)).heap.size = wr.heap.size + 1 := by simp
          clear h0 C6
          go_wp2_with (at_builtin; refine wpList_app_ops rfl _ _ rfl w.heap.size w.heap.size _ _ (opsOf ps) [(2, 0, [])] cells _ dvs _ rfl HO6.out rfl HX.out (Nat.le_refl _) (by omega) Nat.one_pos (by rw [opsOf_length]; show ps.length + 1 ≤ _; omega) (fun i j g _ _ _ e => by cases e) ?_)
          intro v' w8 h8a h8b hc8 hk8
          obtain ⟨g8, cp8, rfl⟩ := h8a.out
          obtain ⟨cells8, dvs8, ho8⟩ := h8b.out
          have hk8 := hk8.out
          clear h8a h8b
          have HR : Hid (OwnOx w8 w.heap.size 44 5 (.slice (some ⟨g8, 0, none⟩) (opsOf ps ++ flushO ps).length cp8) (opsOf ps ++ flushO ps) cells8 dvs8) := by rw [Hf.out, List.length_append]; exact ho8
          have HE : Hid (Value.slice (some ⟨g8, 0, none⟩) ((opsOf ps).length + 1) cp8 = .slice (some ⟨g8, 0, none⟩) (opsOf ps ++ flushO ps).length cp8) := by show _ = _; rw [Hf.out, List.length_append]; rfl
          have HC8 : Hid (Chg 0 0 w w8) := HC6.out.step hc8 (by omega)
          have HB8 : Hid (w8.heap[w.heap.size]? = some (.cells #[.int .i64 sz, .int .i64 st, .int .i64 sq, .int .i64 hd, .int .i64 us] 28 (0, 0))) := hk8 _ _ _ (by decide) HB6.out
          have s8 := hc8.size
          clear ho8 hc8 hk8 HO6 HX HC6 HB6 HO2 HC2 HB2
          go_wp2
          go_meet
          exact ⟨_, _, _, _, HE.out, HR.out, HC8.out, by omega, HB8.out⟩
      case rest =>
        obtain ⟨a3, c3, cells3, dvs3, rfl, ho3, hc3, hs3, hb3⟩ := hcut
        clear HO2 HC2 HB2
        obtain ⟨k0, k1, k2, k3, k4⟩ := five_cells hb3
        have HL : Hid ((opsOf ps ++ flushO ps).length ≤ 601) := by
          show _ ≤ _
          rw [List.length_append, opsOf_length]
          unfold flushO
          split
          · simp; omega
          · simp; omega
        have HT2 : Hid ((twoOps (supL 106 108 111 103 1 sz sq hd)).length = 2) := rfl
        have HC3 : Hid (Chg 0 0 w wc) := hc3
        have hT := implTail_calls wc sz st sq hd us (HC3.out.cell HM.out.1 (by omega)) (HC3.out.cell HM.out.2.1 (by omega)) (HC3.out.cell HM.out.2.2.1 (by omega)) (HC3.out.cell HM.out.2.2.2 (by omega))
        rw [HTl.out] at hT
        clear HTl
        generalize twoOps (supL 106 108 111 103 1 sz sq hd) = T at *
        generalize opsOf ps ++ flushO ps = A at *
        have HO3 : Hid (OwnOx wc w.heap.size 44 5 (.slice a3 A.length c3) A cells3 dvs3) := ho3
        clear ho3 hc3 hb3
        go_wp2_with fail
        refine hT.mono ?_
        rintro e w4 ⟨v4, rfl, ⟨cells4, dvs4, o4⟩, h4⟩
        obtain ⟨a4, c4, rfl⟩ := o4.sl
        have HC4 : Hid (Chg 0 0 w w4) := HC3.out.trans h4
        have HO4 : Hid (OwnOx w4 w.heap.size 44 5 (.slice a3 A.length c3) A cells3 dvs3) := HO3.out.chg h4 (by intro g _; omega) (by intro i g _ _; omega)
        have HX4 : Hid (OwnOx w4 wc.heap.size 44 5 (.slice a4 T.length c4) T cells4 dvs4) := o4
        have Hfr : Hid (∀ i j g, i < A.length → j < T.length → (dvs3 i).ownBlock = some g → (dvs4 j).ownBlock ≠ some g) := fun i j g hi hj hg e => by
          have := (HO3.out.dbl i g hi hg).2
          have := (o4.dbl j g hj e).1
          omega
        have s4 := h4.size
        clear hT o4 h4 k0 k1 k2 k3 k4 HC3 HO3
        go_wp2_with (at_builtin; refine wpList_app_ops rfl _ _ rfl w.heap.size wc.heap.size _ _ A T cells3 cells4 dvs3 dvs4 rfl HO4.out rfl HX4.out (by omega) (by omega) (by rw [HT2.out]; omega) (by have := HL.out; have := HT2.out; omega) Hfr.out ?_)
        intro v' w8 h8a h8b hc8 hk8
        obtain ⟨g8, cp8, rfl⟩ := h8a.out
        have HR : Hid (∃ cells dvs, OwnOx w8 w.heap.size 44 5 (.slice (some ⟨g8, 0, none⟩) (A.length + T.length) cp8) (ckptO sz st sq hd us ps) cells dvs) := by rw [Ht.out]; exact h8b.out
        have HC8 : Hid (Chg 0 0 w w8) := HC4.out.step hc8 (by omega)
        clear h8a h8b hc8 hk8 HO4 HX4 Hfr HC4
        go_wp2
        go_ret
        exact ⟨_, rfl, HR.out, HC8.out⟩

end Go.Proofs.YtkkbaedlfijlmaaGreatDoor
