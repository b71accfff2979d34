/- DiskWrite of the model. -/
import Derived.Test.YtplfehjaakkldaaCopyDisk
import Derived.Test.YtplfehjaakkldaaImplWrite
namespace Go.Proofs.Ytplfehjaakkldaa
open Go.RowKit

set_option maxRecDepth 20000 in
set_option maxHeartbeats 4000000 in
theorem specWrite_calls (w : World) {lo hi : Nat} {v b : Value} {d : Dsk} {blo bhi : Nat} (a : Int) (ys : List Int) (h1 : DView w lo hi v d) (hb0 : View w blo bhi .u8 b ys) (hf : d.dur.length ≤ 1048576) :
    Calls Try.prog 10 #[v, .int .i64 a, b] w fun e w' => ∃ v, e = .returned v ∧ OwnD w' w.heap.size w'.heap.size 55 5 v (writeD d a ys) ∧ Chg 0 0 w w' := by
  have d0 := h1
  have b0 := hb0
  obtain ⟨dv, pv, rfl, v1, p1⟩ := h1
  obtain ⟨ao, cap, rfl, _, _, _⟩ := v1
  obtain ⟨po, pcap, rfl, _, _, _⟩ := p1
  obtain ⟨bo, bcap, rfl, _, _, _⟩ := hb0
  obtain ⟨z1, z2, z3⟩ := alloc2 w (.cells #[.slice ao d.dur.length cap, .slice po d.pend.length pcap] 29) (.cells #[.slice none 0 0, .slice none 0 0] 29)
  have hA : Chg 0 0 w ((w.alloc (.cells #[.slice ao d.dur.length cap, .slice po d.pend.length pcap] 29)).alloc (.cells #[.slice none 0 0, .slice none 0 0] 29)) := (Chg.alloc (Chg.refl 0 0 w) _).alloc _
  go_enter Try.func10, Try.ntmps10
  go_wp2_with fail
  generalize (w.alloc (.cells #[.slice ao d.dur.length cap, .slice po d.pend.length pcap] 29)).alloc (.cells #[.slice none 0 0, .slice none 0 0] 29) = wa at *
  refine (specValid_calls _ (d0.chg hA (by omega))).mono ?_
  rintro e wb ⟨rfl, hb⟩
  have sb := hb.size
  have B0 := (hb.block w.heap.size (by omega) (by omega)).trans z2
  have B1 := (hb.block (w.heap.size + 1) (by omega) (by omega)).trans z3
  have hB := hA.trans hb
  clear hA hb z2 z3
  obtain ⟨x0, x1, _, _⟩ := two_cells B0
  obtain ⟨y0, y1, yf0, yf1⟩ := two_cells B1
  have HC : Hid (Chg 0 0 w ((wb.setCell ⟨w.heap.size + 1, 0, none⟩ (.slice none 0 0)).setCell ⟨w.heap.size + 1, 1, none⟩ (.slice none 0 0))) := hB.step (Chg.set2 _ _ _ _) (by omega)
  cases hV : validB d with
  | false =>
    have HF : Hid (writeD d a ys = Dsk.none) := by show _ = _; unfold writeD; rw [if_neg (by rw [hV]; simp)]
    clear B0 B1 hB d0 b0 hV
    go_wp2
    refine bodyPost_ret (v := .agg #[.slice none 0 0, .slice none 0 0]) (by simp [results, Try.results10, go_sem, y0, y1]) rfl ⟨_, rfl, ?_, HC.out⟩
    rw [HF.out]; exact OwnD.none _ _ _ _ _
  | true =>
    have hVal := (validB_iff d).1 hV
    have hm := hVal.2.2.2.1
    have HVal : Hid (Valid d) := hVal
    clear hVal
    by_cases k1 : d.pend.length = 600
    · have HF : Hid (writeD d a ys = Dsk.none) := by show _ = _; unfold writeD; rw [if_neg (by omega)]
      have k1' : ((d.pend.length : Int) == 600) = true := by rw [k1]; rfl
      clear B0 B1 hB d0 b0 hV
      go_wp2
      refine bodyPost_ret (v := .agg #[.slice none 0 0, .slice none 0 0]) (by simp [results, Try.results10, go_sem, y0, y1]) rfl ⟨_, rfl, ?_, HC.out⟩
      rw [HF.out]; exact OwnD.none _ _ _ _ _
    have k1' : ((d.pend.length : Int) == 600) = false := by rw [beq_eq_false_iff_ne]; omega
    by_cases k2 : a < 0
    · have HF : Hid (writeD d a ys = Dsk.none) := by show _ = _; unfold writeD; rw [if_neg (by omega)]
      clear B0 B1 hB d0 b0 hV
      go_wp2
      refine bodyPost_ret (v := .agg #[.slice none 0 0, .slice none 0 0]) (by simp [results, Try.results10, go_sem, y0, y1]) rfl ⟨_, rfl, ?_, HC.out⟩
      rw [HF.out]; exact OwnD.none _ _ _ _ _
    have Hb0 : Hid (View w blo bhi .u8 (.slice bo ys.length bcap) ys) := b0
    have Hd0 : Hid (DView w lo hi (.agg #[.slice ao d.dur.length cap, .slice po d.pend.length pcap]) d) := d0
    have k2' : 0 ≤ a := by omega
    clear b0 d0
    go_wp2_with fail
    refine (l1Blocks_calls _ ao d.dur.length cap _ (by omega)).mono ?_
    rintro e wc ⟨rfl, hc⟩
    have sc := hc.size
    have B0 := (hc.block w.heap.size (by omega) (by omega)).trans B0
    have B1 := (hc.block (w.heap.size + 1) (by omega) (by omega)).trans B1
    have hC := hB.trans hc
    have HC : Hid (Chg 0 0 w ((wc.setCell ⟨w.heap.size + 1, 0, none⟩ (.slice none 0 0)).setCell ⟨w.heap.size + 1, 1, none⟩ (.slice none 0 0))) := hC.step (Chg.set2 _ _ _ _) (by omega)
    clear hB hc x0 x1 y0 y1 yf0 yf1
    obtain ⟨x0, x1, _, _⟩ := two_cells B0
    obtain ⟨y0, y1, yf0, yf1⟩ := two_cells B1
    by_cases k3 : ((d.dur.length / 64 : Nat) : Int) ≤ a
    · have HF : Hid (writeD d a ys = Dsk.none) := by show _ = _; unfold writeD; rw [if_neg (by omega)]
      clear B0 B1 hC HVal hV
      go_wp2
      refine bodyPost_ret (v := .agg #[.slice none 0 0, .slice none 0 0]) (by simp [results, Try.results10, go_sem, y0, y1]) rfl ⟨_, rfl, ?_, HC.out⟩
      rw [HF.out]; exact OwnD.none _ _ _ _ _
    have k3' : a < ((d.dur.length / 64 : Nat) : Int) := by omega
    by_cases k4 : ys.length = 64
    case neg =>
      have HF : Hid (writeD d a ys = Dsk.none) := by show _ = _; unfold writeD; rw [if_neg (by omega)]
      have k4' : ((ys.length : Int) != 64) = true := by rw [bne_iff_ne]; omega
      clear B0 B1 hC HVal hV
      go_wp2
      refine bodyPost_ret (v := .agg #[.slice none 0 0, .slice none 0 0]) (by simp [results, Try.results10, go_sem, y0, y1]) rfl ⟨_, rfl, ?_, HC.out⟩
      rw [HF.out]; exact OwnD.none _ _ _ _ _
    have HF : Hid (writeD d a ys = ⟨d.dur, d.pend ++ [(a, ys)]⟩) := by show _ = _; unfold writeD; rw [if_pos ⟨hV, by omega, by omega, k3', k4⟩]
    have Hk4 : Hid (ys.length = 64) := k4
    have k4' : ((ys.length : Int) != 64) = false := by rw [bne_eq_false_iff_eq]; omega
    clear k4 hV
    go_wp2_with fail
    refine (l1CopyDisk_calls _ (Hd0.out.chg hC (by omega)) HVal.out hf).mono ?_
    rintro e wd ⟨v, rfl, od, hd⟩
    have sd := hd.size
    have B1 := (hd.block (w.heap.size + 1) (by omega) (by omega)).trans B1
    have hD := hC.trans hd
    obtain ⟨dvv, pvv, cells, dvs, od⟩ := od
    obtain rfl := od.agg
    obtain ⟨a1, l1, c1, rfl⟩ := row_slice od.dur
    obtain ⟨po', pl, pc, rfl⟩ := row_slice od.pend.row
    have C1 : Chg 0 0 wd (wd.alloc (.cells #[.slice a1 l1 c1, .slice po' pl pc] 29)) := Chg.alloc (Chg.refl 0 0 wd) _
    have B2 := heap_new wd (.cells #[.slice a1 l1 c1, .slice po' pl pc] 29)
    have sD : (wd.alloc (.cells #[.slice a1 l1 c1, .slice po' pl pc] 29)).heap.size = wd.heap.size + 1 := by simp
    clear hd hC x0 x1 y0 y1 yf0 yf1 B0 k1' k2 k2' k3 k3' k4'
    go_wp2
    generalize wd.alloc (.cells #[.slice a1 l1 c1, .slice po' pl pc] 29) = wr at *
    have D0 := od.dur.chg C1 (by intro g' _; omega)
    have P0 := od.pend.chg C1 (by intro g' _; omega) (by intro i g' _ _; omega)
    have HOD : Hid (OwnDx wd wc.heap.size wd.heap.size 55 5 (.agg #[.slice a1 l1 c1, .slice po' pl pc]) d (.slice a1 l1 c1) (.slice po' pl pc) cells dvs) := od
    have HD : Hid (OwnB wr wc.heap.size 5 (.slice a1 l1 c1) d.dur) := D0
    have HPx : Hid (OwnPx wr wc.heap.size 55 5 (.slice po' pl pc) d.pend cells dvs) := P0
    have HB2 : Hid (wr.heap[wd.heap.size]? = some (.cells #[.slice a1 l1 c1, .slice po' pl pc] 29 (0, 0))) := B2
    have HB1 : Hid (wr.heap[w.heap.size + 1]? = some (.cells #[.slice none 0 0, .slice none 0 0] 29 (0, 0))) := (C1.block (w.heap.size + 1) (by omega) (by omega)).trans B1
    have HCw : Hid (Chg 0 0 w wr) := hD.trans C1
    have HS : Hid ((fun w' : World => w'.cell? ⟨wd.heap.size, 1, none⟩ = some (.slice po' pl pc)) wr.drew) := (two_cells B2).2.1
    clear D0 P0 od B2 B1 hD C1
    refine weak_region 9 (fun w' : World => w'.cell? ⟨wd.heap.size, 1, none⟩ = some (.slice po' pl pc)) (by kernel_rfl) ?_
    refine weak_take 0 (.pointer (some ⟨wd.heap.size, 1, none⟩)) rfl (by kernel_rfl) (by kernel_rfl) (by kernel_rfl) (by kernel_rfl) (fun _ _ _ h => h) (.inl ⟨by kernel_rfl, fun w' hw' => by go_simp⟩) HS.out ?_
    go_simp
    refine weak_take 1 (.slice po' pl pc) rfl (by kernel_rfl) (by kernel_rfl) (by kernel_rfl) (by kernel_rfl) (fun _ _ _ h => h) (.inl ⟨by kernel_rfl, fun w' hw' => by have h4 := hw'; go_simp⟩) HS.out ?_
    go_simp
    refine weak_take 2 (.int .i64 a) rfl (by kernel_rfl) (by kernel_rfl) (by kernel_rfl) (by kernel_rfl) (fun _ _ _ h => h) (.inl ⟨by kernel_rfl, fun w' hw' => by go_simp⟩) HS.out ?_
    go_simp
    refine weak_take 3 (.slice bo ys.length bcap) rfl (by kernel_rfl) (by kernel_rfl) (by kernel_rfl) (by kernel_rfl) (fun _ _ _ h => h) (.inl ⟨by kernel_rfl, fun w' hw' => by go_simp⟩) HS.out ?_
    go_simp
    refine weak_one 4 rfl rfl (by kernel_rfl) ?_
    have hds : wr.drew.heap.size = wr.heap.size := rfl
    refine wp_enter 48 #[.slice bo ys.length bcap] (by first | kernel_rfl | go_simp) (l1Copy_calls wr.drew (by rw [Hk4.out]; omega) (Hb0.out.chg (Chg.drew HCw.out) (by omega))) ?_
    rintro e w5 ⟨v5, rfl, ho5, hc5⟩
    obtain ⟨g5, cap5, rfl⟩ := ho5.slice_of (by rw [Hk4.out]; omega)
    refine ⟨_, rfl, ?_⟩
    have HS5 : Hid ((fun w' : World => w'.cell? ⟨wd.heap.size, 1, none⟩ = some (.slice po' pl pc)) w5) := hc5.cell HS.out (by omega)
    have HC5 : Hid (Chg 0 0 wr w5) := (Chg.drew (Chg.refl 0 0 wr)).trans hc5
    have s5 := hc5.size
    have g5b := ho5.lt g5 rfl
    rw [hds] at s5 g5b
    have HO5 : Hid (OwnB w5 wc.heap.size 5 (.slice (some ⟨g5, 0, none⟩) ys.length cap5) ys) := ho5.base (fun g' hg' => by cases hg'; show wc.heap.size ≤ g5; omega)
    clear HS ho5 hc5
    refine ⟨fun _ => HS5.out, ?_⟩
    go_simp
    refine weak_take 5 (.agg #[.int .i64 a, .slice (some ⟨g5, 0, none⟩) ys.length cap5]) rfl (by kernel_rfl) (by kernel_rfl) (by kernel_rfl) (by kernel_rfl) (fun _ _ _ h => h) (.inl ⟨by kernel_rfl, fun w' hw' => by go_simp⟩) HS5.out ?_
    go_simp
    obtain ⟨ic, hic, hcz0, hcz1, hcz2⟩ := info_parts Try.infoW'
    refine weak_one 6 rfl rfl (by kernel_rfl) ?_
    refine wp_buildSlice 27 55 1 #[(0, .tmp 40)] rfl #[.int .i64 a, .slice (some ⟨g5, 0, none⟩) ys.length cap5] ic _ Try.underlying27 hic hcz0 (by rw [hcz1]; decide) (by rw [hcz1]; decide) (by rw [hcz1, Array.toList_map]; refine fill_row 2 _ ?_ [.int .i64 a, .slice (some ⟨g5, 0, none⟩) ys.length cap5] rfl; simp) ?_
    have C6 : Chg 0 0 wr (w5.alloc (.cells #[.int .i64 a, .slice (some ⟨g5, 0, none⟩) ys.length cap5] 55)) := HC5.out.alloc _
    have C6' : Chg 0 0 w5 (w5.alloc (.cells #[.int .i64 a, .slice (some ⟨g5, 0, none⟩) ys.length cap5] 55)) := Chg.alloc (Chg.refl 0 0 w5) _
    have B6 := heap_new w5 (.cells #[.int .i64 a, .slice (some ⟨g5, 0, none⟩) ys.length cap5] 55)
    have s6 : (w5.alloc (.cells #[.int .i64 a, .slice (some ⟨g5, 0, none⟩) ys.length cap5] 55)).heap.size = w5.heap.size + 1 := by simp
    generalize w5.alloc (.cells #[.int .i64 a, .slice (some ⟨g5, 0, none⟩) ys.length cap5] 55) = w6 at *
    have HO6 := HO5.out.chg C6' (by intro g' _; omega)
    have S6 : (fun w' : World => w'.cell? ⟨wd.heap.size, 1, none⟩ = some (.slice po' pl pc)) w6 := C6'.cell HS5.out (by omega)
    refine ⟨fun _ => S6, ?_⟩
    go_simp
    have P6 := HPx.out.chg C6 (by intro g' _; omega) (by intro i g' _ _; omega)
    have D6 := HD.out.chg C6 (by intro g' _; omega)
    have Bx6 := (C6.block wd.heap.size (by omega) (by omega)).trans HB2.out
    have R6 := (C6.block (w.heap.size + 1) (by omega) (by omega)).trans HB1.out
    have hnews : ∀ j u, [Value.int .i64 a, .slice (some ⟨g5, 0, none⟩) ys.length cap5][j]? = some u → w6.cell? ((⟨w5.heap.size, 0, none⟩ : Addr).add j) = some u := by
      intro j u hj
      rw [Addr.add_mid, Nat.zero_add, cell_of_row w6 w5.heap.size j _ _ _ B6]
      simpa using hj
    refine weak_one 7 rfl rfl (by kernel_rfl) ?_
    refine wp_append_own w6 (.tmp 36) (.tmp 41) 27 rfl wc.heap.size 55 ic _ 2 32 Try.underlying27 hic hcz0 hcz1 hcz2 rfl (by decide) _ _ cells rfl P6.row ⟨w5.heap.size, 0, none⟩ 1 1 [.int .i64 a, .slice (some ⟨g5, 0, none⟩) ys.length cap5] rfl rfl hnews (by simp [Value.oneCell']) (by unfold maxLen; omega) (by omega) (by omega) ?_
    intro v' w8 hown8 hgrow _
    obtain ⟨vo, vl, vc, rfl⟩ := row_slice hown8
    have s8 := hgrow.size
    have K8 : ∀ j, j < w6.heap.size → (Value.slice po' pl pc).ownBlock ≠ some j → w8.heap[j]? = w6.heap[j]? := fun j hj hne' => hgrow.block j hj (fun e => hne' e.symm)
    have hpB : ∀ j, (Value.slice po' pl pc).ownBlock = some j → wc.heap.size ≤ j ∧ j < wd.heap.size := fun j hj => ⟨(World.ownsRow.lt HPx.out.row j hj).1, HOD.out.hiP j hj⟩
    have hpE : ∀ j, (Value.slice po' pl pc).ownBlock = some j → ∃ cur, w6.heap[j]? = some (.cells cur 55 (0, 0)) := fun j hj => row_elem' P6.row hj
    have Bx8 : w8.heap[wd.heap.size]? = _ := (K8 wd.heap.size (by omega) (fun e => by have := hpB _ e; omega)).trans Bx6
    have R8 : w8.heap[w.heap.size + 1]? = _ := (K8 (w.heap.size + 1) (by omega) (fun e => by have := hpB _ e; omega)).trans R6
    have D8 : OwnB w8 wc.heap.size 5 _ d.dur := D6.same (fun j hj => K8 j (D6.lt j hj).2 (fun e => by obtain ⟨cur, hcur⟩ := hpE _ e; obtain ⟨cur', hcur'⟩ := D6.elem hj; exact cells_ne hcur hcur' (by decide) rfl))
    have O8 : OwnB w8 wc.heap.size 5 _ ys := HO6.same (fun j hj => K8 j (HO6.lt j hj).2 (fun e => by obtain ⟨cur, hcur⟩ := hpE _ e; obtain ⟨cur', hcur'⟩ := HO6.elem hj; exact cells_ne hcur hcur' (by decide) rfl))
    have X8 : ∀ i, i < d.pend.length → OwnB w8 wc.heap.size 5 (dvs i) (d.pend.getD i (0, [])).2 := fun i hi => (P6.data i hi).same (fun j hj => K8 j ((P6.data i hi).lt j hj).2 (fun e => by obtain ⟨cur, hcur⟩ := hpE _ e; obtain ⟨cur', hcur'⟩ := (P6.data i hi).elem hj; exact cells_ne hcur hcur' (by decide) rfl))
    have C6w := HCw.out.trans C6
    have C8 : Chg 0 0 w w8 := by
      refine ⟨hgrow.os.trans C6w.os, hgrow.tape.trans C6w.tape, hgrow.output.trans C6w.output, by omega, fun j hj hh => (K8 j (by omega) (fun e => ?_)).trans (C6w.block j hj (by omega))⟩
      have := hpB j e
      omega
    have e1 := (two_cells Bx8).2.1
    have ef1 := (two_cells Bx8).2.2.2
    refine ⟨fun _ => e1, ?_⟩
    have C9 : Chg wd.heap.size (wd.heap.size + 1) w8 (w8.setCell ⟨wd.heap.size, 1, none⟩ (.slice vo vl vc)) := Chg.setCell (lo := wd.heap.size) (hi := wd.heap.size + 1) (Chg.refl _ _ _) (Or.inl ⟨Nat.le_refl _, Nat.lt_succ_self _⟩) _
    have B9 : (w8.setCell ⟨wd.heap.size, 1, none⟩ (.slice vo vl vc)).heap[wd.heap.size]? = some (.cells #[.slice a1 l1 c1, .slice vo vl vc] 29 (0, 0)) := by
      have := heap_setCell_same w8 wd.heap.size 1 _ _ (.slice vo vl vc) Bx8
      simpa using this
    have R9 := (C9.block (w.heap.size + 1) (by omega) (by omega)).trans R8
    have C10 : Chg (w.heap.size + 1) (w.heap.size + 1 + 1) (w8.setCell ⟨wd.heap.size, 1, none⟩ (.slice vo vl vc)) (((w8.setCell ⟨wd.heap.size, 1, none⟩ (.slice vo vl vc)).setCell ⟨w.heap.size + 1, 0, none⟩ (.slice a1 l1 c1)).setCell ⟨w.heap.size + 1, 1, none⟩ (.slice vo vl vc)) := Chg.set2 _ _ _ _
    have HCf : Hid (Chg 0 0 w (((w8.setCell ⟨wd.heap.size, 1, none⟩ (.slice vo vl vc)).setCell ⟨w.heap.size + 1, 0, none⟩ (.slice a1 l1 c1)).setCell ⟨w.heap.size + 1, 1, none⟩ (.slice vo vl vc))) := (C8.step C9 (by omega)).step C10 (by omega)
    have HSf : Hid ((((w8.setCell ⟨wd.heap.size, 1, none⟩ (.slice vo vl vc)).setCell ⟨w.heap.size + 1, 0, none⟩ (.slice a1 l1 c1)).setCell ⟨w.heap.size + 1, 1, none⟩ (.slice vo vl vc)).heap.size = w8.heap.size) := by show _ = _; simp [World.setCell]
    have nn : ∀ {v xs}, OwnB w8 wc.heap.size 5 v xs → ∀ j, v.ownBlock = some j → j ≠ wd.heap.size := fun ho j hj e => by obtain ⟨cur, hcur⟩ := ho.elem hj; exact cells_ne hcur Bx8 (by decide) e
    have mv : ∀ {v xs}, OwnB w8 wc.heap.size 5 v xs → OwnB (((w8.setCell ⟨wd.heap.size, 1, none⟩ (.slice vo vl vc)).setCell ⟨w.heap.size + 1, 0, none⟩ (.slice a1 l1 c1)).setCell ⟨w.heap.size + 1, 1, none⟩ (.slice vo vl vc)) w.heap.size 5 v xs := fun ho =>
      ((ho.chg C9 (fun j hj => by have := nn ho j hj; omega)).chg C10 (fun j hj => by have := (ho.lt j hj).1; omega)).base (fun j hj => by have := (ho.lt j hj).1; omega)
    have nv : ∀ j, (Value.slice vo vl vc).ownBlock = some j → wc.heap.size ≤ j ∧ j < w8.heap.size ∧ j ≠ wd.heap.size := fun j hj => ⟨(World.ownsRow.lt hown8 j hj).1, (World.ownsRow.lt hown8 j hj).2, fun e => by obtain ⟨cur, hcur⟩ := row_elem' hown8 hj; exact cells_ne hcur Bx8 (by decide) e⟩
    have row9 : (((w8.setCell ⟨wd.heap.size, 1, none⟩ (.slice vo vl vc)).setCell ⟨w.heap.size + 1, 0, none⟩ (.slice a1 l1 c1)).setCell ⟨w.heap.size + 1, 1, none⟩ (.slice vo vl vc)).ownsRow w.heap.size 55 2 (.slice vo vl vc) (d.pend.length + 1) (cells ++ [.int .i64 a, .slice (some ⟨g5, 0, none⟩) ys.length cap5]) := by
      have q1 := ownsRow_setCell_other (a := ⟨wd.heap.size, 1, none⟩) hown8 (fun e => (nv _ e).2.2 rfl) (.slice vo vl vc)
      have q2 := ownsRow_setCell_other (a := ⟨w.heap.size + 1, 0, none⟩) q1 (fun e => by have := (nv _ e).1; simp at this; omega) (.slice a1 l1 c1)
      have q3 := ownsRow_setCell_other (a := ⟨w.heap.size + 1, 1, none⟩) q2 (fun e => by have := (nv _ e).1; simp at this; omega) (.slice vo vl vc)
      obtain ⟨h1, h2⟩ := q3
      refine ⟨h1, ?_⟩
      rcases h2 with h2 | ⟨j, cap, cur, hv, hg, hh, r⟩
      · exact Or.inl h2
      · exact Or.inr ⟨j, cap, cur, hv, by omega, hh, r⟩
    have HO : Hid (OwnD (((w8.setCell ⟨wd.heap.size, 1, none⟩ (.slice vo vl vc)).setCell ⟨w.heap.size + 1, 0, none⟩ (.slice a1 l1 c1)).setCell ⟨w.heap.size + 1, 1, none⟩ (.slice vo vl vc)) w.heap.size w8.heap.size 55 5 (.agg #[.slice a1 l1 c1, .slice vo vl vc]) ⟨d.dur, d.pend ++ [(a, ys)]⟩) := by
      have P9 : OwnPx wr w.heap.size 55 5 (.slice po' pl pc) d.pend cells dvs := by
        refine ⟨?_, HPx.out.at0, HPx.out.at1, fun i hi => (HPx.out.data i hi).base (fun j hj => by have := ((HPx.out.data i hi).lt j hj).1; omega), HPx.out.apart⟩
        obtain ⟨h1, h2⟩ := HPx.out.row
        refine ⟨h1, ?_⟩
        rcases h2 with h2 | ⟨j, cap, cur, hv, hg, hh, r⟩
        · exact Or.inl h2
        · exact Or.inr ⟨j, cap, cur, hv, by omega, hh, r⟩
      have lt : ∀ i j, i < d.pend.length → (dvs i).ownBlock = some j → j < wd.heap.size := fun i j hi hj => HOD.out.hiX i j hi hj
      have fr : ∀ i g', i < d.pend.length → (dvs i).ownBlock = some g' → (Value.slice (some ⟨g5, 0, none⟩) ys.length cap5).ownBlock ≠ some g' := by
        intro i g' hi hg' e
        have := lt i g' hi hg'
        have e2 : g5 = g' := by simpa [Value.ownBlock] using e
        omega
      have P10 := P9.snoc a _ ys row9 (fun i hi => mv (X8 i hi)) (mv O8) fr
      refine ⟨_, _, _, _, rfl, mv D8, P10, ?_, fun j hj => (D8.lt j hj).2, fun j hj => (nv j hj).2.1, ?_⟩
      · intro i j hi hj
        simp only [List.length_append, List.length_cons, List.length_nil] at hi
        by_cases e : i = d.pend.length
        · simp only [if_pos e]
          have := HOD.out.hiD j hj
          simp [Value.ownBlock]
          omega
        · simp only [if_neg e]
          exact HOD.out.apart i j (by omega) hj
      · intro i j hi hj
        simp only [List.length_append, List.length_cons, List.length_nil] at hi
        by_cases e : i = d.pend.length
        · simp only [if_pos e] at hj
          exact (O8.lt j hj).2
        · simp only [if_neg e] at hj
          have := lt i j (by omega) hj
          omega
    obtain ⟨y0, y1, yf0, yf1⟩ := two_cells R9
    obtain ⟨u0, u1, _, _⟩ := two_cells B9
    have hS8 : Hid (w8.cell? ⟨wd.heap.size, 1, none⟩ = some (.slice po' pl pc)) := e1
    clear S6 X8 O8 D8 R8 hpE hpB K8 hgrow hown8 hnews P6 D6 Bx6 R6 HO6 C6 C6' C6w C8 B6 Bx8 HO5 HC5 HS5 nn mv nv row9 R9 B9 C9 C10
    go_simp
    refine weak_one 8 rfl rfl (by kernel_rfl) ?_
    go_simp
    refine weak_one 9 rfl rfl (by kernel_rfl) ?_
    go_simp
    refine weak_done (by kernel_rfl) (NoPanic.normal ?_)
    generalize w8.setCell ⟨wd.heap.size, 1, none⟩ (.slice vo vl vc) = w9 at *
    go_wp2
    refine bodyPost_ret (v := .agg #[.slice a1 l1 c1, .slice vo vl vc]) (by simp [results, Try.results10, go_sem, y0, y1]) rfl ⟨_, rfl, ?_, HCf.out⟩
    rw [HF.out, HSf.out]; exact HO.out
end Go.Proofs.Ytplfehjaakkldaa
