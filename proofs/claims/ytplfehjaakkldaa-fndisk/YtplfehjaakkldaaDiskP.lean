/- A device told as a disk: with writes pending. -/
import Derived.Test.YtplfehjaakkldaaFlushE
import Derived.Test.YtplfehjaakkldaaRowsE
import Derived.Test.YtplfehjaakkldaaWrite
namespace Go.Proofs.Ytplfehjaakkldaa
open Go.RowKit

/-- One write more, its bytes a row apart. -/
theorem OwnPx.snoc {w w' : World} {base : Nat} {eW eB : TypeId} {v v' : Value} {ps : List Wr} {cells : List Value} {dvs : Nat → Value} (h : OwnPx w base eW eB v ps cells dvs) (q : Int) (dv : Value) (ys : List Int)
    (hrow : w'.ownsRow base eW 2 v' (ps.length + 1) (cells ++ [.int .i64 q, dv])) (hdat : ∀ i, i < ps.length → OwnB w' base eB (dvs i) (ps.getD i (0, [])).2) (ho : OwnB w' base eB dv ys)
    (hfr : ∀ i g, i < ps.length → (dvs i).ownBlock = some g → dv.ownBlock ≠ some g) :
    OwnPx w' base eW eB v' (ps ++ [(q, ys)]) (cells ++ [.int .i64 q, dv]) (fun i => if i = ps.length then dv else dvs i) := by
  have hl := h.row.1
  refine ⟨by simpa using hrow, ?_, ?_, ?_, ?_⟩
  · intro i hi
    simp only [List.length_append, List.length_cons, List.length_nil] at hi
    by_cases e : i < ps.length
    · rw [List.getElem?_append_left (by omega), h.at0 i e, List.getD_eq_getElem?_getD, List.getD_eq_getElem?_getD, List.getElem?_append_left e]
    · obtain rfl : i = ps.length := by omega
      rw [List.getElem?_append_right (by omega), hl]
      simp [List.getD_eq_getElem?_getD]
  · intro i hi
    simp only [List.length_append, List.length_cons, List.length_nil] at hi
    by_cases e : i < ps.length
    · rw [List.getElem?_append_left (by omega), h.at1 i e, if_neg (by omega)]
    · obtain rfl : i = ps.length := by omega
      rw [List.getElem?_append_right (by omega), hl, if_pos rfl, show ps.length * 2 + 1 - ps.length * 2 = 1 by omega]
      rfl
  · intro i hi
    simp only [List.length_append, List.length_cons, List.length_nil] at hi
    by_cases e : i < ps.length
    · show OwnB w' base eB (if i = ps.length then dv else dvs i) _
      rw [if_neg (by omega), List.getD_eq_getElem?_getD, List.getElem?_append_left e, ← List.getD_eq_getElem?_getD]
      exact hdat i e
    · obtain rfl : i = ps.length := by omega
      show OwnB w' base eB (if ps.length = ps.length then dv else dvs ps.length) _
      rw [if_pos rfl]
      simpa [List.getD_eq_getElem?_getD] using ho
  · intro i j g hij hj
    simp only [List.length_append, List.length_cons, List.length_nil] at hj
    rw [if_neg (by omega)]
    by_cases e : j < ps.length
    · rw [if_neg (by omega)]; exact h.apart i j g hij e
    · rw [if_pos (by omega)]; exact hfr i g (by omega)

theorem fill_row (n : Nat) (A : Array Value) (hr : A.size = n) (full : List Value) (h : full.length = n) :
    Instr.fill (fun i => some (i * n, n)) A [(0, .agg full.toArray)] = some full.toArray := by
  have hf := foldl_splice 0 full 0 A (by omega)
  have e : splice A.toList (0 + 0) full = full := by
    unfold splice
    have hal : A.toList.length = n := hr
    simp only [Nat.zero_add, List.take_zero, List.nil_append]
    rw [List.drop_of_length_le (by omega), List.append_nil]
  rw [e] at hf
  have hf2 : List.foldl (fun (B : Array Value) (p : Value × Nat) => B.setIfInBounds (0 + p.2) p.1) A (full.zipIdx 0) = full.toArray := Array.ext' (by simpa using hf)
  simp only [Nat.zero_add] at hf2
  simp [Instr.fill, Value.cells, hr, h, hf2]

theorem Try.infoW' : (Try.prog.info? 55).map (fun i => (i.zero, i.size, i.bytes)) = some (some (.agg #[.int .i64 0, .slice none 0 0]), 2, 32) := by kernel_rfl

/-- A disk that is being told: in block B its bytes and as many writes as were told. -/
def ToldD (w : World) (lo B : Nat) (dur : List Int) (g : Nat) (ps : List Wr) : Prop :=
  ∃ pv cells dvs, w.heap[B]? = some (.cells #[.slice (some ⟨g, 0, none⟩) dur.length dur.length, pv] 29 (0, 0)) ∧ OwnB w lo 5 (.slice (some ⟨g, 0, none⟩) dur.length dur.length) dur ∧
    OwnPx w lo 55 5 pv ps cells dvs ∧ ∀ i, i < ps.length → (dvs i).ownBlock ≠ some g

set_option maxRecDepth 20000 in
set_option maxHeartbeats 4000000 in
theorem disk_calls (w : World) {base p : Nat} {d : Dsk} (h : Dev w base p d) :
    Calls Try.prog 52 #[.pointer (some ⟨p, 0, none⟩)] w fun e w' => ∃ v, e = .returned v ∧ OwnD w' w.heap.size w'.heap.size 55 5 v d ∧ Chg 0 0 w w' := by
  obtain ⟨gD, po, cap, hv, hp, hgD, hbox, hdur, hpend⟩ := h.pend_ne
  have hpz := (Array.getElem?_eq_some_iff.1 hbox).1
  have hgz := (Array.getElem?_eq_some_iff.1 hdur).1
  have h64 := hv.1
  have hn1 := hv.2.1
  have hn := hv.2.2.1
  have hm := hv.2.2.2.1
  have C0 : Chg 0 0 w (w.alloc (.cells #[.slice none 0 0, .slice none 0 0] 29)) := Chg.alloc (Chg.refl 0 0 w) _
  have B0 := heap_new w (.cells #[.slice none 0 0, .slice none 0 0] 29)
  have s0 : (w.alloc (.cells #[.slice none 0 0, .slice none 0 0] 29)).heap.size = w.heap.size + 1 := by simp
  have hdur0 := (C0.block gD hgz (by omega)).trans hdur
  have hbox0 := (C0.block p hpz (by omega)).trans hbox
  obtain ⟨b0, b1, _, _⟩ := two_cells hbox0
  obtain ⟨v0, v1, _, _⟩ := two_cells hbox
  have HP : Hid _ := hpend
  have HV : Hid (Valid d) := hv
  go_enter Try.func52, Try.ntmps52
  go_wp2_with fail
  generalize w.alloc (.cells #[.slice none 0 0, .slice none 0 0] 29) = wa at *
  refine (joined_calls _ gD _ d.dur hdur0 (by omega) hn1 hn).mono ?_
  rintro e wb ⟨g, rfl, ho, hb⟩
  rw [show d.dur.length / 64 * 64 = d.dur.length from by omega] at *
  have sb := hb.size
  have gb := ho.lt g rfl
  have B0 := (hb.block w.heap.size (by omega) (by omega)).trans B0
  have hbox1 := (hb.block p (by omega) (by omega)).trans hbox0
  have hB := C0.trans hb
  have C1 : Chg 0 0 wb (wb.alloc (.cells #[.slice (some ⟨g, 0, none⟩) d.dur.length d.dur.length, .slice none 0 0] 29)) := Chg.alloc (Chg.refl 0 0 wb) _
  have B2 := heap_new wb (.cells #[.slice (some ⟨g, 0, none⟩) d.dur.length d.dur.length, .slice none 0 0] 29)
  have B0 := (C1.block w.heap.size (by omega) (by omega)).trans B0
  have hbox2 := (C1.block p (by omega) (by omega)).trans hbox1
  have s2 : (wb.alloc (.cells #[.slice (some ⟨g, 0, none⟩) d.dur.length d.dur.length, .slice none 0 0] 29)).heap.size = wb.heap.size + 1 := by simp
  obtain ⟨b0, b1, _, _⟩ := two_cells hbox2
  obtain ⟨y0, y1, yf0, yf1⟩ := two_cells B0
  obtain ⟨u0, u1, _, _⟩ := two_cells B2
  have ho2 := (ho.chg C1 (by intro g' _; omega)).base (base' := w.heap.size) (fun g' hg' => by cases hg'; show w.heap.size ≤ g; omega)
  have hC := hB.trans C1
  go_wp2
  generalize wb.alloc (.cells #[.slice (some ⟨g, 0, none⟩) d.dur.length d.dur.length, .slice none 0 0] 29) = wd at *
  have T0 : ToldD wd (w.heap.size + 1) wb.heap.size d.dur g [] :=
    ⟨.slice none 0 0, [], fun _ => .slice none 0 0, B2, ho2.base (fun g' hg' => by cases hg'; show w.heap.size + 1 ≤ g; omega), OwnPx.nil _ _ _ _, by simp⟩
  have HT0 : Hid (ToldD wd (w.heap.size + 1) wb.heap.size d.dur g []) := T0
  have HC : Hid (Chg 0 0 w wd) := hC
  have HR : Hid (wd.heap[w.heap.size]? = some (.cells #[.slice none 0 0, .slice none 0 0] 29 (0, 0))) := B0
  clear T0 ho2 hC B0 B2 y0 y1 yf0 yf1 u0 u1 b0 b1
  go_loopw [17] (fun i wr => ∃ k : Nat, k ≤ d.pend.length ∧ i = .int .i64 k ∧ Chg 0 0 w wr ∧ wd.heap.size ≤ wr.heap.size ∧ wr.heap[w.heap.size]? = some (.cells #[.slice none 0 0, .slice none 0 0] 29 (0, 0)) ∧ ToldD wr (w.heap.size + 1) wb.heap.size d.dur g (d.pend.take k)) (fun i _ => d.pend.length - (intOf i).toNat)
  case atStart => exact ⟨0, Nat.zero_le _, rfl, HC.out, Nat.le_refl _, HR.out, by simpa using HT0.out⟩
  case round =>
    obtain ⟨k, hk, rfl, hcw, hsz, hR, pv, cells, dvs, hB, hD, hP, hA⟩ := hrel
    by_cases hlt : k < d.pend.length
    · obtain ⟨gP, rfl, hne, hgPz, hrg⟩ := HP.out k hlt
      obtain ⟨hq0, hq1, hx64⟩ := HV.out.2.2.2.2 k hlt
      have htk : d.pend.take (k + 1) = d.pend.take k ++ [d.pend.getD k (0, [])] := by
        rw [List.take_add_one, List.getD_eq_getElem?_getD, List.getElem?_eq_getElem hlt]; rfl
      have hlk : (d.pend.take k).length = k := by rw [List.length_take]; omega
      obtain ⟨po', pl, pc, rfl⟩ := row_slice hP.row
      generalize d.pend.getD k (0, []) = pr at *
      obtain ⟨q, xs⟩ := pr
      simp only at hq0 hq1 hx64
      obtain ⟨cs, hcs⟩ : ∃ cs, cs = xs.map (Value.int .u8) := ⟨_, rfl⟩
      obtain ⟨full, hfull⟩ : ∃ full, full = wcells (q, xs) := ⟨_, rfl⟩
      rw [← hfull] at hrg
      have hf2 : full = Value.int .i64 q :: cs := by rw [hfull, hcs]; rfl
      have L1 : cs.length = 64 := by rw [hcs]; simpa using hx64
      have L2 : ∀ v ∈ cs, v.oneCell' = true := by rw [hcs]; exact ints_oneCell _ _
      have L3 : full.length = 65 := by rw [hf2, List.length_cons, L1]
      have L4 : ∀ v ∈ full, v.oneCell' = true := by
        intro v hv
        rw [hf2] at hv
        rcases List.mem_cons.1 hv with rfl | hv
        · rfl
        · exact L2 v hv
      have R0 : wr.rangeAt gP (k * 65) full := fun j v hj => hcw.cell (hrg j v hj) (by omega)
      have HR0 : Hid _ := R0
      have Hf2 : Hid _ := hf2
      have HL3 : Hid _ := L3
      have HL4 : Hid _ := L4
      have Hsz : Hid (full.toArray.size = 65) := by show _ = _; simpa using L3
      have Hcs : Hid _ := hcs
      have u87 := Try.underlying108
      have i87 : Hid ((Try.prog.info? 108).map (·.size) = some full.toArray.size) := by show _ = _; rw [Hsz.out]; kernel_rfl
      have i87l : Hid ((Try.prog.info? 108).map (·.size) = some full.length) := by show _ = _; rw [L3]; kernel_rfl
      have HB : Hid _ := hB
      have HD : Hid (OwnB wr (w.heap.size + 1) 5 (.slice (some ⟨g, 0, none⟩) d.dur.length d.dur.length) d.dur) := hD
      have HPx : Hid _ := hP
      have HA : Hid _ := hA
      have HRr : Hid _ := hR
      have HCw : Hid _ := hcw
      clear hrg hcs hfull hf2 L2 L3 L4 R0 hB hD hP hA hR hcw
      have hik : (k : Int) < (d.pend.length : Int) := by omega
      go_wp2_with (first
        | (refine wpList_load_mid rfl 108 (.tmp 19) rfl gP (k * 65) rfl full _ HR0.out u87 rfl i87l.out ?_)
        | (refine wpList_store_mid rfl 108 (.tmp 5) (.tmp 20) rfl wr.heap.size 0 full.toArray rfl rfl (by rw [Hsz.out]; exact there_new wr _ _ 65 rfl) i87.out (all_oneCell_toArray HL4.out) ?_)
        | go_in)
      obtain ⟨F1, F2⟩ := filled (w := wr) (c := Try.zeroCells108) (t := 108) (full := full) (by rw [HL3.out]; rfl)
      generalize (wr.alloc (.cells Try.zeroCells108 108)).setCells wr.heap.size 0 full = W7 at *
      have hwb : wb.heap.size < wr.heap.size := by omega
      have z1 := F2.cell (two_cells HB.out).2.1 (by omega)
      have m0 : W7.cell? ⟨wr.heap.size, 0, none⟩ = some (.int .i64 q) := by
        rw [cell_of_row W7 wr.heap.size 0 _ _ _ F1, Hf2.out]; simp
      have R7 : W7.rangeAt wr.heap.size 1 cs := by
        intro j v hj
        rw [cell_of_row W7 wr.heap.size (1 + j) _ _ _ F1, Hf2.out, Nat.add_comm]
        simpa using hj
      have HF2 : Hid _ := F2
      have s7 := F2.size
      have s7b := (Array.getElem?_eq_some_iff.1 F1).1
      have HS : Hid (_ ∧ _ ∧ _) := ⟨z1, m0, R7⟩
      clear F1 F2 z1 m0 R7 HR0 u87 i87 i87l
      refine weak_region 11 (fun w' : World => w'.cell? ⟨wb.heap.size, 1, none⟩ = some (.slice po' pl pc) ∧ w'.cell? ⟨wr.heap.size, 0, none⟩ = some (.int .i64 q) ∧ w'.rangeAt wr.heap.size 1 cs) (by kernel_rfl) ?_
      refine weak_take 0 (.pointer (some ⟨wb.heap.size, 1, none⟩)) rfl (by kernel_rfl) (by kernel_rfl) (by kernel_rfl) (by kernel_rfl) (fun _ _ _ h => h) (.inl ⟨by kernel_rfl, fun w' hw' => by go_simp⟩) HS.out ?_
      go_simp
      refine weak_take 1 (.slice po' pl pc) rfl (by kernel_rfl) (by kernel_rfl) (by kernel_rfl) (by kernel_rfl) (fun _ _ _ h => h) (.inl ⟨by kernel_rfl, fun w' hw' => by have h4 := hw'.1; go_simp⟩) HS.out ?_
      go_simp
      refine weak_take 2 (.pointer (some ⟨wr.heap.size, 0, none⟩)) rfl (by kernel_rfl) (by kernel_rfl) (by kernel_rfl) (by kernel_rfl) (fun _ _ _ h => h) (.inl ⟨by kernel_rfl, fun w' hw' => by go_simp⟩) HS.out ?_
      go_simp
      refine weak_take 3 (.int .i64 q) rfl (by kernel_rfl) (by kernel_rfl) (by kernel_rfl) (by kernel_rfl) (fun _ _ _ h => h) (.inl ⟨by kernel_rfl, fun w' hw' => by have h4 := hw'.2.1; go_simp⟩) HS.out ?_
      go_simp
      refine weak_take 4 (.pointer (some ⟨wr.heap.size, 1, none⟩)) rfl (by kernel_rfl) (by kernel_rfl) (by kernel_rfl) (by kernel_rfl) (fun _ _ _ h => h) (.inl ⟨by kernel_rfl, fun w' hw' => by go_simp⟩) HS.out ?_
      go_simp
      refine weak_take 5 (.agg cs.toArray) rfl (by kernel_rfl) (by kernel_rfl) (by kernel_rfl) (by kernel_rfl) (fun _ _ _ h => h) (yieldsIf_load_mid (by kernel_rfl) 98 (.tmp 25) rfl wr.heap.size 1 rfl cs _ (fun w' hw' => hw'.2.2) Try.underlying98 rfl (by rw [L1]; kernel_rfl)) HS.out ?_
      go_simp
      refine weak_one 6 rfl rfl (by kernel_rfl) ?_
      have hb5 := bytesOf_calls W7.drew xs hx64
      rw [← Hcs.out] at hb5
      refine wp_enter 69 #[.agg cs.toArray] (by first | kernel_rfl | go_simp) hb5 ?_
      rintro e w5 ⟨g5, rfl, ho5, hc5⟩
      refine ⟨_, rfl, ?_⟩
      clear hb5
      have hds : W7.drew.heap.size = W7.heap.size := rfl
      have HS5 : Hid (_ ∧ _ ∧ _) := ⟨hc5.cell HS.out.1 (by omega), hc5.cell HS.out.2.1 (by omega), fun j v hj => hc5.cell (HS.out.2.2 j v hj) (by omega)⟩
      have HC5 : Hid _ := (Chg.drew HF2.out).trans hc5
      have s5 := hc5.size
      have g5b := ho5.lt g5 rfl
      rw [hds] at s5 g5b
      have HO5 : Hid (OwnB w5 (w.heap.size + 1) 5 (.slice (some ⟨g5, 0, none⟩) 64 64) xs) := ho5.base (fun g' hg' => by cases hg'; show w.heap.size + 1 ≤ g5; omega)
      clear HS ho5 hc5
      refine ⟨fun _ => HS5.out, ?_⟩
      go_simp
      refine weak_take 7 (.agg #[.int .i64 q, .slice (some ⟨g5, 0, none⟩) 64 64]) rfl (by kernel_rfl) (by kernel_rfl) (by kernel_rfl) (by kernel_rfl) (fun _ _ _ h => h) (.inl ⟨by kernel_rfl, fun w' hw' => by go_simp⟩) HS5.out ?_
      go_simp
      obtain ⟨ic, hic, hcz0, hcz1, hcz2⟩ := info_parts Try.infoW'
      refine weak_one 8 rfl rfl (by kernel_rfl) ?_
      refine wp_buildSlice 27 55 1 #[(0, .tmp 28)] rfl #[.int .i64 q, .slice (some ⟨g5, 0, none⟩) 64 64] ic _ Try.underlying27 hic hcz0 (by rw [hcz1]; decide) (by rw [hcz1]; decide) (by rw [hcz1, Array.toList_map]; refine fill_row 2 _ ?_ [.int .i64 q, .slice (some ⟨g5, 0, none⟩) 64 64] rfl; simp) ?_
      have C6 : Chg 0 0 wr (w5.alloc (.cells #[.int .i64 q, .slice (some ⟨g5, 0, none⟩) 64 64] 55)) := HC5.out.alloc _
      have C6' : Chg 0 0 w5 (w5.alloc (.cells #[.int .i64 q, .slice (some ⟨g5, 0, none⟩) 64 64] 55)) := Chg.alloc (Chg.refl 0 0 w5) _
      have B6 := heap_new w5 (.cells #[.int .i64 q, .slice (some ⟨g5, 0, none⟩) 64 64] 55)
      have s6 : (w5.alloc (.cells #[.int .i64 q, .slice (some ⟨g5, 0, none⟩) 64 64] 55)).heap.size = w5.heap.size + 1 := by simp
      generalize w5.alloc (.cells #[.int .i64 q, .slice (some ⟨g5, 0, none⟩) 64 64] 55) = w6 at *
      have HO6 := HO5.out.chg C6' (by intro g' _; omega)
      have S6 : (fun w' : World => w'.cell? ⟨wb.heap.size, 1, none⟩ = some (.slice po' pl pc) ∧ w'.cell? ⟨wr.heap.size, 0, none⟩ = some (.int .i64 q) ∧ w'.rangeAt wr.heap.size 1 cs) w6 := ⟨C6'.cell HS5.out.1 (by omega), C6'.cell HS5.out.2.1 (by omega), fun j v hj => C6'.cell (HS5.out.2.2 j v hj) (by omega)⟩
      refine ⟨fun _ => S6, ?_⟩
      go_simp
      have P6 := HPx.out.chg C6 (by intro g' _; omega) (by intro i g' _ _; omega)
      have D6 := HD.out.chg C6 (by intro g' _; omega)
      have Bx6 := (C6.block wb.heap.size (by omega) (by omega)).trans HB.out
      have R6 := (C6.block w.heap.size (by omega) (by omega)).trans HRr.out
      have hnews : ∀ j u, [Value.int .i64 q, .slice (some ⟨g5, 0, none⟩) 64 64][j]? = some u → w6.cell? ((⟨w5.heap.size, 0, none⟩ : Addr).add j) = some u := by
        intro j u hj
        rw [Addr.add_mid, Nat.zero_add, cell_of_row w6 w5.heap.size j _ _ _ B6]
        simpa using hj
      refine weak_one 9 rfl rfl (by kernel_rfl) ?_
      refine wp_append_own w6 (.tmp 22) (.tmp 29) 27 rfl (w.heap.size + 1) 55 ic _ 2 32 Try.underlying27 hic hcz0 hcz1 hcz2 rfl (by decide) _ _ cells rfl P6.row ⟨w5.heap.size, 0, none⟩ 1 1 [.int .i64 q, .slice (some ⟨g5, 0, none⟩) 64 64] rfl rfl hnews (by simp [Value.oneCell']) (by rw [hlk]; unfold maxLen; omega) (by rw [hlk]; omega) (by omega) ?_
      intro v' w8 hown8 hgrow _
      obtain ⟨vo, vl, vc, rfl⟩ := row_slice hown8
      have s8 := hgrow.size
      have K8 : ∀ j, j < w6.heap.size → (Value.slice po' pl pc).ownBlock ≠ some j → w8.heap[j]? = w6.heap[j]? := fun j hj hne' => hgrow.block j hj (fun e => hne' e.symm)
      have hpB : ∀ j, (Value.slice po' pl pc).ownBlock = some j → w.heap.size + 1 ≤ j ∧ j < wr.heap.size := fun j hj => World.ownsRow.lt HPx.out.row j hj
      have hpE : ∀ j, (Value.slice po' pl pc).ownBlock = some j → ∃ cur, w6.heap[j]? = some (.cells cur 55 (0, 0)) := fun j hj => row_elem' P6.row hj
      have Bx8 : w8.heap[wb.heap.size]? = _ := (K8 wb.heap.size (by omega) (fun e => by obtain ⟨cur, hcur⟩ := hpE _ e; exact cells_ne hcur Bx6 (by decide) rfl)).trans Bx6
      have R8 : w8.heap[w.heap.size]? = _ := (K8 w.heap.size (by omega) (fun e => by have := hpB _ e; omega)).trans R6
      have D8 : OwnB w8 (w.heap.size + 1) 5 _ d.dur := D6.same (fun j hj => K8 j (D6.lt j hj).2 (fun e => by obtain ⟨cur, hcur⟩ := hpE _ e; obtain ⟨cur', hcur'⟩ := D6.elem hj; exact cells_ne hcur hcur' (by decide) rfl))
      have O8 : OwnB w8 (w.heap.size + 1) 5 _ xs := HO6.same (fun j hj => K8 j (HO6.lt j hj).2 (fun e => by obtain ⟨cur, hcur⟩ := hpE _ e; obtain ⟨cur', hcur'⟩ := HO6.elem hj; exact cells_ne hcur hcur' (by decide) rfl))
      have X8 : ∀ i, i < (d.pend.take k).length → OwnB w8 (w.heap.size + 1) 5 (dvs i) ((d.pend.take k).getD i (0, [])).2 := fun i hi => (P6.data i hi).same (fun j hj => K8 j ((P6.data i hi).lt j hj).2 (fun e => by obtain ⟨cur, hcur⟩ := hpE _ e; obtain ⟨cur', hcur'⟩ := (P6.data i hi).elem hj; exact cells_ne hcur hcur' (by decide) rfl))
      have C6w := HCw.out.trans C6
      have C8 : Chg 0 0 w w8 := by
        refine ⟨hgrow.os.trans C6w.os, hgrow.tape.trans C6w.tape, hgrow.output.trans C6w.output, by omega, fun j hj hh => (K8 j (by omega) (fun e => ?_)).trans (C6w.block j hj (by omega))⟩
        have := hpB j e
        omega
      have S8 : (fun w' : World => w'.cell? ⟨wb.heap.size, 1, none⟩ = some (.slice po' pl pc) ∧ w'.cell? ⟨wr.heap.size, 0, none⟩ = some (.int .i64 q) ∧ w'.rangeAt wr.heap.size 1 cs) w8 := ⟨(two_cells Bx8).2.1, ?_, ?_⟩
      rotate_left 1
      · have := S6.2.1
        rw [World.cell?_of_block (w := w6) (a := ⟨wr.heap.size, 0, none⟩) (K8 wr.heap.size (by omega) (fun e => by have := hpB _ e; omega))]
        exact this
      · intro j v hj
        rw [World.cell?_of_block (w := w6) (a := ⟨wr.heap.size, 1 + j, none⟩) (K8 wr.heap.size (by omega) (fun e => by have := hpB _ e; omega))]
        exact S6.2.2 j v hj
      refine ⟨fun _ => S8, ?_⟩
      have e1 := S8.1
      have ef1 := (two_cells Bx8).2.2.2
      have HS8 : Hid _ := S8
      have nB : ∀ {v xs}, OwnB w8 (w.heap.size + 1) 5 v xs → v.ownBlock ≠ some wb.heap.size := fun ho e => by obtain ⟨cur, hcur⟩ := ho.elem e; exact cells_ne hcur Bx8 (by decide) rfl
      have HC9 : Hid (Chg 0 0 w (w8.setCell ⟨wb.heap.size, 1, none⟩ (.slice vo vl vc))) := C8.step (Chg.setCell (lo := wb.heap.size) (hi := wb.heap.size + 1) (Chg.refl _ _ _) (Or.inl ⟨Nat.le_refl _, Nat.lt_succ_self _⟩) _) (by omega)
      have HR9 : Hid ((w8.setCell ⟨wb.heap.size, 1, none⟩ (.slice vo vl vc)).heap[w.heap.size]? = some (.cells #[.slice none 0 0, .slice none 0 0] 29 (0, 0))) := (Below.heap_setCell _ _ _ _ (by show w.heap.size ≠ wb.heap.size; omega)).trans R8
      have HT9 : Hid (ToldD (w8.setCell ⟨wb.heap.size, 1, none⟩ (.slice vo vl vc)) (w.heap.size + 1) wb.heap.size d.dur g (d.pend.take (k + 1))) := by
        refine ⟨.slice vo vl vc, cells ++ [.int .i64 q, .slice (some ⟨g5, 0, none⟩) 64 64], fun i => if i = (d.pend.take k).length then .slice (some ⟨g5, 0, none⟩) 64 64 else dvs i, ?_, D8.set (nB D8) _, ?_, ?_⟩
        · have := heap_setCell_same w8 wb.heap.size 1 _ _ (.slice vo vl vc) Bx8
          simpa using this
        · rw [htk]
          refine P6.snoc q _ xs (ownsRow_setCell_other hown8 (fun e => ?_) _) (fun i hi => (X8 i hi).set (nB (X8 i hi)) _) (O8.set (nB O8) _) (fun i g' hi hg' e => ?_)
          · obtain ⟨cur, hcur⟩ := row_elem' hown8 e
            exact cells_ne hcur Bx8 (by decide) rfl
          · have := ((HPx.out.data i hi).lt g' hg').2
            have e2 : g5 = g' := by simpa [Value.ownBlock] using e
            omega
        · intro i hi
          rw [htk, List.length_append, List.length_cons, List.length_nil] at hi
          by_cases e : i = (d.pend.take k).length
          · simp only [if_pos e]
            have := (HD.out.lt g rfl).2
            simp [Value.ownBlock]
            omega
          · simp only [if_neg e]
            exact HA.out i (by omega)
      have HS9 : Hid (wd.heap.size ≤ (w8.setCell ⟨wb.heap.size, 1, none⟩ (.slice vo vl vc)).heap.size) := by show _ ≤ _; simp [World.setCell]; omega
      clear S8 S6 X8 O8 D8 R8 hpE hpB K8 hgrow hown8 hnews P6 D6 Bx6 R6 HO6 C6 C6' C6w C8 B6 nB Bx8 HO5 HC5 HS5 htk
      go_simp
      refine weak_one 10 rfl rfl (by kernel_rfl) ?_
      go_simp
      refine ⟨HS8.out.2, ?_⟩
      refine weak_one 11 rfl rfl (by kernel_rfl) ?_
      go_simp
      refine weak_done (by kernel_rfl) (NoPanic.normal ?_)
      go_wp2
      go_roundw
      case rel => exact ⟨k + 1, by omega, by go_num, HC9.out, HS9.out, HR9.out, HT9.out⟩
      case measure => simp [intOf]; omega
    · obtain rfl : k = d.pend.length := by omega
      rw [List.take_length] at hP hA
      obtain ⟨po', pl, pc, rfl⟩ := row_slice hP.row
      obtain ⟨z0, z1, zf0, zf1⟩ := two_cells hR
      obtain ⟨t0, t1, tf0, tf1⟩ := two_cells hB
      have HO : Hid (OwnD ((wr.setCell ⟨w.heap.size, 0, none⟩ (.slice (some ⟨g, 0, none⟩) d.dur.length d.dur.length)).setCell ⟨w.heap.size, 1, none⟩ (.slice po' pl pc)) w.heap.size wr.heap.size 55 5 (.agg #[.slice (some ⟨g, 0, none⟩) d.dur.length d.dur.length, .slice po' pl pc]) d) := by
        have c2 : Chg w.heap.size (w.heap.size + 1) wr ((wr.setCell ⟨w.heap.size, 0, none⟩ (.slice (some ⟨g, 0, none⟩) d.dur.length d.dur.length)).setCell ⟨w.heap.size, 1, none⟩ (.slice po' pl pc)) := Chg.set2 _ _ _ _
        have P9 := hP.chg c2 (fun j hj => Or.inr (World.ownsRow.lt hP.row j hj).1) (fun i j hi hj => Or.inr ((hP.data i hi).lt j hj).1)
        have P9' : OwnPx ((wr.setCell ⟨w.heap.size, 0, none⟩ (.slice (some ⟨g, 0, none⟩) d.dur.length d.dur.length)).setCell ⟨w.heap.size, 1, none⟩ (.slice po' pl pc)) w.heap.size 55 5 (.slice po' pl pc) d.pend cells dvs := by
          refine ⟨?_, P9.at0, P9.at1, fun i hi => (P9.data i hi).base (fun j hj => by have := ((P9.data i hi).lt j hj).1; omega), P9.apart⟩
          obtain ⟨h1, h2⟩ := P9.row
          refine ⟨h1, ?_⟩
          rcases h2 with h2 | ⟨j, cap, cur, hv, hg, hh, r⟩
          · exact Or.inl h2
          · exact Or.inr ⟨j, cap, cur, hv, by omega, hh, r⟩
        refine ⟨_, _, cells, dvs, rfl, (hD.chg c2 (fun j hj => Or.inr (hD.lt j hj).1)).base (fun j hj => by have := (hD.lt j hj).1; omega), P9', fun i j hi hj e => hA i hi (by cases hj; exact e), fun j hj => (hD.lt j hj).2, fun j hj => (World.ownsRow.lt hP.row j hj).2, fun i j hi hj => ((hP.data i hi).lt j hj).2⟩
      have HCf : Hid (Chg 0 0 w ((wr.setCell ⟨w.heap.size, 0, none⟩ (.slice (some ⟨g, 0, none⟩) d.dur.length d.dur.length)).setCell ⟨w.heap.size, 1, none⟩ (.slice po' pl pc))) := hcw.step (Chg.set2 _ _ _ _) (by omega)
      have HSf : Hid (((wr.setCell ⟨w.heap.size, 0, none⟩ (.slice (some ⟨g, 0, none⟩) d.dur.length d.dur.length)).setCell ⟨w.heap.size, 1, none⟩ (.slice po' pl pc)).heap.size = wr.heap.size) := by show _ = _; simp [World.setCell]
      go_wp2
      refine bodyPost_ret (v := .agg #[.slice (some ⟨g, 0, none⟩) d.dur.length d.dur.length, .slice po' pl pc]) (by simp [results, Try.results52, go_sem, z0, z1]) rfl ⟨_, rfl, ?_, HCf.out⟩
      rw [HSf.out]; exact HO.out
end Go.Proofs.Ytplfehjaakkldaa
