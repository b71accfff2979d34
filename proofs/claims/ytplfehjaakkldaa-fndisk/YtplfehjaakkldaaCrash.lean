/- The device crashes: crash, a settled device under a list of what is kept. -/
import Derived.Test.YtplfehjaakkldaaFlush
namespace Go.Proofs.Ytplfehjaakkldaa
open Go.RowKit

theorem Dev.chg {w w' : World} {base p l r : Nat} {d : Dsk} (h : Dev w base p d) (c : Chg l r w w') (e : r ≤ l) : Dev w' base p d := by
  obtain ⟨gD, pv, hv, hp, hb, hd, hpd⟩ := h
  have K : ∀ {b : Nat} {o : Obj}, w.heap[b]? = some o → w'.heap[b]? = some o := fun hh => (c.block _ (Array.getElem?_eq_some_iff.1 hh).1 (by omega)).trans hh
  have R : ∀ {t : TypeId} {sz : Nat} {v : Value} {n : Nat} {xs : List Value}, w.ownsRow base t sz v n xs → w'.ownsRow base t sz v n xs := by
    intro t sz v n xs h
    refine ⟨h.1, ?_⟩
    rcases h.2 with h2 | ⟨g, cap, cur, hv, hg, hh, r⟩
    · exact Or.inl h2
    · exact Or.inr ⟨g, cap, cur, hv, hg, K hh, r⟩
  exact ⟨gD, pv, hv, hp, K hb, R hd, R hpd⟩

/-- Is the i-th write kept? -/
def kp (keep : List Int) (i : Nat) : Bool := decide (i < keep.length) && (keep.getD i 0 != 0)

theorem one_cell {w : World} {s : Nat} {a : Value} {t : TypeId} (h : w.heap[s]? = some (.cells #[a] t (0, 0))) : w.cell? ⟨s, 0, none⟩ = some a := by simp [World.cell?, h]

set_option maxRecDepth 20000 in
set_option maxHeartbeats 400000 in
theorem crash1_calls (w : World) {lo hi B : Nat} {kv : Value} (keep : List Int) (i : Nat) (hB : w.heap[B]? = some (.cells #[kv] 41 (0, 0))) (hk : View w lo hi .i64 kv keep) :
    Calls Try.prog 80 #[.int .i64 i, .pointer (some ⟨B, 0, none⟩)] w fun e w' => e = .returned (.bool (kp keep i)) ∧ w' = w := by
  have c0 := one_cell hB
  obtain ⟨ko, kc, rfl, hl, _, hkc⟩ := hk
  clear hB
  by_cases h1 : i < keep.length
  · obtain ⟨kb, kof, rfl, hcel⟩ : ∃ kb kof, ko = some ⟨kb, kof, none⟩ ∧ ∀ i, i < keep.length → w.cell? ⟨kb, kof + i, none⟩ = some (.int .i64 (keep.getD i 0)) := by
      rcases hkc with e | ⟨kb, kof, e, _, _, h⟩
      · rw [e] at h1; simp at h1
      · exact ⟨kb, kof, e, h⟩
    have c1 := hcel i h1
    have HV : Hid (kp keep i = (keep.getD i 0 != 0)) := by show _ = _; simp [kp, h1]
    have hii : (i : Int) < (keep.length : Int) := by omega
    have hdi : decide ((i : Int) < (keep.length : Int)) = true := by simpa using hii
    clear hkc hcel
    generalize keep.getD i 0 = x at *
    go_enter Try.func80, Try.ntmps80
    go_wp2
    go_ret
    exact ⟨by rw [HV.out]; rfl, rfl⟩
  · have HV : Hid (kp keep i = false) := by show _ = _; simp [kp]; intro h; omega
    have hdi : decide ((i : Int) < (keep.length : Int)) = false := by simp; omega
    clear hkc
    go_enter Try.func80, Try.ntmps80
    go_wp2
    go_ret
    exact ⟨by rw [HV.out]; rfl, rfl⟩

set_option maxRecDepth 20000 in
set_option maxHeartbeats 2000000 in
theorem settle_crash (w : World) {base p lo hi B : Nat} {d : Dsk} {kv : Value} (keep : List Int) (h : Dev w base p d) (hB : w.heap[B]? = some (.cells #[kv] 41 (0, 0))) (hkv : View w lo hi .i64 kv keep) (hlo : hi ≤ base) :
    Calls Try.prog 78 #[.pointer (some ⟨p, 0, none⟩), .func (.func 80) #[] #[.pointer (some ⟨B, 0, none⟩)]] w fun e w' => e = .returned (.tuple #[]) ∧ Dev w' base p (setD (kp keep) d) ∧ Chg base w.heap.size w w' := by
  obtain ⟨gD, po, cap, hv, hp, hgD, hbox, hdur, hpend⟩ := h.pend_ne
  have hpz : p < w.heap.size := (Array.getElem?_eq_some_iff.1 hbox).1
  have hgz : gD < w.heap.size := (Array.getElem?_eq_some_iff.1 hdur).1
  have hpg : p ≠ gD := by
    intro e
    rw [e, hdur] at hbox
    simp only [Option.some.injEq, Obj.cells.injEq] at hbox
    exact absurd hbox.2.1 (by decide)
  have hBg : B ≠ gD := by
    intro e
    rw [e, hdur] at hB
    simp only [Option.some.injEq, Obj.cells.injEq] at hB
    exact absurd hB.2.1 (by decide)
  have hm := hv.2.2.2.1
  have hn := hv.2.2.1
  obtain ⟨b0, b1, _, _⟩ := two_cells hbox
  have HP : Hid (∀ k, k < d.pend.length → ∃ gP, po = some ⟨gP, 0, none⟩ ∧ gP ≠ gD ∧ gP < w.heap.size ∧ w.rangeAt gP (k * 65) (wcells (d.pend.getD k (0, [])))) := hpend
  have HV : Hid (Valid d) := hv
  have Hdur : Hid (w.heap[gD]? = some (.cells (d.dur.map (Value.int .u8)).toArray 98 (0, 0))) := hdur
  have Hbox : Hid (w.heap[p]? = some (.cells #[.slice (some ⟨gD, 0, none⟩) (d.dur.length / 64) (d.dur.length / 64), .slice po d.pend.length cap] 79 (0, 0))) := hbox
  have hBz : B < w.heap.size := (Array.getElem?_eq_some_iff.1 hB).1
  have HB : Hid (w.heap[B]? = some (.cells #[kv] 41 (0, 0))) := hB
  have HK : Hid (View w lo hi .i64 kv keep) := hkv
  clear hpend hdur hbox h hv hB hkv
  go_enter Try.func78, Try.ntmps78
  go_wp2
  go_loopw [11] (fun i wr => ∃ k : Nat, k ≤ d.pend.length ∧ i = .int .i64 k ∧ Chg gD (gD + 1) w wr ∧ wr.heap[gD]? = some (.cells ((stl (kp keep) d.pend d.dur k).map (Value.int .u8)).toArray 98 (0, 0))) (fun i _ => d.pend.length - (intOf i).toNat)
  case atStart => exact ⟨0, Nat.zero_le _, rfl, Chg.refl _ _ _, Hdur.out⟩
  case round =>
    obtain ⟨k, hk, rfl, hcw, hrow⟩ := hrel
    have sz := hcw.size
    have y0 := hcw.cell b0 (by omega)
    have y1 := hcw.cell b1 (by omega)
    have Hrow : Hid (wr.heap[gD]? = some (.cells ((stl (kp keep) d.pend d.dur k).map (Value.int .u8)).toArray 98 (0, 0))) := hrow
    clear hrow
    by_cases hlt : k < d.pend.length
    · obtain ⟨gP, rfl, hne, hgPz, hrg⟩ := HP.out k hlt
      obtain ⟨hq0, hq1, hx64⟩ := HV.out.2.2.2.2 k hlt
      have hstep := stl_step (kp keep) d.pend d.dur k
      have hskip := stl_skip (kp keep) d.pend d.dur k
      have hlenk := stl_length (kp keep) d HV.out k hk
      generalize d.pend.getD k (0, []) = pr at *
      obtain ⟨q, xs⟩ := pr
      simp only at hq0 hq1 hx64 hstep hskip
      obtain ⟨qn, rfl⟩ := Int.eq_ofNat_of_zero_le hq0
      rw [Int.toNat_natCast] at hstep
      obtain ⟨cs, hcs⟩ : ∃ cs, cs = xs.map (Value.int .u8) := ⟨_, rfl⟩
      rw [← hcs] at hstep
      obtain ⟨full, hfull⟩ : ∃ full, full = wcells ((qn : Int), xs) := ⟨_, rfl⟩
      rw [← hfull] at hrg
      have hf2 : full = Value.int .i64 (qn : Int) :: cs := by rw [hfull, hcs]; rfl
      have L1 : cs.length = 64 := by rw [hcs]; simpa using hx64
      have L2 : ∀ v ∈ cs, v.oneCell' = true := by rw [hcs]; exact ints_oneCell _ _
      have L3 : full.length = 65 := by rw [hf2, List.length_cons, L1]
      have L4 : ∀ v ∈ full, v.oneCell' = true := by
        intro v hv
        rw [hf2] at hv
        rcases List.mem_cons.1 hv with rfl | hv
        · rfl
        · exact L2 v hv
      have R0 : wr.rangeAt gP (k * 65) full := fun j v hj => hcw.cell (hrg j v hj) (by omega)
      have HR0 : Hid (wr.rangeAt gP (k * 65) full) := R0
      have HL1 : Hid (cs.length = 64) := L1
      have HL2 : Hid (∀ v ∈ cs, v.oneCell' = true) := L2
      have HL3 : Hid (full.length = 65) := L3
      have HL4 : Hid (∀ v ∈ full, v.oneCell' = true) := L4
      have Hf2 : Hid (full = Value.int .i64 (qn : Int) :: cs) := hf2
      have Hskip : Hid (kp keep k = false → stl (kp keep) d.pend d.dur (k + 1) = stl (kp keep) d.pend d.dur k) := hskip
      have Hstep : Hid (kp keep k = true → splice ((stl (kp keep) d.pend d.dur k).map (Value.int .u8)) (qn * 64) cs = (stl (kp keep) d.pend d.dur (k + 1)).map (Value.int .u8)) := hstep
      have Hlk : Hid ((stl (kp keep) d.pend d.dur k).length = d.dur.length) := hlenk
      have Hsz : Hid (full.toArray.size = 65) := by show _ = _; simpa using L3
      have u87 := Try.underlying108
      have i87 : Hid ((Try.prog.info? 108).map (·.size) = some full.toArray.size) := by show _ = _; rw [Hsz.out]; kernel_rfl
      have i87l : Hid ((Try.prog.info? 108).map (·.size) = some full.length) := by show _ = _; rw [L3]; kernel_rfl
      have hmod := HV.out.1
      clear hrg hcs hfull hf2 L1 L2 L3 L4 R0 hstep hskip hlenk hx64
      have hik : (k : Int) < (d.pend.length : Int) := by omega
      go_wp2_with (first
        | (refine wpList_load_mid rfl 108 (.tmp 14) rfl gP (k * 65) rfl full _ HR0.out u87 rfl i87l.out ?_)
        | (refine wpList_store_mid rfl 108 (.tmp 5) (.tmp 15) rfl wr.heap.size 0 full.toArray rfl rfl (by rw [Hsz.out]; exact there_new wr _ _ 65 rfl) i87.out (all_oneCell_toArray HL4.out) ?_))
      obtain ⟨F1, F2⟩ := filled (w := wr) (c := Try.zeroCells108) (t := 108) (full := full) (by rw [HL3.out]; rfl)
      generalize (wr.alloc (.cells Try.zeroCells108 108)).setCells wr.heap.size 0 full = W7 at *
      have m0 : W7.cell? ⟨wr.heap.size, 0, none⟩ = some (.int .i64 (qn : Int)) := by
        rw [cell_of_row W7 wr.heap.size 0 _ _ _ F1, Hf2.out]; simp
      have R7 : W7.rangeAt wr.heap.size 1 cs := by
        intro j v hj
        rw [cell_of_row W7 wr.heap.size (1 + j) _ _ _ F1, Hf2.out, Nat.add_comm]
        simpa using hj
      have hrow7 : W7.heap[gD]? = some (.cells ((stl (kp keep) d.pend d.dur k).map (Value.int .u8)).toArray 98 (0, 0)) := (F2.block gD (by omega) (by omega)).trans Hrow.out
      have T7 : W7.there gD (qn * 64) 64 := by
        intro j hj
        constructor
        · rw [World.cell?, hrow7]; simp; rw [Hlk.out]; omega
        · rw [World.frozen?, hrow7]; simp
      have y7 := F2.cell y0 (by omega)
      have C7 : Chg gD (gD + 1) w W7 := hcw.step F2 (by omega)
      have hB7 := (C7.block B hBz (by omega)).trans HB.out
      have hk7 := HK.out.chg C7 (by omega)
      have Hrow7 : Hid (W7.heap[gD]? = some (.cells ((stl (kp keep) d.pend d.dur k).map (Value.int .u8)).toArray 98 (0, 0))) := hrow7
      have hng : wr.heap.size ≠ gD := by omega
      have hq2 : (qn : Int) < (d.dur.length : Int) / 64 := by omega
      have hq3 : qn < d.dur.length / 64 := by omega
      have u85 := Try.underlying98
      have L1 := HL1.out
      have L2 := HL2.out
      have i85 : (Try.prog.info? 98).map (·.size) = some cs.length := by rw [L1]; kernel_rfl
      have hst : (storeCells ⟨gD, qn * 64, none⟩ cs).run Try.prog W7.drew = .ok () (W7.drew.setCells gD (qn * 64) cs) := by
        have := run_storeCells_cells (P := Try.prog) gD (qn * 64) cs 0 W7.drew (fun j hj => by simpa using (T7 j (by omega)).1) (fun j hj => by simpa using (T7 j (by omega)).2) L2
        simpa using this
      clear F1 F2 hrow7 Hrow HR0 y0 y1 hcw u87 i87 i87l
      refine (crash1_calls W7 keep k hB7 hk7).mono ?_
      rintro e w7 ⟨rfl, rfl⟩
      clear hB7 hk7
      cases hK : kp keep k with
      | false =>
        have R1 := C7
        have R2 : Hid (w7.heap[gD]? = some (.cells ((stl (kp keep) d.pend d.dur (k + 1)).map (Value.int .u8)).toArray 98 (0, 0))) := by
          rw [Hskip.out hK]; exact Hrow7.out
        clear hst u85 i85 L1 L2 R7 T7 m0 y7 C7 Hrow7 Hstep Hskip Hf2 Hlk hK
        go_wp2
        go_roundw
        case rel => exact ⟨k + 1, by omega, by go_num, R1, R2.out⟩
        case measure => simp [intOf]; omega
      | true =>
        go_wp2
        go_region_held3 (fun w' => w'.cell? ⟨p, 0, none⟩ = some (.slice (some ⟨gD, 0, none⟩) (d.dur.length / 64) (d.dur.length / 64)) ∧ w'.cell? ⟨wr.heap.size, 0, none⟩ = some (.int .i64 (qn : Int)) ∧ w'.rangeAt wr.heap.size 1 cs ∧ w'.there gD (qn * 64) 64)
          (first | exact ⟨y7, m0, R7, T7⟩ | exact ⟨(Chg.setCells gD _ _ w7.drew).cell y7 (by omega), (Chg.setCells gD _ _ w7.drew).cell m0 (by omega), World.rangeAt_setCells_apart (w := w7.drew) R7 _ _ _ (Or.inl hng), World.there_setCells (w := w7.drew) T7 _ _ _⟩) (fail)
        have R1 : Hid (Chg gD (gD + 1) w (w7.drew.setCells gD (qn * 64) cs)) := C7.drew.trans (Chg.setCells gD _ _ _)
        have R2 : Hid ((w7.drew.setCells gD (qn * 64) cs).heap[gD]? = some (.cells ((stl (kp keep) d.pend d.dur (k + 1)).map (Value.int .u8)).toArray 98 (0, 0))) := by
          have := heap_setCells gD 98 cs (qn * 64) w7.drew _ Hrow7.out (by rw [List.length_map, Hlk.out, L1]; omega)
          rw [Hstep.out hK] at this
          exact this
        clear hst u85 i85 L1 L2 R7 T7 m0 y7 C7 Hrow7 Hstep Hskip Hf2 Hlk
        go_wp2
        go_roundw
        case rel => exact ⟨k + 1, by omega, by go_num, R1.out, R2.out⟩
        case measure => simp [intOf]; omega
    · obtain rfl : k = d.pend.length := by omega
      have G1 : wr.heap[p]? = _ := (hcw.block p hpz (by omega)).trans Hbox.out
      obtain ⟨z0, z1, zf0, zf1⟩ := two_cells G1
      have hvs := setD_valid (kp keep) HV.out
      have hl := stl_length (kp keep) d HV.out d.pend.length (Nat.le_refl _)
      have G2 : (wr.setCell ⟨p, 1, none⟩ (.slice none 0 0)).heap[p]? = some (.cells #[.slice (some ⟨gD, 0, none⟩) (d.dur.length / 64) (d.dur.length / 64), .slice none 0 0] 79 (0, 0)) := by
        have := heap_setCell_same wr p 1 _ _ (.slice none 0 0) G1
        simpa using this
      have G3 : (wr.setCell ⟨p, 1, none⟩ (.slice none 0 0)).heap[gD]? = some (.cells ((stl (kp keep) d.pend d.dur d.pend.length).map (Value.int .u8)).toArray 98 (0, 0)) := (Below.heap_setCell _ _ _ _ (fun e => hpg e.symm)).trans Hrow.out
      have HD : Hid (Dev (wr.setCell ⟨p, 1, none⟩ (.slice none 0 0)) base p (setD (kp keep) d)) := by
        refine ⟨gD, .slice none 0 0, hvs, hp, by rw [show (setD (kp keep) d).dur.length = d.dur.length from hl]; exact G2, ?_, World.ownsRow_nil _ _ _ _⟩
        rw [show (setD (kp keep) d).dur.length = d.dur.length from hl]
        have h64 := HV.out.1
        refine ⟨by rw [List.length_map]; show (stl _ _ _ _).length = _; rw [hl]; omega, Or.inr ⟨gD, _, _, rfl, hgD, G3, Nat.le_refl _, by unfold maxLen; omega, by simp [hl]; omega, ?_⟩⟩
        rw [List.take_of_length_le (by simp [hl]; omega)]
        rfl
      have HC : Hid (Chg base w.heap.size w (wr.setCell ⟨p, 1, none⟩ (.slice none 0 0))) := (hcw.widen (Or.inl hgD) (Or.inl hgz)).setCell (Or.inl ⟨hp, hpz⟩) _
      clear G1 G2 G3 hvs hl hcw Hrow HP Hbox Hdur y0 y1
      go_wp2
      go_end0
      exact ⟨rfl, HD.out, HC.out⟩

/-- What DiskCrash tells. -/
def crashD (d : Dsk) (keep : List Int) : Dsk := if validB d = true ∧ keep.length ≤ 600 then setD (kp keep) d else Dsk.none

set_option maxRecDepth 20000 in
set_option maxHeartbeats 400000 in
theorem crash_calls (w : World) {base p lo hi : Nat} {d : Dsk} {kv : Value} (keep : List Int) (h : Dev w base p d) (hk : View w lo hi .i64 kv keep) (hlo : hi ≤ base) :
    Calls Try.prog 59 #[.pointer (some ⟨p, 0, none⟩), kv] w fun e w' => e = .returned (.tuple #[]) ∧ Dev w' base p (setD (kp keep) d) ∧ Chg base w.heap.size w w' := by
  have hk0 := hk
  obtain ⟨ko, kcap, rfl, _, _, _⟩ := hk
  have C0 : Chg 0 0 w (w.alloc (.cells #[.slice ko keep.length kcap] 41)) := Chg.alloc (Chg.refl 0 0 w) _
  have B0 := heap_new w (.cells #[.slice ko keep.length kcap] 41)
  have s0 : (w.alloc (.cells #[.slice ko keep.length kcap] 41)).heap.size = w.heap.size + 1 := by simp
  have h0 := h.chg C0 (by omega)
  have hk1 := hk0.chg C0 (by omega)
  go_enter Try.func59, Try.ntmps59
  go_wp2_with fail
  generalize w.alloc (.cells #[.slice ko keep.length kcap] 41) = wa at *
  refine (settle_crash wa keep h0 B0 hk1 hlo).mono ?_
  rintro e w1 ⟨rfl, hd, hc⟩
  have HD : Hid (Dev w1 base p (setD (kp keep) d)) := hd
  have HC : Hid (Chg base w.heap.size w w1) := ⟨hc.os.trans C0.os, hc.tape.trans C0.tape, hc.output.trans C0.output, Nat.le_trans C0.size hc.size, fun k hk hh => (hc.block k (by omega) (by omega)).trans (C0.block k hk (by omega))⟩
  clear hd h h0 hc hk0 hk1 B0
  go_wp2
  go_end0
  exact ⟨rfl, HD.out, HC.out⟩

set_option maxRecDepth 20000 in
set_option maxHeartbeats 1000000 in
theorem implCrash_calls (w : World) {lo hi : Nat} {a : Value} {d : Dsk} {kv : Value} {klo khi : Nat} (keep : List Int) (h1 : DView w lo hi a d) (hk : View w klo khi .i64 kv keep) (hklo : khi ≤ w.heap.size) :
    Calls Try.prog 26 #[a, kv] w fun e w' => ∃ v, e = .returned v ∧ OwnD w' w.heap.size w'.heap.size 55 5 v (crashD d keep) ∧ Chg 0 0 w w' := by
  have d0 := h1
  obtain ⟨dv, pv, rfl, v1, p1⟩ := h1
  obtain ⟨ao, cap, rfl, _, _, _⟩ := v1
  obtain ⟨po, pcap, rfl, _, _, _⟩ := p1
  have hk0 := hk
  obtain ⟨ko, kcap, rfl, hkl, _, _⟩ := hk
  obtain ⟨z1, z2, z3⟩ := alloc2 w (.cells #[.slice ao d.dur.length cap, .slice po d.pend.length pcap] 29) (.cells #[.slice none 0 0, .slice none 0 0] 29)
  have hA : Chg 0 0 w ((w.alloc (.cells #[.slice ao d.dur.length cap, .slice po d.pend.length pcap] 29)).alloc (.cells #[.slice none 0 0, .slice none 0 0] 29)) := (Chg.alloc (Chg.refl 0 0 w) _).alloc _
  have dA := d0.chg hA (by omega)
  go_enter Try.func26, Try.ntmps26
  go_wp2_with fail
  generalize (w.alloc (.cells #[.slice ao d.dur.length cap, .slice po d.pend.length pcap] 29)).alloc (.cells #[.slice none 0 0, .slice none 0 0] 29) = wa at *
  cases hV : validB d with
  | false =>
    refine (openDevice_no _ dA hV).mono ?_
    rintro e wb ⟨rfl, hb⟩
    have B1 := (hb.block (w.heap.size + 1) (by omega) (by omega)).trans z3
    obtain ⟨y0, y1, yf0, yf1⟩ := two_cells B1
    have hB := hA.trans hb
    have HC : Hid (Chg 0 0 w ((wb.setCell ⟨w.heap.size + 1, 0, none⟩ (.slice none 0 0)).setCell ⟨w.heap.size + 1, 1, none⟩ (.slice none 0 0))) := hB.step (Chg.set2 _ _ _ _) (by omega)
    have HF : Hid (crashD d keep = Dsk.none) := by show _ = _; unfold crashD; rw [if_neg (by rw [hV]; simp)]
    clear hA hb z2 z3 dA B1 hB d0 hV
    go_wp2
    refine bodyPost_ret (v := .agg #[.slice none 0 0, .slice none 0 0]) (by simp [results, Try.results26, go_sem, y0, y1]) rfl ⟨_, rfl, ?_, HC.out⟩
    rw [HF.out]; exact OwnD.none _ _ _ _ _
  | true =>
    have hVal := (validB_iff d).1 hV
    refine (openDevice_yes _ dA hVal).mono ?_
    rintro e wb ⟨p, rfl, hdev, hb⟩
    have sb := hb.size
    have B1 := (hb.block (w.heap.size + 1) (by omega) (by omega)).trans z3
    have hB := hA.trans hb
    clear hA hb z2 z3 dA d0 hVal
    by_cases hkn : keep.length ≤ 600
    case neg =>
      have HF : Hid (crashD d keep = Dsk.none) := by show _ = _; unfold crashD; rw [if_neg (fun h => hkn h.2)]
      obtain ⟨y0, y1, yf0, yf1⟩ := two_cells B1
      have HC : Hid (Chg 0 0 w ((wb.setCell ⟨w.heap.size + 1, 0, none⟩ (.slice none 0 0)).setCell ⟨w.heap.size + 1, 1, none⟩ (.slice none 0 0))) := hB.step (Chg.set2 _ _ _ _) (by omega)
      clear B1 hB hV hdev hk0
      go_wp2
      refine bodyPost_ret (v := .agg #[.slice none 0 0, .slice none 0 0]) (by simp [results, Try.results26, go_sem, y0, y1]) rfl ⟨_, rfl, ?_, HC.out⟩
      rw [HF.out]; exact OwnD.none _ _ _ _ _
    have HF : Hid (crashD d keep = setD (kp keep) d) := by show _ = _; unfold crashD; rw [if_pos ⟨hV, hkn⟩]
    have hkb := hk0.chg hB (by omega)
    clear hV hk0
    go_wp2_with fail
    refine (crash_calls _ keep hdev hkb (by omega)).mono ?_
    rintro e wc ⟨rfl, hdev2, hc⟩
    have sc := hc.size
    have B1 := (hc.block (w.heap.size + 1) (by omega) (by omega)).trans B1
    have hC : Chg 0 0 w wc := hB.step hc (by omega)
    clear hc hB hdev hkb
    go_wp2_with fail
    refine (disk_empty _ hdev2 rfl).mono ?_
    rintro e wd ⟨v, rfl, od, hd⟩
    have sd := hd.size
    have B1 := (hd.block (w.heap.size + 1) (by omega) (by omega)).trans B1
    obtain ⟨y0, y1, yf0, yf1⟩ := two_cells B1
    have hD := hC.trans hd
    obtain ⟨a1, l1, c1, a1', l1', c1', rfl⟩ := od.agg
    have HC : Hid (Chg 0 0 w ((wd.setCell ⟨w.heap.size + 1, 0, none⟩ (.slice a1 l1 c1)).setCell ⟨w.heap.size + 1, 1, none⟩ (.slice a1' l1' c1'))) := hD.step (Chg.set2 _ _ _ _) (by omega)
    have HO : Hid (OwnD ((wd.setCell ⟨w.heap.size + 1, 0, none⟩ (.slice a1 l1 c1)).setCell ⟨w.heap.size + 1, 1, none⟩ (.slice a1' l1' c1')) wc.heap.size wd.heap.size 55 5 (.agg #[.slice a1 l1 c1, .slice a1' l1' c1']) (setD (kp keep) d)) := od.chg (Chg.set2 _ _ _ _) (by omega)
    have HS : Hid (((wd.setCell ⟨w.heap.size + 1, 0, none⟩ (.slice a1 l1 c1)).setCell ⟨w.heap.size + 1, 1, none⟩ (.slice a1' l1' c1')).heap.size = wd.heap.size) := by show _ = _; simp [World.setCell]
    clear hd hC hD od B1 hdev2
    go_wp2
    refine bodyPost_ret (v := .agg #[.slice a1 l1 c1, .slice a1' l1' c1']) (by simp [results, Try.results26, go_sem, y0, y1]) rfl ⟨_, rfl, ?_, HC.out⟩
    rw [HF.out, HS.out]; exact HO.out.lower (by omega)
end Go.Proofs.Ytplfehjaakkldaa
