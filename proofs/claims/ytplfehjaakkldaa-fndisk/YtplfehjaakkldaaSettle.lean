/- The device settles: settle, flush. -/
import Derived.Test.YtplfehjaakkldaaBase
namespace Go.Proofs.Ytplfehjaakkldaa
open Go.RowKit

/-- The durable bytes behind the first k pending writes, those that K keeps. -/
def stl (K : Nat → Bool) (ps : List Wr) (dur : List Int) : Nat → List Int
  | 0 => dur
  | k + 1 => if K k = true then splice (stl K ps dur k) ((ps.getD k (0, [])).1.toNat * 64) (ps.getD k (0, [])).2 else stl K ps dur k
theorem stl_length (K : Nat → Bool) (d : Dsk) (hv : Valid d) : ∀ k, k ≤ d.pend.length → (stl K d.pend d.dur k).length = d.dur.length
  | 0, _ => rfl
  | k + 1, hk => by
    have ih := stl_length K d hv k (by omega)
    unfold stl
    split
    · obtain ⟨h1, h2, h3⟩ := hv.2.2.2.2 k (by omega)
      rw [length_splice _ _ _ (by rw [ih, h3]; have := hv.1; omega), ih]
    · exact ih
theorem map_splice (f : Int → Value) (xs ys : List Int) (o : Nat) : (splice xs o ys).map f = splice (xs.map f) o (ys.map f) := by
  simp [splice, List.map_append, List.map_take, List.map_drop]
theorem stl_step (K : Nat → Bool) (ps : List Wr) (dur : List Int) (k : Nat) (h : K k = true) :
    splice ((stl K ps dur k).map (Value.int .u8)) ((ps.getD k (0, [])).1.toNat * 64) ((ps.getD k (0, [])).2.map (Value.int .u8)) = (stl K ps dur (k + 1)).map (Value.int .u8) := by
  rw [← map_splice]
  conv => rhs; unfold stl
  rw [if_pos h]
theorem stl_skip (K : Nat → Bool) (ps : List Wr) (dur : List Int) (k : Nat) (h : K k = false) : stl K ps dur (k + 1) = stl K ps dur k := by
  conv => lhs; unfold stl
  rw [if_neg (by rw [h]; simp)]

/-- What a disk is behind it. -/
def setD (K : Nat → Bool) (d : Dsk) : Dsk := ⟨stl K d.pend d.dur d.pend.length, []⟩
theorem setD_valid (K : Nat → Bool) {d : Dsk} (hv : Valid d) : Valid (setD K d) := by
  have hl := stl_length K d hv d.pend.length (Nat.le_refl _)
  obtain ⟨h1, h2, h3, _, _⟩ := hv
  refine ⟨?_, ?_, ?_, by simp [setD], by simp [setD]⟩ <;> simp only [setD] <;> rw [hl] <;> assumption

/-- What DiskFlush tells. -/
def flushD (d : Dsk) : Dsk := if validB d = true then setD (fun _ => true) d else Dsk.none

theorem OwnD.lower {w : World} {lo lo' hi : Nat} {eW eB : TypeId} {v : Value} {d : Dsk} (h : OwnD w lo hi eW eB v d) (hl : lo' ≤ lo) : OwnD w lo' hi eW eB v d := by
  obtain ⟨dv, pv, cells, dvs, h⟩ := h
  have hp : OwnPx w lo' eW eB pv d.pend cells dvs := by
    refine ⟨?_, h.pend.at0, h.pend.at1, fun i hi => (h.pend.data i hi).base (fun g hg => Nat.le_trans hl ((h.pend.data i hi).lt g hg).1), h.pend.apart⟩
    obtain ⟨h1, h2⟩ := h.pend.row
    refine ⟨h1, ?_⟩
    rcases h2 with h2 | ⟨g, cap, cur, hv, hg, r⟩
    · exact Or.inl h2
    · exact Or.inr ⟨g, cap, cur, hv, by omega, r⟩
  exact ⟨dv, pv, cells, dvs, h.agg, h.dur.base (fun g hg => Nat.le_trans hl (h.dur.lt g hg).1), hp, h.apart, h.hiD, h.hiP, h.hiX⟩

/-- A block of a device's memory that has just been made and filled. -/
theorem filled {w : World} {c : Array Value} {t : TypeId} {full : List Value} (hs : c.size = full.length) :
    ((w.alloc (.cells c t)).setCells w.heap.size 0 full).heap[w.heap.size]? = some (.cells full.toArray t (0, 0)) ∧ Chg 0 0 w ((w.alloc (.cells c t)).setCells w.heap.size 0 full) := by
  refine ⟨?_, (Chg.alloc (Chg.refl 0 0 w) _).step (Chg.setCells w.heap.size full 0 _) (Or.inr (Or.inl (Nat.le_refl _)))⟩
  have hcl : c.toList.length = full.length := hs
  have h0 := heap_new w (.cells c.toList.toArray t)
  have := heap_setCells w.heap.size t full 0 (w.alloc (.cells c.toList.toArray t)) c.toList h0 (by omega)
  have e : splice c.toList 0 full = full := by
    unfold splice
    rw [List.take_zero, List.nil_append, Nat.zero_add, List.drop_of_length_le (by omega), List.append_nil]
  rw [e] at this
  simpa using this

theorem Dev.pend_ne {w : World} {base p : Nat} {d : Dsk} (h : Dev w base p d) : ∃ gD po cap, Valid d ∧ base ≤ p ∧ base ≤ gD ∧
    w.heap[p]? = some (.cells #[.slice (some ⟨gD, 0, none⟩) (d.dur.length / 64) (d.dur.length / 64), .slice po d.pend.length cap] 79 (0, 0)) ∧
    w.heap[gD]? = some (.cells (d.dur.map (Value.int .u8)).toArray 98 (0, 0)) ∧
    (∀ k, k < d.pend.length → ∃ gP, po = some ⟨gP, 0, none⟩ ∧ gP ≠ gD ∧ gP < w.heap.size ∧ w.rangeAt gP (k * 65) (wcells (d.pend.getD k (0, [])))) := by
  obtain ⟨gD, pv, hv, hp, hb, hd, hpd⟩ := h
  have hpd' := hpd
  have hD : ∃ cur, w.heap[gD]? = some (.cells cur 98 (0, 0)) ∧ cur.toList = d.dur.map (Value.int .u8) := by
    rcases hd.2 with ⟨e, _⟩ | ⟨g, cap, cur, e, _, hh, _, _, hs, ht⟩
    · cases e
    · simp only [Value.slice.injEq, Option.some.injEq, Addr.mk.injEq, and_true] at e
      obtain ⟨rfl, _, rfl⟩ := e
      refine ⟨cur, hh, ?_⟩
      rw [List.take_of_length_le (by rw [Array.length_toList, hs]; exact Nat.le_refl _)] at ht
      exact ht
  obtain ⟨cur, hcur, hcl⟩ := hD
  have hG : w.heap[gD]? = some (.cells (d.dur.map (Value.int .u8)).toArray 98 (0, 0)) := by rw [← hcl]; simpa using hcur
  have hg : base ≤ gD := (World.ownsRow.lt hd gD rfl).1
  rcases hpd.2 with ⟨e, h0⟩ | ⟨gP, cap, cur', e, hgP, hh, _⟩
  · subst e
    refine ⟨gD, none, 0, hv, hp, hg, by rw [h0]; exact hb, hG, fun k hk => by omega⟩
  · subst e
    refine ⟨gD, _, cap, hv, hp, hg, hb, hG, fun k hk => ⟨gP, rfl, ?_, (Array.getElem?_eq_some_iff.1 hh).1, ?_⟩⟩
    · intro e
      rw [e, hcur] at hh
      simp only [Option.some.injEq, Obj.cells.injEq] at hh
      exact absurd hh.2.1 (by decide)
    · intro j v hj
      have hw : (wcells (d.pend.getD k (0, []))).length = 65 := by
        have := (hv.2.2.2.2 k hk).2.2
        simp only [wcells, List.length_cons, List.length_map, this]
      have hj65 : j < 65 := by have := (List.getElem?_eq_some_iff.1 hj).1; omega
      have hf := flat_getElem d.pend hv.2.2.2.2 k j hk hj65
      rw [World.ownsRow.cellAt hpd' (k * 65 + j) (by omega), hf]
      exact hj

--BEGIN settle
set_option maxRecDepth 20000 in
set_option maxHeartbeats 2000000 in
theorem settle_flush (w : World) {base p : Nat} {d : Dsk} (h : Dev w base p d) :
    Calls Try.prog 78 #[.pointer (some ⟨p, 0, none⟩), .func (.func 79) #[] #[]] w fun e w' => e = .returned (.tuple #[]) ∧ Dev w' base p (setD (fun _ => true) d) ∧ Chg base w.heap.size w w' := by
  obtain ⟨gD, po, cap, hv, hp, hgD, hbox, hdur, hpend⟩ := h.pend_ne
  have hpz := (Array.getElem?_eq_some_iff.1 hbox).1
  have hgz := (Array.getElem?_eq_some_iff.1 hdur).1
  have hpg : p ≠ gD := by
    intro e
    rw [e, hdur] at hbox
    simp only [Option.some.injEq, Obj.cells.injEq] at hbox
    exact absurd hbox.2.1 (by decide)
  have hm := hv.2.2.2.1
  have hn := hv.2.2.1
  obtain ⟨b0, b1, _, _⟩ := two_cells hbox
  have HP : Hid _ := hpend
  have HV : Hid (Valid d) := hv
  have Hdur : Hid _ := hdur
  have Hbox : Hid _ := hbox
  go_enter Try.func78, Try.ntmps78
  go_wp2
  go_loopw [11] (fun i wr => ∃ k : Nat, k ≤ d.pend.length ∧ i = .int .i64 k ∧ Chg gD (gD + 1) w wr ∧ wr.heap[gD]? = some (.cells ((stl (fun _ => true) d.pend d.dur k).map (Value.int .u8)).toArray 98 (0, 0))) (fun i _ => d.pend.length - (intOf i).toNat)
  case atStart => exact ⟨0, Nat.zero_le _, rfl, Chg.refl _ _ _, Hdur.out⟩
  case round =>
    obtain ⟨k, hk, rfl, hcw, hrow⟩ := hrel
    have sz := hcw.size
    have y0 := hcw.cell b0 (by omega)
    have y1 := hcw.cell b1 (by omega)
    have Hrow : Hid _ := hrow
    clear hrow
    by_cases hlt : k < d.pend.length
    · obtain ⟨gP, rfl, hne, hgPz, hrg⟩ := HP.out k hlt
      obtain ⟨hq0, hq1, hx64⟩ := HV.out.2.2.2.2 k hlt
      have hstep := stl_step (fun _ => true) d.pend d.dur k rfl
      have hlenk := stl_length (fun _ => true) d HV.out k hk
      generalize d.pend.getD k (0, []) = pr at *
      obtain ⟨q, xs⟩ := pr
      simp only at hq0 hq1 hx64 hstep
      obtain ⟨qn, rfl⟩ := Int.eq_ofNat_of_zero_le hq0
      rw [Int.toNat_natCast] at hstep
      obtain ⟨cs, hcs⟩ : ∃ cs, cs = xs.map (Value.int .u8) := ⟨_, rfl⟩
      rw [← hcs] at hstep
      obtain ⟨full, hfull⟩ : ∃ full, full = wcells ((qn : Int), xs) := ⟨_, rfl⟩
      rw [← hfull] at hrg
      have hf2 : full = Value.int .i64 (qn : Int) :: cs := by rw [hfull, hcs]; rfl
      have L1 : cs.length = 64 := by rw [hcs]; simpa using hx64
      have L2 : ∀ v ∈ cs, v.oneCell' = true := by rw [hcs]; exact ints_oneCell _ _
      have L3 : full.length = 65 := by rw [hf2, List.length_cons, L1]
      have L4 : ∀ v ∈ full, v.oneCell' = true := by
        intro v hv
        rw [hf2] at hv
        rcases List.mem_cons.1 hv with rfl | hv
        · rfl
        · exact L2 v hv
      have R0 : wr.rangeAt gP (k * 65) full := fun j v hj => hcw.cell (hrg j v hj) (by omega)
      have HR0 : Hid _ := R0
      have HL1 : Hid _ := L1
      have HL2 : Hid _ := L2
      have HL3 : Hid _ := L3
      have HL4 : Hid _ := L4
      have Hf2 : Hid _ := hf2
      have Hstep : Hid _ := hstep
      have Hlk : Hid _ := hlenk
      have Hsz : Hid (full.toArray.size = 65) := by show _ = _; simpa using L3
      have u87 := Try.underlying108
      have i87 : Hid ((Try.prog.info? 108).map (·.size) = some full.toArray.size) := by show _ = _; rw [Hsz.out]; kernel_rfl
      have i87l : Hid ((Try.prog.info? 108).map (·.size) = some full.length) := by show _ = _; rw [L3]; kernel_rfl
      have hmod := HV.out.1
      clear hrg hcs hfull hf2 L1 L2 L3 L4 R0 hstep hlenk hx64
      have hik : (k : Int) < (d.pend.length : Int) := by omega
      go_wp2_with (first
        | (refine wpList_load_mid rfl 108 (.tmp 14) rfl gP (k * 65) rfl full _ HR0.out u87 rfl i87l.out ?_)
        | (refine wpList_store_mid rfl 108 (.tmp 5) (.tmp 15) rfl wr.heap.size 0 full.toArray rfl rfl (by rw [Hsz.out]; exact there_new wr _ _ 65 rfl) i87.out (all_oneCell_toArray HL4.out) ?_)
        | go_in)
      obtain ⟨F1, F2⟩ := filled (w := wr) (c := Try.zeroCells108) (t := 108) (full := full) (by rw [HL3.out]; rfl)
      generalize (wr.alloc (.cells Try.zeroCells108 108)).setCells wr.heap.size 0 full = W7 at *
      have m0 : W7.cell? ⟨wr.heap.size, 0, none⟩ = some (.int .i64 (qn : Int)) := by
        rw [cell_of_row W7 wr.heap.size 0 _ _ _ F1, Hf2.out]; simp
      have R7 : W7.rangeAt wr.heap.size 1 cs := by
        intro j v hj
        rw [cell_of_row W7 wr.heap.size (1 + j) _ _ _ F1, Hf2.out, Nat.add_comm]
        simpa using hj
      have hrow7 := (F2.block gD (by omega) (by omega)).trans Hrow.out
      have T7 : W7.there gD (qn * 64) 64 := by
        intro j hj
        constructor
        · rw [World.cell?, hrow7]; simp; rw [Hlk.out]; omega
        · rw [World.frozen?, hrow7]; simp
      have y7 := F2.cell y0 (by omega)
      have C7 := hcw.step F2 (by omega)
      have Hrow7 : Hid _ := hrow7
      have hng : wr.heap.size ≠ gD := by omega
      have hq2 : (qn : Int) < (d.dur.length : Int) / 64 := by omega
      have hq3 : qn < d.dur.length / 64 := by omega
      have u85 := Try.underlying98
      have L1 := HL1.out
      have L2 := HL2.out
      have i85 : (Try.prog.info? 98).map (·.size) = some cs.length := by rw [L1]; kernel_rfl
      have hst : (storeCells ⟨gD, qn * 64, none⟩ cs).run Try.prog W7.drew = .ok () (W7.drew.setCells gD (qn * 64) cs) := by
        have := run_storeCells_cells (P := Try.prog) gD (qn * 64) cs 0 W7.drew (fun j hj => by simpa using (T7 j (by omega)).1) (fun j hj => by simpa using (T7 j (by omega)).2) L2
        simpa using this
      clear F1 F2 hrow7 Hrow HR0 y0 y1 hcw u87 i87 i87l
      go_region_held3 (fun w' => w'.cell? ⟨p, 0, none⟩ = some (.slice (some ⟨gD, 0, none⟩) (d.dur.length / 64) (d.dur.length / 64)) ∧ w'.cell? ⟨wr.heap.size, 0, none⟩ = some (.int .i64 (qn : Int)) ∧ w'.rangeAt wr.heap.size 1 cs ∧ w'.there gD (qn * 64) 64)
        (first | exact ⟨y7, m0, R7, T7⟩ | exact ⟨(Chg.setCells gD _ _ W7.drew).cell y7 (by omega), (Chg.setCells gD _ _ W7.drew).cell m0 (by omega), World.rangeAt_setCells_apart (w := W7.drew) R7 _ _ _ (Or.inl hng), World.there_setCells (w := W7.drew) T7 _ _ _⟩) (fail)
      have R1 : Hid (Chg gD (gD + 1) w (W7.drew.setCells gD (qn * 64) cs)) := C7.drew.trans (Chg.setCells gD _ _ _)
      have R2 : Hid ((W7.drew.setCells gD (qn * 64) cs).heap[gD]? = some (.cells ((stl (fun _ => true) d.pend d.dur (k + 1)).map (Value.int .u8)).toArray 98 (0, 0))) := by
        have := heap_setCells gD 98 cs (qn * 64) W7.drew _ Hrow7.out (by rw [List.length_map, Hlk.out, L1]; omega)
        rw [Hstep.out] at this
        exact this
      go_wp2
      go_roundw
      case rel => exact ⟨k + 1, by omega, by go_num, R1.out, R2.out⟩
      case measure => simp [intOf]; omega
    · obtain rfl : k = d.pend.length := by omega
      have G1 := (hcw.block p hpz (by omega)).trans Hbox.out
      obtain ⟨z0, z1, zf0, zf1⟩ := two_cells G1
      have hvs := setD_valid (fun _ => true) HV.out
      have hl := stl_length (fun _ => true) d HV.out d.pend.length (Nat.le_refl _)
      have G2 : (wr.setCell ⟨p, 1, none⟩ (.slice none 0 0)).heap[p]? = some (.cells #[.slice (some ⟨gD, 0, none⟩) (d.dur.length / 64) (d.dur.length / 64), .slice none 0 0] 79 (0, 0)) := by
        have := heap_setCell_same wr p 1 _ _ (.slice none 0 0) G1
        simpa using this
      have G3 : (wr.setCell ⟨p, 1, none⟩ (.slice none 0 0)).heap[gD]? = some (.cells ((stl (fun _ => true) d.pend d.dur d.pend.length).map (Value.int .u8)).toArray 98 (0, 0)) := (Below.heap_setCell _ _ _ _ (fun e => hpg e.symm)).trans Hrow.out
      have HD : Hid (Dev (wr.setCell ⟨p, 1, none⟩ (.slice none 0 0)) base p (setD (fun _ => true) d)) := by
        refine ⟨gD, .slice none 0 0, hvs, hp, by rw [show (setD (fun _ => true) d).dur.length = d.dur.length from hl]; exact G2, ?_, World.ownsRow_nil _ _ _ _⟩
        rw [show (setD (fun _ => true) d).dur.length = d.dur.length from hl]
        have h64 := HV.out.1
        refine ⟨by rw [List.length_map]; show (stl _ _ _ _).length = _; rw [hl]; omega, Or.inr ⟨gD, _, _, rfl, hgD, G3, Nat.le_refl _, by unfold maxLen; omega, by simp [hl]; omega, ?_⟩⟩
        rw [List.take_of_length_le (by simp [hl]; omega)]
        rfl
      have HC : Hid (Chg base w.heap.size w (wr.setCell ⟨p, 1, none⟩ (.slice none 0 0))) := (hcw.widen (Or.inl hgD) (Or.inl hgz)).setCell (Or.inl ⟨hp, hpz⟩) _
      go_wp2
      go_end0
      exact ⟨rfl, HD.out, HC.out⟩
--END settle

set_option maxRecDepth 20000 in
set_option maxHeartbeats 400000 in
theorem flush_calls (w : World) {base p : Nat} {d : Dsk} (h : Dev w base p d) :
    Calls Try.prog 57 #[.pointer (some ⟨p, 0, none⟩)] w fun e w' => e = .returned (.tuple #[]) ∧ Dev w' base p (setD (fun _ => true) d) ∧ Chg base w.heap.size w w' := by
  go_enter Try.func57, Try.ntmps57
  go_wp2_with fail
  refine (settle_flush w h).mono ?_
  rintro e w1 ⟨rfl, hd, hc⟩
  have HD : Hid _ := hd
  go_wp2
  go_end0
  exact ⟨rfl, HD.out, hc⟩
end Go.Proofs.Ytplfehjaakkldaa
