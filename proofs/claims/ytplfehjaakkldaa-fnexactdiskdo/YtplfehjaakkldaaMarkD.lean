/- The law's helpers that mark disks: markWriteS, markDisk. -/
import Derived.Test.YtplfehjaakkldaaMarkB
namespace Go.Proofs.Ytplfehjaakkldaa
open Go.RowKit

set_option maxRecDepth 20000 in
set_option maxHeartbeats 1000000 in
theorem markWriteS_some (w : World) (base : Nat) (eW eB : TypeId) (hE : eW ≠ eB) (ps : List Wr) (k0 g cap lo hi : Nat) (hl : ps.length ≤ 140737488355328) (hk0 : k0 + cnt ps ≤ 140737488355328)
    (cells : List Value) (dvs : Nat → Value) (h1 : OwnPx w base eW eB (.slice (some ⟨g, 0, none⟩) ps.length cap) ps cells dvs) (hg : lo ≤ g ∧ g < hi)
    (hb : ∀ i g', i < ps.length → (dvs i).ownBlock = some g' → lo ≤ g' ∧ g' < hi) :
    Calls Try.prog 54 #[.slice (some ⟨g, 0, none⟩) ps.length cap, .int .i64 k0] w fun r w' => r = .returned (.int .i64 ((k0 + cnt ps : Nat) : Int)) ∧
      (∃ cells', OwnPx w' base eW eB (.slice (some ⟨g, 0, none⟩) ps.length cap) (mkTo k0 ps ps.length) cells' dvs) ∧ Chg lo hi w w' ∧ (∀ m, m ≠ g → (∀ i, i < ps.length → (dvs i).ownBlock ≠ some m) → m < w.heap.size → w'.heap[m]? = w.heap[m]?) := by
  go_enter Try.func54, Try.ntmps54
  go_wp2
  go_loopw [1, 5] (fun q i wr => ∃ k : Nat, k ≤ ps.length ∧ i = .int .i64 k ∧ q = .int .i64 ((k0 + cnt (ps.take k) : Nat) : Int) ∧
      (∃ cells', OwnPx wr base eW eB (.slice (some ⟨g, 0, none⟩) ps.length cap) (mkTo k0 ps k) cells' dvs) ∧ Chg lo hi w wr ∧ (∀ m, m ≠ g → (∀ i, i < ps.length → (dvs i).ownBlock ≠ some m) → m < w.heap.size → wr.heap[m]? = w.heap[m]?)) (fun _ i _ => ps.length - (intOf i).toNat)
  case atStart => exact ⟨0, Nat.zero_le _, rfl, rfl, ⟨cells, by rw [mkTo_zero]; exact h1⟩, Chg.refl _ _ _, fun _ _ _ _ => rfl⟩
  case round =>
    obtain ⟨k, hk, rfl, rfl, ⟨cells', hown⟩, hch, hrest⟩ := hrel
    clear h1
    by_cases hlt : k < ps.length
    · have hrow := hown.row
      rw [mkTo_length] at hrow
      have hlen : cells'.length = ps.length * 2 := hrow.1
      have c0 : wr.cell? ⟨g, k * 2, none⟩ = some (.int .i64 ((mkTo k0 ps k).getD k (0, [])).1) := by
        rw [World.ownsRow.cellAt hrow (k * 2) (by omega)]; exact hown.at0 k (by rw [mkTo_length]; exact hlt)
      have c1 : wr.cell? ⟨g, k * 2 + 1, none⟩ = some (dvs k) := by
        rw [World.ownsRow.cellAt hrow (k * 2 + 1) (by omega)]; exact hown.at1 k (by rw [mkTo_length]; exact hlt)
      have f0 : wr.frozen? ⟨g, k * 2, none⟩ = false := World.ownsRow.frozenAt hrow (k * 2)
      have hik : (k : Int) < (ps.length : Int) := by omega
      have hcs := cnt_take_succ ps k hlt
      have hcl := cnt_take_le ps (k + 1)
      have hd := hown.data_set hE (k * 2) (.int .i64 ((k0 : Int) + (cnt (ps.take k) : Int))) (i := k) (by rw [mkTo_length]; exact hlt)
      have hold : (mkTo k0 ps k).getD k (0, []) = ps.getD k (0, []) := by rw [mkTo_getD _ _ _ _ hlt, if_neg (Nat.lt_irrefl _)]
      rw [hold] at c0 hd
      have HW : Hid (mkW k0 ps k = (((k0 + cnt (ps.take k) : Nat) : Int), marks (k0 + cnt (ps.take k) + 1) (ps.getD k (0, [])).2.length)) := rfl
      clear hold hrow
      generalize hc : cnt (ps.take k) = c at *
      generalize ps.getD k (0, []) = old at *
      have Hc : Hid (cnt (ps.take k) = c) := hc
      clear hc
      have hbd : k0 + c + 1 + old.2.length ≤ 140737488355328 := by omega
      have Hcs : Hid (cnt (ps.take (k + 1)) = c + (old.2.length + 1)) := hcs
      clear hcs hcl
      go_wp2_with fail
      rw [show (k0 : Int) + (c : Int) + 1 = ((k0 + c + 1 : Nat) : Int) from by omega]
      refine (markByteS_calls _ base eB (dvs k) old.2 (k0 + c + 1) lo hi (by omega) (by omega) hd (hb k · hlt)).mono ?_
      rintro e w2 ⟨rfl, ho, hc1, hc2, hc3⟩
      have hset : (k0 : Int) + (c : Int) = ((k0 + c : Nat) : Int) := by omega
      rw [hset] at hc1 hc2 hc3
      have R1 := hown.step (mkTo_length _ _ _) hlt hE ((k0 + c : Nat) : Int) _ ho hc2 hc3
      rw [← HW.out, mkTo_succ] at R1
      have R2 : Chg lo hi w w2 := (hch.setCell (p := ⟨g, k * 2, none⟩) (Or.inl hg) _).trans hc1
      have R3 : ∀ m, m ≠ g → (∀ i, i < ps.length → (dvs i).ownBlock ≠ some m) → m < w.heap.size → w2.heap[m]? = w.heap[m]? := by
        intro m hm hm2 hm3
        rw [← hrest m hm hm2 hm3, ← Below.heap_setCell wr ⟨g, k * 2, none⟩ (.int .i64 ((k0 + c : Nat) : Int)) m hm]
        cases hb : (dvs k).ownBlock with
        | none => rw [hc3 hb]
        | some g' =>
          refine (hc2 g' hb).block m (Nat.lt_of_lt_of_le hm3 (by have := hch.size; simpa [World.setCell] using this)) ?_
          have : m ≠ g' := fun e => hm2 k hlt (by rw [e]; exact hb)
          omega
      have HR : Hid (∃ cells'', OwnPx w2 base eW eB (.slice (some ⟨g, 0, none⟩) ps.length cap) (mkTo k0 ps (k + 1)) cells'' dvs) := ⟨_, R1⟩
      have HR3 : Hid (∀ m, m ≠ g → (∀ i, i < ps.length → (dvs i).ownBlock ≠ some m) → m < w.heap.size → w2.heap[m]? = w.heap[m]?) := R3
      clear R1 R3 hc1 hc2 hc3 ho hown hrest hch c0 c1 f0 hd hset HW
      go_wp2
      go_roundw
      case rel => exact ⟨k + 1, by omega, by go_num, by rw [Hcs.out]; go_num, HR.out, R2, HR3.out⟩
      case measure => simp [intOf]; omega
    · obtain rfl : k = ps.length := by omega
      have H1 : Hid (∃ cells'', OwnPx wr base eW eB (.slice (some ⟨g, 0, none⟩) ps.length cap) (mkTo k0 ps ps.length) cells'' dvs) := ⟨_, hown⟩
      have H2 : Hid (∀ m, m ≠ g → (∀ i, i < ps.length → (dvs i).ownBlock ≠ some m) → m < w.heap.size → wr.heap[m]? = w.heap[m]?) := hrest
      rw [List.take_length]
      clear hown hrest
      go_wp2
      go_ret
      exact ⟨rfl, H1.out, hch, H2.out⟩

set_option maxRecDepth 20000 in
set_option maxHeartbeats 400000 in
theorem markWriteS_none (w : World) (ao : Option Addr) (k0 cap : Nat) :
    Calls Try.prog 54 #[.slice ao 0 cap, .int .i64 k0] w fun r w' => r = .returned (.int .i64 (k0 : Int)) ∧ w' = w := by
  go_enter Try.func54, Try.ntmps54
  go_wp2
  refine wp_loop_rounds 1 ?_; rw [rounds_succ]
  go_wp2
  go_ret
  exact ⟨rfl, rfl⟩

/-- Behind markWriteS the writes bear the marks; nothing else has turned. -/
theorem markWriteS_calls (w : World) (base : Nat) (eW eB : TypeId) (hE : eW ≠ eB) (v : Value) (ps : List Wr) (k0 lo hi : Nat) (hl : ps.length ≤ 140737488355328) (hk0 : k0 + cnt ps ≤ 140737488355328)
    (cells : List Value) (dvs : Nat → Value) (h1 : OwnPx w base eW eB v ps cells dvs) (hg : ∀ g, v.ownBlock = some g → lo ≤ g ∧ g < hi)
    (hb : ∀ i g', i < ps.length → (dvs i).ownBlock = some g' → lo ≤ g' ∧ g' < hi) :
    Calls Try.prog 54 #[v, .int .i64 k0] w fun r w' => r = .returned (.int .i64 ((k0 + cnt ps : Nat) : Int)) ∧
      (∃ cells', OwnPx w' base eW eB v (mkTo k0 ps ps.length) cells' dvs) ∧ Chg lo hi w w' ∧ (∀ m, v.ownBlock ≠ some m → (∀ i, i < ps.length → (dvs i).ownBlock ≠ some m) → m < w.heap.size → w'.heap[m]? = w.heap[m]?) := by
  rcases h1.row.2 with ⟨rfl, hn⟩ | ⟨g, cap, cur, rfl, _⟩
  · obtain rfl : ps = [] := List.eq_nil_of_length_eq_zero hn
    refine (markWriteS_none w none k0 0).mono ?_
    rintro r w' ⟨rfl, rfl⟩
    exact ⟨rfl, ⟨cells, by simpa [mkTo] using h1⟩, Chg.refl _ _ _, fun _ _ _ _ => rfl⟩
  · refine (markWriteS_some w base eW eB hE ps k0 g cap lo hi hl hk0 cells dvs h1 (hg g rfl) hb).mono ?_
    rintro r w' ⟨rfl, ho, hc, hr⟩
    exact ⟨rfl, ho, hc, fun m hm => hr m (fun e => hm (by rw [e]; rfl))⟩

set_option maxRecDepth 20000 in
set_option maxHeartbeats 1000000 in
theorem markDisk_calls (w : World) (eW eB : TypeId) (hE : eW ≠ eB) {v : Value} {d : Dsk} (k0 lo hi : Nat) (hf : d.Fits) (hk0 : k0 + cntD d ≤ 140737488355328) (hhi : hi ≤ w.heap.size)
    (h1 : OwnD w lo hi eW eB v d) :
    Calls Try.prog 16 #[v, .int .i64 k0] w fun r w' => r = .returned (.int .i64 ((k0 + cntD d : Nat) : Int)) ∧ OwnD w' lo hi eW eB v (mkD k0 d) ∧ Chg lo hi w w' := by
  obtain ⟨dv, pv, cells, dvs, h⟩ := h1
  obtain ⟨rfl, hdur, hpend, hap, hiD, hiP, hiX⟩ := h
  unfold cntD at hk0
  go_enter Try.func16, Try.ntmps16
  go_wp2_with fail
  refine (markByteS_calls _ lo eB dv d.dur k0 lo hi hf.dur (by omega) (hdur.chg (Chg.alloc (Chg.refl 0 0 w) _) (by intro g hg; omega)) (fun g hg => ⟨(hdur.lt g hg).1, hiD g hg⟩)).mono ?_
  rintro e w1 ⟨rfl, ho1, hc1, hcx, hcn⟩
  have cc : ∀ o x, (w.alloc (.cells #[dv, pv] 29)).cell? ⟨w.heap.size, o, none⟩ = some x → w1.cell? ⟨w.heap.size, o, none⟩ = some x := fun o x hx => hc1.cell hx (by omega)
  have cb : w1.cell? ⟨w.heap.size, 1, none⟩ = some pv := cc 1 pv (by simp)
  have hp1 : OwnPx w1 lo eW eB pv d.pend cells dvs := by
    have hp0 := hpend.chg (Chg.alloc (Chg.refl 0 0 w) (.cells #[dv, pv] 29)) (by intro g hg; omega) (by intro i g hi hg; omega)
    cases hb : dv.ownBlock with
    | none => rw [hcn hb]; exact hp0
    | some g =>
      refine hp0.chg (hcx g hb) ?_ ?_
      · intro g' hg'
        have : g' ≠ g := by
          intro e
          subst e
          obtain ⟨cur', hcur'⟩ := hdur.elem hb
          rcases hpend.row.2 with ⟨h', _⟩ | ⟨g'', cap', cur, h', hb', hg, _⟩
          · rw [h'] at hg'; cases hg'
          · rw [h'] at hg'; cases hg'
            rw [hg] at hcur'
            simp only [Option.some.injEq, Obj.cells.injEq] at hcur'
            exact hE hcur'.2.1
        omega
      · intro i g' hi' hg'
        have : g' ≠ g := fun e => hap i g hi' hb (by rw [← e]; exact hg')
        omega
  have hch1 : Chg lo hi w w1 := (Chg.alloc (Chg.refl lo hi w) _).trans hc1
  clear cc hcx hcn hc1 hpend hdur
  go_wp2_with fail
  refine (markWriteS_calls _ lo eW eB hE pv d.pend (k0 + d.dur.length) lo hi hf.pend (by omega) cells dvs hp1 (fun g hg => ⟨(World.ownsRow.lt hp1.row g hg).1, hiP g hg⟩) (fun i g hi' hg => ⟨((hp1.data i hi').lt g hg).1, hiX i g hi' hg⟩)).mono ?_
  rintro e w2 ⟨rfl, ⟨cells', hp2⟩, hc2, hr⟩
  have hd2 : OwnB w2 lo eB dv (marks k0 d.dur.length) := by
    obtain ⟨h1, h2⟩ := ho1
    refine ⟨h1, ?_⟩
    rcases h2 with h2 | ⟨g, cap, cur, hv, hg, hh, r⟩
    · exact Or.inl h2
    · refine Or.inr ⟨g, cap, cur, hv, hg, ?_, r⟩
      have hdb : dv.ownBlock = some g := by rw [hv]; rfl
      rw [hr g ?_ ?_ (Array.getElem?_eq_some_iff.1 hh).1]
      · exact hh
      · intro e
        rcases hp1.row.2 with ⟨h', _⟩ | ⟨g'', cap', cur', h', hb', hg', _⟩
        · rw [h'] at e; cases e
        · rw [h'] at e; cases e
          rw [hh] at hg'
          simp only [Option.some.injEq, Obj.cells.injEq] at hg'
          exact hE hg'.2.1.symm
      · exact fun i hi' => hap i g hi' hdb
  have hch2 := hch1.trans hc2
  have H1 : Hid (OwnD w2 lo hi eW eB (.agg #[dv, pv]) (mkD k0 d)) :=
    ⟨dv, pv, cells', dvs, rfl, hd2, hp2, by simpa [mkD, mkTo_length] using hap, hiD, hiP, by simpa [mkD, mkTo_length] using hiX⟩
  clear hr hp1 hp2 hd2 ho1 hc2 hch1 cb hap hiX hiP hiD
  go_wp2
  go_ret
  exact ⟨ret_int (by unfold cntD; omega), H1.out, hch2⟩

end Go.Proofs.Ytplfehjaakkldaa
