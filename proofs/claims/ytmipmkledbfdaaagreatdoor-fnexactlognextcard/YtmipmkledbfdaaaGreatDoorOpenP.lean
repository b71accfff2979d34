/- Several short texts in one: LogTaken, LogNext, OpenLog, OpenP. -/
import Derived.Test.YtmipmkledbfdaaaGreatDoorLogTakes
import Derived.Test.YtmipmkledbfdaaaGreatDoorByt
import Derived.Test.YtmipmkledbfdaaaGreatDoorRows
import Derived.Test.YtmipmkledbfdaaaGreatDoorMem
import Derived.ProofKit
import Derived.OpenShut
import Derived.Carry
import Derived.ChangeOld
import Derived.Below
import Derived.Lib.SmallJoins
import Derived.Deep.SlicePairs
namespace Go.Proofs.YtmipmkledbfdaaaGreatDoor
open Go.RowKit

theorem TL_pos {t : Tx} (h : validT t = true) : 1 ≤ (TL t).length := by unfold TL; rw [if_pos h, List.length_append]; simp
theorem TL_none {t : Tx} (h : ¬ validT t = true) : TL t = [] := by unfold TL; rw [if_neg h]

set_option maxRecDepth 20000 in
set_option maxHeartbeats 4000000 in
theorem taken_calls (w : World) {lo hi : Nat} {a : Value} {t : Tx} (sz st sq hd us : Int) (hl : cntT t ≤ 1048576) (hhi : hi ≤ w.heap.size) (hby : ∀ x ∈ t.homes, Byt x.2) (hM : Mag w) (h1 : TView w lo hi a t) :
    Calls Tryz.prog 18 #[logV sz st sq hd us, a] w fun e w' => e = .returned (.int .i64 (if takesB sz st sq hd us t = true then ((TL t).length : Int) else 0)) ∧ Chg 0 0 w w' := by
  have hT := h1
  obtain ⟨hv, rv, rfl, p1, v1⟩ := h1
  obtain ⟨po, pcap, rfl⟩ := p1.slice
  obtain ⟨ao, cap, rfl⟩ := v1.slice
  have hMl := hM.lt
  obtain ⟨rz, Hrz⟩ : ∃ rz : Int, Hid (rz = if takesB sz st sq hd us t = true then ((TL t).length : Int) else 0) := ⟨_, rfl⟩
  rw [← Hrz.out]
  have HT : Hid (∀ W, Chg 0 0 w W → TView W lo hi (.agg #[.int .i64 t.seq, .slice po t.homes.length pcap, .slice ao t.revs.length cap]) t) := fun W hW => hT.chg hW (by omega)
  have hA : Chg 0 0 w ((w.alloc (logO 29 sz st sq hd us)).alloc (.cells #[.int .i64 t.seq, .slice po t.homes.length pcap, .slice ao t.revs.length cap] 34)) := (Chg.alloc (Chg.refl 0 0 w) _).alloc _
  obtain ⟨z, b0, b1⟩ := alloc2 w (logO 29 sz st sq hd us) (.cells #[.int .i64 t.seq, .slice po t.homes.length pcap, .slice ao t.revs.length cap] 34)
  clear hT p1 v1
  have hN : ∀ (W : World), Chg 0 0 w W → validLog sz st sq hd us = true → t.seq = sq → sq < 4294967295 → Calls Tryz.prog 28 #[.agg #[.int .i64 t.seq, .slice po t.homes.length pcap, .slice ao t.revs.length cap], .int .i64 (sz - us)] W fun e w' => e = .returned (.int .i64 rz) ∧ Chg 0 0 W w' := by
    intro W hW hvl hsq hlt
    have hIn := InLog_of hvl
    unfold InLog at hIn
    have Ht : (if ((TL t).length : Int) ≤ sz - us then ((TL t).length : Int) else 0) = rz := by
      rw [Hrz.out]
      unfold takesB
      by_cases hvt : validT t = true
      · rw [hvl, hvt, decide_eq_true hsq.symm, decide_eq_true hlt]
        simp
      · rw [TL_none hvt]
        simp
    rw [← Ht]
    exact lengthWithin_calls W (sz - us) (by omega) hl (by have := hW.size; omega) hby (hM.chg hW (by omega)) (HT.out W hW)
  clear HT hM
  go_enter Tryz.func18, Tryz.ntmps18
  go_wp2_with fail
  generalize (w.alloc (logO 29 sz st sq hd us)).alloc (.cells #[.int .i64 t.seq, .slice po t.homes.length pcap, .slice ao t.revs.length cap] 34) = w0 at *
  refine (implValidLog_calls _ sz st sq hd us).mono ?_
  rintro e w1 ⟨rfl, h1⟩
  have B0 := (h1.block _ (by omega) (by omega)).trans b0
  have B1 := (h1.block _ (by omega) (by omega)).trans b1
  have HA : Hid (Chg 0 0 w w1) := hA.trans h1
  obtain ⟨x0, x1, x2, x3, x4⟩ := five_cells B0
  obtain ⟨⟨k0, k1, k2⟩, _⟩ := tri B1
  clear h1 b0 b1 B0 B1 hA
  by_cases hvl : validLog sz st sq hd us = true
  case neg =>
    rw [Bool.not_eq_true] at hvl
    have Ht : Hid (rz = 0) := by show _ = _; rw [Hrz.out]; unfold takesB; rw [hvl]; rfl
    rw [hvl]
    clear hvl hN
    go_wp2
    go_ret
    exact ⟨by rw [Ht.out]; rfl, HA.out⟩
  have hIn := InLog_of hvl
  by_cases hsq : t.seq = sq
  case neg =>
    have Ht : Hid (rz = 0) := by show _ = _; rw [Hrz.out]; unfold takesB; rw [decide_eq_false (fun e => hsq e.symm)]; simp
    rw [hvl]
    clear hvl hN
    go_wp2
    go_ret
    exact ⟨by rw [Ht.out]; rfl, HA.out⟩
  by_cases hlt : sq < 4294967295
  case neg =>
    have Ht : Hid (rz = 0) := by show _ = _; rw [Hrz.out]; unfold takesB; rw [decide_eq_false hlt]; simp
    rw [hvl]
    clear hvl hN
    go_wp2
    go_ret
    exact ⟨by rw [Ht.out]; rfl, HA.out⟩
  unfold InLog at hIn
  have hN := fun W h => hN W h hvl hsq hlt
  have hwr : IntKind.i64.wrap (sz - us) = sz - us := by rw [IntKind.wrap_i64]; omega
  rw [hvl]
  have hvs : (t.seq != sq) = false := by rw [hsq]; simp
  clear hvl hsq
  go_wp2_with fail
  refine (hN _ HA.out).mono ?_
  rintro e w3 ⟨rfl, h3⟩
  have HA3 : Hid (Chg 0 0 w w3) := HA.out.trans h3
  clear h3 hN
  go_wp2
  go_ret
  exact ⟨rfl, HA3.out⟩

end Go.Proofs.YtmipmkledbfdaaaGreatDoor

namespace Go.Proofs.YtmipmkledbfdaaaGreatDoor
open Go.RowKit

/-- LogNext. -/
def nextV (sz st sq hd us : Int) (t : Tx) : Value := if takesB sz st sq hd us t = true then logV sz (if st = 0 then hd else st) (sq + 1) (placeI sz hd ((TL t).length : Int)) (us + ((TL t).length : Int)) else logV 0 0 0 0 0

theorem takesB_spec {sz st sq hd us : Int} {t : Tx} (h : takesB sz st sq hd us t = true) : InLog sz st sq hd us ∧ validT t = true ∧ sq = t.seq ∧ sq < 4294967295 ∧ ((TL t).length : Int) ≤ sz - us := by
  unfold takesB at h
  simp only [Bool.and_eq_true, decide_eq_true_eq] at h
  exact ⟨InLog_of h.1, h.2⟩

theorem nextV_log (sz st sq hd us : Int) (t : Tx) : ∃ a b c d e, nextV sz st sq hd us t = logV a b c d e := by
  unfold nextV
  split
  · exact ⟨_, _, _, _, _, rfl⟩
  · exact ⟨_, _, _, _, _, rfl⟩

set_option maxRecDepth 20000 in
set_option maxHeartbeats 4000000 in
theorem specLogNext_calls (w : World) {lo hi : Nat} {a : Value} {t : Tx} (sz st sq hd us : Int) (hl : cntT t ≤ 1048576) (hhi : hi ≤ w.heap.size) (hby : ∀ x ∈ t.homes, Byt x.2) (h1 : TView w lo hi a t) :
    Calls Tryz.prog 5 #[logV sz st sq hd us, a] w fun e w' => e = .returned (nextV sz st sq hd us t) ∧ Chg 0 0 w w' := by
  have hT := h1
  obtain ⟨hv, rv, rfl, p1, v1⟩ := h1
  obtain ⟨po, pcap, rfl⟩ := p1.slice
  obtain ⟨ao, cap, rfl⟩ := v1.slice
  have HT : Hid (∀ W, Chg 0 0 w W → TView W lo hi (.agg #[.int .i64 t.seq, .slice po t.homes.length pcap, .slice ao t.revs.length cap]) t) := fun W hW => hT.chg hW (by omega)
  have hA : Chg 0 0 w (((w.alloc (logO 29 sz st sq hd us)).alloc (.cells #[.int .i64 t.seq, .slice po t.homes.length pcap, .slice ao t.revs.length cap] 34)).alloc (logO 29 0 0 0 0 0)) := ((Chg.alloc (Chg.refl 0 0 w) _).alloc _).alloc _
  obtain ⟨z, b0, b1, b2⟩ := alloc3 w (logO 29 sz st sq hd us) (.cells #[.int .i64 t.seq, .slice po t.homes.length pcap, .slice ao t.revs.length cap] 34) (logO 29 0 0 0 0 0)
  clear hT p1 v1
  obtain ⟨tn, Htn⟩ : ∃ tn : Int, Hid (tn = ((TL t).length : Int)) := ⟨_, rfl⟩
  have hN : ∀ W, Chg 0 0 w W → Calls Tryz.prog 14 #[.agg #[.int .i64 t.seq, .slice po t.homes.length pcap, .slice ao t.revs.length cap]] W fun e w' => e = .returned (.int .i64 tn) ∧ Chg 0 0 W w' := fun W hW => by rw [Htn.out]; exact specTxnLength_calls W hl (by have := hW.size; omega) hby (HT.out W hW)
  have hN2 : ∀ W, Chg 0 0 w W → Calls Tryz.prog 13 #[logV sz st sq hd us, .agg #[.int .i64 t.seq, .slice po t.homes.length pcap, .slice ao t.revs.length cap]] W fun e w' => e = .returned (.bool (takesB sz st sq hd us t)) ∧ Chg 0 0 W w' := fun W hW => l4Takes_calls W sz st sq hd us hl (by have := hW.size; omega) hby (HT.out W hW)
  clear HT
  go_enter Tryz.func5, Tryz.ntmps5
  go_wp2_with fail
  generalize ((w.alloc (logO 29 sz st sq hd us)).alloc (.cells #[.int .i64 t.seq, .slice po t.homes.length pcap, .slice ao t.revs.length cap] 34)).alloc (logO 29 0 0 0 0 0) = w0 at *
  refine (hN2 _ hA).mono ?_
  rintro e w1 ⟨rfl, h1⟩
  have HB0 : Hid (w1.heap[w.heap.size]? = some (logO 29 sz st sq hd us)) := (h1.block _ (by omega) (by omega)).trans b0
  have HB1 : Hid (w1.heap[w.heap.size + 1]? = some (.cells #[.int .i64 t.seq, .slice po t.homes.length pcap, .slice ao t.revs.length cap] 34 (0, 0))) := (h1.block _ (by omega) (by omega)).trans b1
  have HB2 : Hid (w1.heap[w.heap.size + 1 + 1]? = some (logO 29 0 0 0 0 0)) := (h1.block _ (by omega) (by omega)).trans b2
  have HA : Hid (Chg 0 0 w w1) := hA.trans h1
  have hs := h1.size
  clear h1 b0 b1 b2 hA hN2
  by_cases htk : takesB sz st sq hd us t = true
  case neg =>
    obtain ⟨⟨y0, y1, y2, y3, y4⟩, yf0, yf1, yf2, yf3, yf4⟩ := five_all HB2.out
    have Ht : Hid (nextV sz st sq hd us t = logV 0 0 0 0 0) := by show _ = _; unfold nextV; rw [if_neg htk]
    rw [Bool.not_eq_true] at htk
    rw [htk]
    clear htk hN
    go_wp2
    rw [Ht.out]
    exact bodyPost_ret (v := logV 0 0 0 0 0) (by simp [results, Tryz.results5, go_sem, *]) rfl ⟨rfl, by refine Chg.setCell (Chg.setCell (Chg.setCell (Chg.setCell (Chg.setCell HA.out ?_ _) ?_ _) ?_ _) ?_ _) ?_ _ <;> refine Or.inr ?_ <;> simp <;> omega⟩
  obtain ⟨hIn, h_v, h_q, hlt, hle⟩ := takesB_spec htk
  clear h_v h_q
  have Ht : Hid (nextV sz st sq hd us t = logV sz (if st = 0 then hd else st) (sq + 1) (placeI sz hd tn) (us + tn)) := by show _ = _; unfold nextV; rw [if_pos htk, Htn.out]
  have hn0 : 0 ≤ tn := by rw [Htn.out]; omega
  rw [← Htn.out] at hle
  unfold InLog at hIn
  obtain ⟨⟨i1, i2⟩, ⟨i3, i4⟩, ⟨i5, i6⟩, ⟨i7, i8⟩, i9, i10⟩ := hIn
  have hpl := fun W => l4Place_calls W sz hd tn i1 i2 i7 (by omega) hn0 (by omega)
  rw [htk]
  clear htk
  obtain ⟨⟨k0, k1, k2⟩, _⟩ := tri HB1.out
  go_wp2_with fail
  refine (hN _ HA.out).mono ?_
  rintro e w3 ⟨rfl, h3⟩
  have HC0 : Hid (w3.heap[w.heap.size]? = some (logO 29 sz st sq hd us)) := (h3.block _ (by omega) (by omega)).trans HB0.out
  have HC2 : Hid (w3.heap[w.heap.size + 1 + 1]? = some (logO 29 0 0 0 0 0)) := (h3.block _ (by omega) (by omega)).trans HB2.out
  have HA3 : Hid (Chg 0 0 w w3) := HA.out.trans h3
  have hs3 := h3.size
  clear h3 hN k0 k1 k2 HB0 HB1 HB2
  have n0 : w.heap.size ≠ w3.heap.size := by omega
  have n1 : w.heap.size + 1 + 1 ≠ w3.heap.size := by omega
  have n2 : w3.heap.size ≠ w.heap.size + 1 + 1 := by omega
  have n3 : w3.heap.size ≠ w.heap.size := by omega
  have HXA : ∀ o, (w3.alloc o).heap[w.heap.size]? = some (logO 29 sz st sq hd us) := fun o => (Below.heap_alloc _ _ _ (by omega)).trans HC0.out
  have x0 := fun o => (five_cells (HXA o)).1
  have x1 := fun o => (five_cells (HXA o)).2.1
  have x2 := fun o => (five_cells (HXA o)).2.2.1
  have x3 := fun o => (five_cells (HXA o)).2.2.2.1
  have x4 := fun o => (five_cells (HXA o)).2.2.2.2
  obtain ⟨u0, u1, u2, u3, u4⟩ := five_cells HC0.out
  clear HXA
  have hw1 : IntKind.i64.wrap (sq + 1) = sq + 1 := by rw [IntKind.wrap_i64]; omega
  have hw2 : IntKind.i64.wrap (us + tn) = us + tn := by rw [IntKind.wrap_i64]; omega
  generalize placeI sz hd tn = pl at *
  by_cases hst : st = 0
  · rw [if_pos hst] at Ht
    have cB : Chg 0 0 w3 (w3.alloc (logO 29 sz hd (sq + 1) pl (us + tn))) := Chg.alloc (Chg.refl 0 0 w3) _
    obtain ⟨⟨y0, y1, y2, y3, y4⟩, yf0, yf1, yf2, yf3, yf4⟩ := five_all ((cB.block (w.heap.size + 1 + 1) (by omega) (by omega)).trans HC2.out)
    go_wp2_with fail
    refine (hpl _).mono ?_
    rintro e w5 ⟨rfl, rfl⟩
    go_wp2
    rw [Ht.out]
    exact bodyPost_ret (v := logV sz hd (sq + 1) pl (us + tn)) (by simp [results, Tryz.results5, go_sem, *]) rfl ⟨rfl, by refine Chg.setCell (Chg.setCell (Chg.setCell (Chg.setCell (Chg.setCell (HA3.out.trans cB) ?_ _) ?_ _) ?_ _) ?_ _) ?_ _ <;> refine Or.inr ?_ <;> simp <;> omega⟩
  · rw [if_neg hst] at Ht
    have cB : Chg 0 0 w3 (w3.alloc (logO 29 sz st (sq + 1) pl (us + tn))) := Chg.alloc (Chg.refl 0 0 w3) _
    obtain ⟨⟨y0, y1, y2, y3, y4⟩, yf0, yf1, yf2, yf3, yf4⟩ := five_all ((cB.block (w.heap.size + 1 + 1) (by omega) (by omega)).trans HC2.out)
    go_wp2_with fail
    refine (hpl _).mono ?_
    rintro e w5 ⟨rfl, rfl⟩
    go_wp2
    rw [Ht.out]
    exact bodyPost_ret (v := logV sz st (sq + 1) pl (us + tn)) (by simp [results, Tryz.results5, go_sem, *]) rfl ⟨rfl, by refine Chg.setCell (Chg.setCell (Chg.setCell (Chg.setCell (Chg.setCell (HA3.out.trans cB) ?_ _) ?_ _) ?_ _) ?_ _) ?_ _ <;> refine Or.inr ?_ <;> simp <;> omega⟩

set_option maxRecDepth 20000 in
set_option maxHeartbeats 4000000 in
theorem implLogNext_calls (w : World) {lo hi : Nat} {a : Value} {t : Tx} (sz st sq hd us : Int) (hl : cntT t ≤ 1048576) (hhi : hi ≤ w.heap.size) (hby : ∀ x ∈ t.homes, Byt x.2) (hM : Mag w) (h1 : TView w lo hi a t) :
    Calls Tryz.prog 8 #[logV sz st sq hd us, a] w fun e w' => e = .returned (nextV sz st sq hd us t) ∧ Chg 0 0 w w' := by
  have hT := h1
  obtain ⟨hv, rv, rfl, p1, v1⟩ := h1
  obtain ⟨po, pcap, rfl⟩ := p1.slice
  obtain ⟨ao, cap, rfl⟩ := v1.slice
  have hMl := hM.lt
  have HT : Hid (∀ W, Chg 0 0 w W → TView W lo hi (.agg #[.int .i64 t.seq, .slice po t.homes.length pcap, .slice ao t.revs.length cap]) t) := fun W hW => hT.chg hW (by omega)
  have hA : Chg 0 0 w (((w.alloc (logO 29 sz st sq hd us)).alloc (.cells #[.int .i64 t.seq, .slice po t.homes.length pcap, .slice ao t.revs.length cap] 34)).alloc (logO 29 0 0 0 0 0)) := ((Chg.alloc (Chg.refl 0 0 w) _).alloc _).alloc _
  obtain ⟨z, b0, b1, b2⟩ := alloc3 w (logO 29 sz st sq hd us) (.cells #[.int .i64 t.seq, .slice po t.homes.length pcap, .slice ao t.revs.length cap] 34) (logO 29 0 0 0 0 0)
  clear hT p1 v1
  obtain ⟨rz, Hrz⟩ : ∃ rz : Int, Hid (rz = if takesB sz st sq hd us t = true then ((TL t).length : Int) else 0) := ⟨_, rfl⟩
  have hN : ∀ W, Chg 0 0 w W → Calls Tryz.prog 18 #[logV sz st sq hd us, .agg #[.int .i64 t.seq, .slice po t.homes.length pcap, .slice ao t.revs.length cap]] W fun e w' => e = .returned (.int .i64 rz) ∧ Chg 0 0 W w' := fun W hW => by rw [Hrz.out]; exact taken_calls W sz st sq hd us hl (by have := hW.size; omega) hby (hM.chg hW (by omega)) (HT.out W hW)
  clear HT hM
  go_enter Tryz.func8, Tryz.ntmps8
  go_wp2_with fail
  generalize ((w.alloc (logO 29 sz st sq hd us)).alloc (.cells #[.int .i64 t.seq, .slice po t.homes.length pcap, .slice ao t.revs.length cap] 34)).alloc (logO 29 0 0 0 0 0) = w0 at *
  refine (hN _ hA).mono ?_
  rintro e w1 ⟨rfl, h1⟩
  have HB0 : Hid (w1.heap[w.heap.size]? = some (logO 29 sz st sq hd us)) := (h1.block _ (by omega) (by omega)).trans b0
  have HB2 : Hid (w1.heap[w.heap.size + 1 + 1]? = some (logO 29 0 0 0 0 0)) := (h1.block _ (by omega) (by omega)).trans b2
  have HA : Hid (Chg 0 0 w w1) := hA.trans h1
  clear h1 b0 b1 b2 hA hN
  obtain ⟨⟨y0, y1, y2, y3, y4⟩, yf0, yf1, yf2, yf3, yf4⟩ := five_all HB2.out
  by_cases htk : takesB sz st sq hd us t = true
  case neg =>
    have Ht : Hid (nextV sz st sq hd us t = logV 0 0 0 0 0) := by show _ = _; unfold nextV; rw [if_neg htk]
    have hr := Hrz.out
    rw [if_neg htk] at hr
    rw [hr]
    clear htk hr
    go_wp2
    rw [Ht.out]
    exact bodyPost_ret (v := logV 0 0 0 0 0) (by simp [results, Tryz.results8, go_sem, *]) rfl ⟨rfl, by refine Chg.setCell (Chg.setCell (Chg.setCell (Chg.setCell (Chg.setCell HA.out ?_ _) ?_ _) ?_ _) ?_ _) ?_ _ <;> refine Or.inr ?_ <;> simp <;> omega⟩
  obtain ⟨hIn, hvt, h_q, hlt, hle⟩ := takesB_spec htk
  have hr := Hrz.out
  rw [if_pos htk] at hr
  have Ht : Hid (nextV sz st sq hd us t = logV sz (if st = 0 then hd else st) (sq + 1) (placeI sz hd rz) (us + rz)) := by show _ = _; unfold nextV; rw [if_pos htk, hr]
  have hn1 := TL_pos hvt
  have hn0 : 1 ≤ rz := by rw [hr]; omega
  rw [← hr] at hle
  have hne : (rz == 0) = false := by simp; omega
  unfold InLog at hIn
  obtain ⟨⟨i1, i2⟩, ⟨i3, i4⟩, ⟨i5, i6⟩, ⟨i7, i8⟩, i9, i10⟩ := hIn
  have hpl := fun W => positionFrom_calls W sz hd rz i1 i2 i7 (by omega) (by omega) (by omega)
  clear htk hr h_q hvt hn1
  have hw1 : IntKind.i64.wrap (sq + 1) = sq + 1 := by rw [IntKind.wrap_i64]; omega
  have hw2 : IntKind.i64.wrap (us + rz) = us + rz := by rw [IntKind.wrap_i64]; omega
  generalize placeI sz hd rz = pl at *
  obtain ⟨⟨x0, x1, x2, x3, x4⟩, xf0, xf1, xf2, xf3, xf4⟩ := five_all HB0.out
  by_cases hst : st = 0
  · rw [if_pos hst] at Ht
    go_wp2_with fail
    refine (hpl _).mono ?_
    rintro e w5 ⟨rfl, rfl⟩
    go_wp2
    rw [Ht.out]
    exact bodyPost_ret (v := logV sz hd (sq + 1) pl (us + rz)) (by simp [results, Tryz.results8, go_sem, *]) rfl ⟨rfl, by refine Chg.setCell (Chg.setCell (Chg.setCell (Chg.setCell (Chg.setCell (Chg.setCell (Chg.setCell (Chg.setCell (Chg.setCell HA.out ?_ _) ?_ _) ?_ _) ?_ _) ?_ _) ?_ _) ?_ _) ?_ _) ?_ _ <;> refine Or.inr ?_ <;> simp <;> omega⟩
  · rw [if_neg hst] at Ht
    go_wp2_with fail
    refine (hpl _).mono ?_
    rintro e w5 ⟨rfl, rfl⟩
    go_wp2
    rw [Ht.out]
    exact bodyPost_ret (v := logV sz st (sq + 1) pl (us + rz)) (by simp [results, Tryz.results8, go_sem, *]) rfl ⟨rfl, by refine Chg.setCell (Chg.setCell (Chg.setCell (Chg.setCell (Chg.setCell (Chg.setCell (Chg.setCell (Chg.setCell HA.out ?_ _) ?_ _) ?_ _) ?_ _) ?_ _) ?_ _) ?_ _) ?_ _ <;> refine Or.inr ?_ <;> simp <;> omega⟩

end Go.Proofs.YtmipmkledbfdaaaGreatDoor

namespace Go.Proofs.YtmipmkledbfdaaaGreatDoor
open Go.ChangeShapes Go.WideShapes Go.ChangeAt Go.RowKit Go.Joins

theorem array5 {α : Type} {cs : Array α} (h : cs.size = 5) : ∃ c0 c1 c2 c3 c4, cs = #[c0, c1, c2, c3, c4] := by
  obtain ⟨l⟩ := cs
  match l, h with
  | [c0, c1, c2, c3, c4], _ => exact ⟨c0, c1, c2, c3, c4, rfl⟩

set_option maxRecDepth 20000 in
theorem log_of_trod {H : Type} {enc : TypeId × Value → H} {W : World} {base : Nat} {v : Value} {dd : DataW H} {p : List MemPlace} (hv : Value.okWide Tryz.prog W .any base 23 v)
    (h : DataW.Trod enc Tryz.prog W 0 (fun _ => true) true 23 v dd p) : ∃ sz st sq hd us : Int, v = .agg #[.int .i64 sz, .int .i64 st, .int .i64 sq, .int .i64 hd, .int .i64 us] := by
  obtain ⟨cs, rfl, hsz⟩ := okWide_struct Tryz.underlying23 hv
  obtain ⟨c0, c1, c2, c3, c4, rfl⟩ := array5 (hsz.trans (by kernel_rfl))
  obtain ⟨fuel, hf⟩ := h
  obtain ⟨xs, n, _, _, _, hlen, hx⟩ := DataW.trod_struct Tryz.underlying23 hf
  match xs, hlen with
  | [y0, y1, y2, y3, y4], _ =>
  have hc : Tryz.prog.cellsOf 2 = 1 := by kernel_rfl
  have t0 := hx 0 _ rfl
  have t1 := hx 1 _ rfl
  have t2 := hx 2 _ rfl
  have t3 := hx 3 _ rfl
  have t4 := hx 4 _ rfl
  obtain ⟨q0, h0, _⟩ := DataW.trod_int Tryz.underlying2 t0
  obtain ⟨q1, h1, _⟩ := DataW.trod_int Tryz.underlying2 t1
  obtain ⟨q2, h2, _⟩ := DataW.trod_int Tryz.underlying2 t2
  obtain ⟨q3, h3, _⟩ := DataW.trod_int Tryz.underlying2 t3
  obtain ⟨q4, h4, _⟩ := DataW.trod_int Tryz.underlying2 t4
  simp [hc, Value.cells] at h0 h1 h2 h3 h4
  exact ⟨q0, q1, q2, q3, q4, by rw [h0, h1, h2, h3, h4]⟩

end Go.Proofs.YtmipmkledbfdaaaGreatDoor

namespace Go.Proofs.YtmipmkledbfdaaaGreatDoor
open Go.ChangeShapes Go.WideShapes Go.ChangeAt Go.RowKit Go.Joins Go.Deep

theorem own : ownKnob Tryz.prog.godebug = none := by kernel_rfl
theorem laidOut : laidOutB Tryz.prog = true := by kernel_rfl

theorem addr_plain {w : World} {a : Addr} {x : Value} {i : Nat} (h : w.cell? (a.add 0) = some x) : a.add i = ⟨a.block, a.off + i, none⟩ ∧ a = ⟨a.block, a.off, none⟩ := by
  obtain ⟨b, off, spot⟩ := a
  have hspot : spot = none := by simpa [Addr.add] using World.cell?_spot h
  subst hspot
  exact ⟨Go.WideShapes.add_plain _ _ _, rfl⟩

/-- A slice of numbers that came in. -/
theorem view_of_trod {H : Type} {enc : TypeId × Value → H} {W : World} {fuel t e : Nat} {k : IntKind} {v : Value} {x : DataW H × List MemPlace} (ht : Tryz.prog.underlying t = some (.slice e)) (he : Tryz.prog.underlying e = some (.int k)) (hc : Tryz.prog.cellsOf e = 1)
    (h : DataW.trod enc Tryz.prog W 0 (fun _ => true) true fuel t [v] = some x) : ∃ xs, View W 0 W.heap.size k v xs := by
  rcases open_ints ht he hc h with ⟨hcs, _⟩ | ⟨a, len, cap, zs, hcs, _, hl, hm, hz, _, hcell, _⟩
  · simp at hcs; subst hcs; exact ⟨[], View.nil _ _ _ _⟩
  · simp at hcs hz; subst hcs
    unfold maxLen at hm
    refine ⟨zs.take len, some a, cap, by rw [List.length_take, Nat.min_eq_left (by omega)], by rw [List.length_take]; omega, ⟨by rw [List.length_take]; omega, by simp⟩, ?_⟩
    by_cases h0 : len = 0
    · left; subst h0; rfl
    · right
      obtain ⟨b, off, rfl, hc2⟩ := ints_at hcell (by omega)
      refine ⟨b, off, rfl, Nat.zero_le _, lt_of_cell (hc2 0 (by omega)), fun i hi => ?_⟩
      rw [List.length_take] at hi
      rw [hc2 i (by omega)]
      simp only [List.getD_eq_getElem?_getD, List.getElem?_take]
      rw [if_pos (by omega)]

/-- A slice of writes that came in. -/
theorem pview_of_trod {H : Type} {enc : TypeId × Value → H} {W : World} {fuel t e ti ts tb : Nat} {f0 f1 : Field} {v : Value} {x : DataW H × List MemPlace} (ht : Tryz.prog.underlying t = some (.slice e)) (he : Tryz.prog.underlying e = some (.struct #[f0, f1]))
    (ce : Tryz.prog.cellsOf e = 2) (o0 : f0.offset = 0) (o1 : f1.offset = 1) (e0 : f0.type = ti) (e1 : f1.type = ts) (c0 : Tryz.prog.cellsOf ti = 1) (c1 : Tryz.prog.cellsOf ts = 1)
    (hi : Tryz.prog.underlying ti = some (.int .i64)) (hs : Tryz.prog.underlying ts = some (.slice tb)) (hb : Tryz.prog.underlying tb = some (.int .u8)) (hcb : Tryz.prog.cellsOf tb = 1)
    (h : DataW.trod enc Tryz.prog W 0 (fun _ => true) true fuel t [v] = some x) : ∃ ps, PView W 0 W.heap.size v ps := by
  subst e0 e1
  rcases open_slice_pairs ht he ce o0 o1 c0 c1 h with ⟨hcs, _⟩ | ⟨a, len, cap, m, n, V0, V1, D0, D1, P0, P1, hcs, _, hl, hm, hmm, _, hx⟩
  · simp at hcs; subst hcs; exact ⟨[], PView.nil _ _ _⟩
  · simp at hcs hmm; subst hcs
    subst hmm
    unfold maxLen at hm
    by_cases h0 : len = 0
    · subst h0; exact ⟨[], some a, m, rfl, by simp, by simp, Or.inl rfl⟩
    have hp : ∀ i, a.add i = ⟨a.block, a.off + i, none⟩ := fun i => (addr_plain (i := i) (by simpa using (hx 0 (by omega)).1)).1
    have hp0 : a = ⟨a.block, a.off, none⟩ := (addr_plain (i := 0) (by simpa using (hx 0 (by omega)).1)).2
    have each : ∀ i, i < len → ∃ p : Wr, V0 i = .int .i64 p.1 ∧ View W 0 W.heap.size .u8 (V1 i) p.2 := by
      intro i hi'
      obtain ⟨_, _, t0, t1⟩ := hx i (by omega)
      obtain ⟨q, hq, _, _⟩ := DataW.trod_int hi t0
      obtain ⟨xs, hxs⟩ := view_of_trod hs hb hcb t1
      simp at hq
      exact ⟨(q, xs), hq, hxs⟩
    obtain ⟨f, hf⟩ := choose_lt each
    have hlen : ((List.range len).map f).length = len := by simp
    refine ⟨(List.range len).map f, some a, m, by rw [hlen], by rw [hlen]; omega, by rw [hlen]; exact hl, Or.inr ⟨a.block, a.off, by rw [← hp0], Nat.zero_le _, ?_, ?_⟩⟩
    · have := (hx 0 (by omega)).1
      rw [hp] at this
      exact lt_of_cell this
    · intro i hi'
      rw [hlen] at hi'
      obtain ⟨k0, k1, _, _⟩ := hx i (by omega)
      obtain ⟨g0, g1⟩ := hf i hi'
      have eg : ((List.range len).map f).getD i (0, []) = f i := by simp [List.getD_eq_getElem?_getD, hi']
      rw [hp] at k0 k1
      rw [eg]
      exact ⟨V1 i, by rw [k0, g0], by rw [← k1, Nat.add_assoc], g1⟩

end Go.Proofs.YtmipmkledbfdaaaGreatDoor
