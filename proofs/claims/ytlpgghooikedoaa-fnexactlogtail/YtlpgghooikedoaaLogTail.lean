/- LogTail of the model and of the program; eqLog. -/
import Derived.Test.YtlpgghooikedoaaLogV
namespace Go.Proofs.Ytlpgghooikedoaa
open Go.RowKit

/-- LogTail. -/
def tailV (sz st sq hd us : Int) : Value := if validLog sz st sq hd us then (if 0 < us then logV sz hd sq hd 0 else logV sz st sq hd us) else logV 0 0 0 0 0

theorem validLog_used {sz st sq hd us : Int} (h : validLog sz st sq hd us = true) : 0 ≤ us := by
  unfold validLog at h
  rw [Bool.and_eq_true, decide_eq_true_eq] at h
  exact h.1.2.2.2.2.1

set_option maxRecDepth 20000 in
set_option maxHeartbeats 2000000 in
theorem specLogTail_calls (w : World) (sz st sq hd us : Int) :
    Calls Try.prog 4 #[logV sz st sq hd us] w fun e w' => e = .returned (tailV sz st sq hd us) ∧ Chg 0 0 w w' := by
  have hA : Chg 0 0 w ((w.alloc (logO 24 sz st sq hd us)).alloc (logO 24 0 0 0 0 0)) := (Chg.alloc (Chg.refl 0 0 w) _).alloc _
  obtain ⟨z, b0, b1⟩ := alloc2 w (logO 24 sz st sq hd us) (logO 24 0 0 0 0 0)
  go_enter Try.func4, Try.ntmps4
  go_wp2_with fail
  generalize (w.alloc (logO 24 sz st sq hd us)).alloc (logO 24 0 0 0 0 0) = w0 at *
  refine (specValidLog_calls _ sz st sq hd us).mono ?_
  rintro e w1 ⟨rfl, h1⟩
  have B0 := (h1.block w.heap.size (by omega) (by omega)).trans b0
  have B1 := (h1.block (w.heap.size + 1) (by omega) (by omega)).trans b1
  have hA := hA.trans h1
  have hs := h1.size
  clear h1 b0 b1
  have HA : Hid (Chg 0 0 w w1) := hA
  clear hA
  by_cases hv : validLog sz st sq hd us = true
  case neg =>
    obtain ⟨⟨y0, y1, y2, y3, y4⟩, yf0, yf1, yf2, yf3, yf4⟩ := five_all B1
    clear B0 B1
    have Ht : Hid (tailV sz st sq hd us = logV 0 0 0 0 0) := by show _ = _; unfold tailV; rw [if_neg hv]
    rw [Bool.not_eq_true] at hv
    rw [hv]
    clear hv
    go_wp2
    rw [Ht.out]
    exact bodyPost_ret (v := logV 0 0 0 0 0) (by simp [results, Try.results4, go_sem, *]) rfl ⟨rfl, by refine Chg.setCell (Chg.setCell (Chg.setCell (Chg.setCell (Chg.setCell HA.out ?_ _) ?_ _) ?_ _) ?_ _) ?_ _ <;> exact Or.inr (Nat.le_succ _)⟩
  have hu := validLog_used hv
  have cB : Chg 0 0 w1 (w1.alloc (logO 24 sz st sq hd us)) := Chg.alloc (Chg.refl 0 0 w1) _
  have HB0 : Hid (w1.heap[w.heap.size]? = some (logO 24 sz st sq hd us)) := B0
  have HB1 : Hid (w1.heap[w.heap.size + 1]? = some (logO 24 0 0 0 0 0)) := B1
  obtain ⟨⟨x0, x1, x2, x3, x4⟩, xf0, xf1, xf2, xf3, xf4⟩ := five_all ((cB.block w.heap.size (by omega) (by omega)).trans HB0.out)
  obtain ⟨⟨y0, y1, y2, y3, y4⟩, yf0, yf1, yf2, yf3, yf4⟩ := five_all ((cB.block (w.heap.size + 1) (by omega) (by omega)).trans HB1.out)
  obtain ⟨u0, u1, u2, u3, u4⟩ := five_cells HB0.out
  have n0 : w.heap.size ≠ w1.heap.size := by omega
  have n1 : w.heap.size + 1 ≠ w1.heap.size := by omega
  have n2 : w1.heap.size ≠ w.heap.size + 1 := by omega
  clear B0 B1
  by_cases hu0 : 0 < us
  · have Ht : Hid (tailV sz st sq hd us = logV sz hd sq hd 0) := by show _ = _; unfold tailV; rw [if_pos hv, if_pos hu0]
    have cD : Chg 0 0 w1 (w1.alloc (logO 24 sz hd sq hd 0)) := Chg.alloc (Chg.refl 0 0 w1) _
    obtain ⟨⟨y0, y1, y2, y3, y4⟩, yf0, yf1, yf2, yf3, yf4⟩ := five_all ((cD.block (w.heap.size + 1) (by omega) (by omega)).trans HB1.out)
    rw [hv]
    clear hv
    go_wp2
    rw [Ht.out]
    exact bodyPost_ret (v := logV sz hd sq hd 0) (by simp [results, Try.results4, go_sem, *]) rfl ⟨rfl, by refine Chg.setCell (Chg.setCell (Chg.setCell (Chg.setCell (Chg.setCell (HA.out.trans cD) ?_ _) ?_ _) ?_ _) ?_ _) ?_ _ <;> refine Or.inr ?_ <;> simp <;> omega⟩
  · have Ht : Hid (tailV sz st sq hd us = logV sz st sq hd us) := by show _ = _; unfold tailV; rw [if_pos hv, if_neg hu0]
    rw [hv]
    clear hv
    go_wp2
    rw [Ht.out]
    exact bodyPost_ret (v := logV sz st sq hd us) (by simp [results, Try.results4, go_sem, *]) rfl ⟨rfl, by refine Chg.setCell (Chg.setCell (Chg.setCell (Chg.setCell (Chg.setCell (HA.out.trans cB) ?_ _) ?_ _) ?_ _) ?_ _) ?_ _ <;> refine Or.inr ?_ <;> simp <;> omega⟩

set_option maxRecDepth 20000 in
set_option maxHeartbeats 2000000 in
theorem implLogTail_calls (w : World) (sz st sq hd us : Int) :
    Calls Try.prog 6 #[logV sz st sq hd us] w fun e w' => e = .returned (tailV sz st sq hd us) ∧ Chg 0 0 w w' := by
  have hA : Chg 0 0 w ((w.alloc (logO 24 sz st sq hd us)).alloc (logO 24 0 0 0 0 0)) := (Chg.alloc (Chg.refl 0 0 w) _).alloc _
  obtain ⟨z, b0, b1⟩ := alloc2 w (logO 24 sz st sq hd us) (logO 24 0 0 0 0 0)
  go_enter Try.func6, Try.ntmps6
  go_wp2_with fail
  generalize (w.alloc (logO 24 sz st sq hd us)).alloc (logO 24 0 0 0 0 0) = w0 at *
  refine (implValidLog_calls _ sz st sq hd us).mono ?_
  rintro e w1 ⟨rfl, h1⟩
  have B0 := (h1.block w.heap.size (by omega) (by omega)).trans b0
  have B1 := (h1.block (w.heap.size + 1) (by omega) (by omega)).trans b1
  have hA := hA.trans h1
  have hs := h1.size
  clear h1 b0 b1
  obtain ⟨⟨x0, x1, x2, x3, x4⟩, xf0, xf1, xf2, xf3, xf4⟩ := five_all B0
  obtain ⟨⟨y0, y1, y2, y3, y4⟩, yf0, yf1, yf2, yf3, yf4⟩ := five_all B1
  have HA : Hid (Chg 0 0 w w1) := hA
  clear hA B0 B1
  by_cases hv : validLog sz st sq hd us = true
  case neg =>
    have Ht : Hid (tailV sz st sq hd us = logV 0 0 0 0 0) := by show _ = _; unfold tailV; rw [if_neg hv]
    rw [Bool.not_eq_true] at hv
    rw [hv]
    clear hv
    go_wp2
    rw [Ht.out]
    exact bodyPost_ret (v := logV 0 0 0 0 0) (by simp [results, Try.results6, go_sem, *]) rfl ⟨rfl, by refine Chg.setCell (Chg.setCell (Chg.setCell (Chg.setCell (Chg.setCell HA.out ?_ _) ?_ _) ?_ _) ?_ _) ?_ _ <;> exact Or.inr (Nat.le_succ _)⟩
  have hu := validLog_used hv
  by_cases hu0 : 0 < us
  · have Ht : Hid (tailV sz st sq hd us = logV sz hd sq hd 0) := by show _ = _; unfold tailV; rw [if_pos hv, if_pos hu0]
    have hne : (us != 0) = true := by simp; omega
    rw [hv]
    clear hv
    go_wp2
    rw [Ht.out]
    exact bodyPost_ret (v := logV sz hd sq hd 0) (by simp [results, Try.results6, go_sem, *]) rfl ⟨rfl, by refine Chg.setCell (Chg.setCell (Chg.setCell (Chg.setCell (Chg.setCell (Chg.setCell (Chg.setCell HA.out ?_ _) ?_ _) ?_ _) ?_ _) ?_ _) ?_ _) ?_ _ <;> refine Or.inr ?_ <;> simp⟩
  · have Ht : Hid (tailV sz st sq hd us = logV sz st sq hd us) := by show _ = _; unfold tailV; rw [if_pos hv, if_neg hu0]
    obtain rfl : us = 0 := by omega
    rw [hv]
    clear hv
    go_wp2
    rw [Ht.out]
    exact bodyPost_ret (v := logV sz st sq hd 0) (by simp [results, Try.results6, go_sem, *]) rfl ⟨rfl, by refine Chg.setCell (Chg.setCell (Chg.setCell (Chg.setCell (Chg.setCell HA.out ?_ _) ?_ _) ?_ _) ?_ _) ?_ _ <;> refine Or.inr ?_ <;> simp⟩

theorem tailV_log (sz st sq hd us : Int) : ∃ a b c d e, tailV sz st sq hd us = logV a b c d e := by
  unfold tailV
  split
  · split
    · exact ⟨_, _, _, _, _, rfl⟩
    · exact ⟨_, _, _, _, _, rfl⟩
  · exact ⟨_, _, _, _, _, rfl⟩

end Go.Proofs.Ytlpgghooikedoaa
