/- DirRemove of the program. -/
import Derived.Test.YtpcgbnfdhjepmaaRemSpec
import Derived.Test.YtpcgbnfdhjepmaaCloneE
import Derived.Test.YtpcgbnfdhjepmaaIsWithin
namespace Go.Proofs.Ytpcgbnfdhjepmaa
open Go.RowKit

theorem remTo_out {ts : List Ent} {at' : Int} (h : at' < 0 ∨ (ts.length : Int) ≤ at') : ∀ k, k ≤ ts.length → remTo ts at' k = ts.take k
  | 0, _ => rfl
  | k + 1, hk => by
    have hlt : k < ts.length := by omega
    unfold remTo remAt
    rw [remTo_out h k (by omega), if_pos h, List.take_succ_eq_append_getElem hlt]
    simp [List.getD_eq_getElem?_getD, hlt]
theorem remD_out {ts : List Ent} {at' : Int} (h : at' < 0 ∨ (ts.length : Int) ≤ at') : remD ts at' = ts := by
  unfold remD
  rw [remTo_out h _ (Nat.le_refl _), List.take_length]
theorem remTo_in {ts : List Ent} {a : Nat} (h : a < ts.length) : ∀ k, k ≤ ts.length - 1 → remTo ts (a : Int) k = (ts.set a (ts.getD (ts.length - 1) Ent.none)).take k
  | 0, _ => rfl
  | k + 1, hk => by
    have hlt : k < (ts.set a (ts.getD (ts.length - 1) Ent.none)).length := by rw [List.length_set]; omega
    unfold remTo remAt
    rw [remTo_in h k (by omega), if_neg (by omega), if_neg (by omega), List.take_succ_eq_append_getElem hlt]
    congr 1
    by_cases e : k = a
    · subst e
      rw [if_pos rfl, List.getElem_set_self]
    · rw [if_neg (by omega), List.getElem_set_ne (by omega)]
      simp [List.getD_eq_getElem?_getD, show k < ts.length by omega]
theorem remD_in {ts : List Ent} {a : Nat} (h : a < ts.length) : remD ts (a : Int) = (ts.set a (ts.getD (ts.length - 1) Ent.none)).take (ts.length - 1) := by
  unfold remD
  obtain ⟨n, hn⟩ : ∃ n, ts.length = n + 1 := ⟨ts.length - 1, by omega⟩
  rw [hn]
  show remTo ts a n ++ remAt ts a n = _
  rw [remTo_in h n (by omega)]
  have : remAt ts (a : Int) n = [] := by unfold remAt; rw [if_neg (by omega), if_pos (by omega)]
  rw [this, List.append_nil, hn]
  rfl

set_option maxRecDepth 20000 in
set_option maxHeartbeats 1000000 in
theorem implDirRemove_calls (w : World) {lo hi : Nat} {a : Value} {ts : List Ent} (at' : Int) (hl : ts.length ≤ 1048576) (h1 : EView w lo hi a ts) :
    Calls Try.prog 7 #[a, .int .i64 at'] w fun e w' => ∃ v, e = .returned v ∧ OwnE w' w.heap.size 33 v (remD ts at') ∧ Chg 0 0 w w' := by
  have hN := cloneE_calls w hl h1
  clear h1
  go_enter Try.func7, Try.ntmps7
  go_wp2_with fail
  refine hN.mono ?_
  rintro e w1 ⟨v, rfl, ho, hc⟩
  clear hN
  have hsl : ∃ ao cap, v = .slice ao ts.length cap := by
    rcases ho.2 with ⟨h, h0⟩ | ⟨g, cap, cur, hv, _⟩
    · rw [h0]; exact ⟨_, _, h⟩
    · exact ⟨_, _, hv⟩
  have e1 : IntKind.i64.wrap ((ts.length : Int) - 1) = (ts.length : Int) - 1 := by rw [IntKind.wrap_i64]; omega
  have hN2 := isWithin_calls w1 at' 0 ((ts.length : Int) - 1)
  by_cases h : at' < 0 ∨ (ts.length : Int) ≤ at'
  · obtain ⟨ao, cap, rfl⟩ := hsl
    have HD : Hid (remD ts at' = ts) := remD_out h
    have hf : (decide (0 ≤ at') && decide (at' ≤ (ts.length : Int) - 1)) = false := by simp only [Bool.and_eq_false_iff, decide_eq_false_iff_not]; omega
    rw [hf] at hN2
    clear hf h
    go_wp2_with (go_at_call 14; refine hN2.mono ?_; rintro e w' ⟨rfl, rfl⟩)
    go_ret
    exact ⟨_, rfl, by rw [HD.out]; exact ho, hc⟩
  · obtain ⟨m, rfl⟩ : ∃ m : Nat, at' = m := ⟨at'.toNat, by omega⟩
    have hm : m < ts.length := by omega
    have HD : Hid (remD ts (m : Int) = (ts.set m (ts.getD (ts.length - 1) Ent.none)).take (ts.length - 1)) := remD_in hm
    obtain ⟨g, cap, rfl⟩ : ∃ g cap, v = .slice (some ⟨g, 0, none⟩) ts.length cap := by
      rcases ho.2 with ⟨_, h0⟩ | ⟨g, cap, cur, hv, _⟩
      · omega
      · exact ⟨g, cap, hv⟩
    rw [decide_eq_true (show (0 : Int) ≤ (m : Int) by omega), decide_eq_true (show (m : Int) ≤ (ts.length : Int) - 1 by omega)] at hN2
    obtain ⟨n, hn⟩ : ∃ n, ts.length = n + 1 := ⟨ts.length - 1, by omega⟩
    have e2 : (ts.length : Int) - 1 = (n : Int) := by omega
    rw [e2] at hN2 e1
    have hcap : ts.length ≤ cap := by
      rcases ho.2 with ⟨h, _⟩ | ⟨g', cap', cur, hv, _, _, hnc, _⟩
      · cases h
      · cases hv; exact hnc
    have g1 := World.ownsRow.cellAt ho (n * 2) (by omega)
    have g2 := World.ownsRow.cellAt ho (n * 2 + 1) (by omega)
    have k1 := World.ownsRow.cellAt ho (m * 2) (by omega)
    have k2 := World.ownsRow.cellAt ho (m * 2 + 1) (by omega)
    have f1 := World.ownsRow.frozenAt ho (m * 2)
    have f2 := World.ownsRow.frozenAt ho (m * 2 + 1)
    obtain ⟨p1, p2⟩ := cellsE_get ts n (by omega)
    obtain ⟨p3, p4⟩ := cellsE_get ts m (by omega)
    rw [p1] at g1
    rw [p2] at g2
    rw [p3] at k1
    rw [p4] at k2
    rw [show ts.length - 1 = n by omega] at HD
    have hst := (World.ownsRow.stored (World.ownsRow.stored ho (m * 2) (.int .i64 (ts.getD n Ent.none).1)).1 (m * 2 + 1) (.string (ts.getD n Ent.none).2)).1
    rw [cellsE_set ts m (ts.getD n Ent.none) hm] at hst
    have hchg : Chg 0 0 w ((w1.setCell ⟨g, m * 2, none⟩ (.int .i64 (ts.getD n Ent.none).1)).setCell ⟨g, m * 2 + 1, none⟩ (.string (ts.getD n Ent.none).2)) := (hc.setCell (Or.inr (ho.lt g rfl).1) _).setCell (Or.inr (ho.lt g rfl).1) _
    have HST : Hid (OwnE ((w1.setCell ⟨g, m * 2, none⟩ (.int .i64 (ts.getD n Ent.none).1)).setCell ⟨g, m * 2 + 1, none⟩ (.string (ts.getD n Ent.none).2)) w.heap.size 33 (.slice (some ⟨g, 0, none⟩) n cap) ((ts.set m (ts.getD n Ent.none)).take n)) := by
      show OwnE _ _ _ _ _
      rcases hst.2 with ⟨h, _⟩ | ⟨g', cap', cur, hv, hb, hh, h1, h2, h3, h4⟩
      · cases h
      · cases hv
        have htl : ((ts.set m (ts.getD n Ent.none)).take n).length = n := by rw [List.length_take, List.length_set]; omega
        unfold OwnE
        rw [htl]
        refine ⟨by rw [cellsE_len, htl], Or.inr ⟨g, cap, cur, rfl, hb, hh, by omega, h2, h3, ?_⟩⟩
        have hsp : cellsE (ts.set m (ts.getD n Ent.none)) = cellsE ((ts.set m (ts.getD n Ent.none)).take n) ++ cellsE ((ts.set m (ts.getD n Ent.none)).drop n) := by rw [← cellsE_app, List.take_append_drop]
        have hcl : (cellsE ((ts.set m (ts.getD n Ent.none)).take n)).length = n * 2 := by rw [cellsE_len, htl]
        have h5 := congrArg (List.take (n * 2)) h4
        have h6 : (cellsE ((ts.set m (ts.getD n Ent.none)).take n) ++ cellsE ((ts.set m (ts.getD n Ent.none)).drop n)).take (n * 2) = cellsE ((ts.set m (ts.getD n Ent.none)).take n) := by
          rw [List.take_append_of_le_length (by rw [hcl]; exact Nat.le_refl _), List.take_of_length_le (by rw [hcl]; exact Nat.le_refl _)]
        rw [List.take_take, Nat.min_eq_left (by omega), hsp] at h5
        exact h5.trans h6
    have HCH : Hid (Chg 0 0 w ((w1.setCell ⟨g, m * 2, none⟩ (.int .i64 (ts.getD n Ent.none).1)).setCell ⟨g, m * 2 + 1, none⟩ (.string (ts.getD n Ent.none).2))) := hchg
    have q1 : (m : Int) < (ts.length : Int) := by omega
    have q2 : (n : Int) < (ts.length : Int) := by omega
    have q3 : (n : Int) ≤ (cap : Int) := by omega
    clear hst hchg p1 p2 p3 p4 h hsl hn
    generalize (ts.getD n Ent.none) = tl at *
    go_wp2_with (go_at_call 14; refine hN2.mono ?_; rintro e w' ⟨rfl, rfl⟩)
    go_ret
    exact ⟨_, rfl, by rw [HD.out]; exact HST.out, HCH.out⟩

end Go.Proofs.Ytpcgbnfdhjepmaa
