/- Whether a log takes a transaction: l4Takes of the model, taken of the program. (made by tools/mktakes.py) -/
import Derived.Test.YtahjaejepkgfdaaGreatDoorByt
import Derived.Test.YtahjaejepkgfdaaGreatDoorImplLen
import Derived.Test.YtahjaejepkgfdaaGreatDoorSpecBeg
namespace Go.Proofs.YtahjaejepkgfdaaGreatDoor
open Go.RowKit

/-- Whether it takes it. -/
def takesB (sz st sq hd us : Int) (t : Tx) : Bool := validLog sz st sq hd us && (validT t && (decide (sq = t.seq) && (decide (sq < 4294967295) && decide (((TL t).length : Int) ≤ sz - us))))

theorem InLog_of {sz st sq hd us : Int} (h : validLog sz st sq hd us = true) : InLog sz st sq hd us := by
  unfold validLog at h
  rw [Bool.and_eq_true, decide_eq_true_eq] at h
  exact h.1

/-- What lies in memory throughout. -/
def TkS (w : World) (sz st sq hd us s : Int) (hv rv : Value) (W : World) : Prop := W.heap[w.heap.size]? = some (logO 31 sz st sq hd us) ∧ W.heap[w.heap.size + 1]? = some (.cells #[.int .i64 s, hv, rv] 35 (0, 0)) ∧ Chg 0 0 w W
theorem TkS.keep {w : World} {sz st sq hd us s : Int} {hv rv : Value} {A B : World} (h : TkS w sz st sq hd us s hv rv A) (hc : Chg 0 0 A B) : TkS w sz st sq hd us s hv rv B :=
  ⟨(hc.block _ (Array.getElem?_eq_some_iff.1 h.1).1 (by omega)).trans h.1, (hc.block _ (Array.getElem?_eq_some_iff.1 h.2.1).1 (by omega)).trans h.2.1, h.2.2.trans hc⟩

set_option maxRecDepth 20000 in
set_option maxHeartbeats 8000000 in
theorem l4Takes_calls (w : World) {lo hi : Nat} {a : Value} {t : Tx} (sz st sq hd us : Int) (hl : cntT t ≤ 1048576) (hhi : hi ≤ w.heap.size) (hby : ∀ x ∈ t.homes, Byt x.2) (h1 : TView w lo hi a t) :
    Calls Tryz.prog 16 #[logV sz st sq hd us, a] w fun e w' => e = .returned (.bool (takesB sz st sq hd us t)) ∧ Chg 0 0 w w' := by
  have hT := h1
  obtain ⟨hv, rv, rfl, p1, v1⟩ := h1
  obtain ⟨po, pcap, rfl⟩ := p1.slice
  obtain ⟨ao, cap, rfl⟩ := v1.slice
  have HT : Hid (∀ W, Chg 0 0 w W → TView W lo hi (.agg #[.int .i64 t.seq, .slice po t.homes.length pcap, .slice ao t.revs.length cap]) t) := fun W hW => hT.chg hW (by omega)
  have hA : Chg 0 0 w ((w.alloc (logO 31 sz st sq hd us)).alloc (.cells #[.int .i64 t.seq, .slice po t.homes.length pcap, .slice ao t.revs.length cap] 35)) := (Chg.alloc (Chg.refl 0 0 w) _).alloc _
  obtain ⟨z, b0, b1⟩ := alloc2 w (logO 31 sz st sq hd us) (.cells #[.int .i64 t.seq, .slice po t.homes.length pcap, .slice ao t.revs.length cap] 35)
  have hmx : Tryz.prog.follows .mixedOrders = true := by kernel_rfl
  clear hT p1 v1
  obtain ⟨tn, Htn⟩ : ∃ tn : Int, Hid (tn = ((TL t).length : Int)) := ⟨_, rfl⟩
  have hN : ∀ W, Chg 0 0 w W → Calls Tryz.prog 38 #[.agg #[.int .i64 t.seq, .slice po t.homes.length pcap, .slice ao t.revs.length cap]] W fun e w' => e = .returned (.int .i64 tn) ∧ Chg 0 0 W w' := fun W hW => by rw [Htn.out]; exact specTxnLength_calls W hl (by have := hW.size; omega) hby (HT.out W hW)
  have hN2 : ∀ W, Chg 0 0 w W → Calls Tryz.prog 37 #[.agg #[.int .i64 t.seq, .slice po t.homes.length pcap, .slice ao t.revs.length cap]] W fun e w' => e = .returned (.bool (validT t)) ∧ Chg 0 0 W w' := fun W hW => specValidTxn_calls W hl (HT.out W hW)
  clear HT
  go_enter Tryz.func16, Tryz.ntmps16
  go_wp2_with fail
  generalize (w.alloc (logO 31 sz st sq hd us)).alloc (.cells #[.int .i64 t.seq, .slice po t.homes.length pcap, .slice ao t.revs.length cap] 35) = w0 at *
  refine (specValidLog_calls _ sz st sq hd us).mono ?_
  rintro e w1 ⟨rfl, c1⟩
  have T1 : TkS w sz st sq hd us t.seq (.slice po t.homes.length pcap) (.slice ao t.revs.length cap) w1 := TkS.keep ⟨b0, b1, hA⟩ c1
  have HT1 : Hid (TkS w sz st sq hd us t.seq (.slice po t.homes.length pcap) (.slice ao t.revs.length cap) w1) := T1
  obtain ⟨⟨k0, k1, k2⟩, _⟩ := tri T1.2.1
  clear T1 c1 hA b0 b1
  go_wp2_with fail
  refine (hN2 _ HT1.out.2.2).mono ?_
  rintro e w3 ⟨rfl, c3⟩
  have HS : Hid (TkS w sz st sq hd us t.seq (.slice po t.homes.length pcap) (.slice ao t.revs.length cap) w3.drew) := (HT1.out.keep c3).keep (Chg.drew (Chg.refl 0 0 w3))
  clear c3 HT1 hN2 k0 k1 k2
  by_cases hvl : validLog sz st sq hd us = true
  case neg =>
    rw [Bool.not_eq_true] at hvl
    have Ht : Hid (takesB sz st sq hd us t = false) := by show _ = _; unfold takesB; rw [hvl]; rfl
    rw [hvl]
    clear hvl
    go_wp2
    refine held_region (TkS w sz st sq hd us t.seq (.slice po t.homes.length pcap) (.slice ao t.revs.length cap)) hmx ?_
    refine held_take 0 (.bool false) rfl (by kernel_rfl) (by kernel_rfl) (by kernel_rfl) (fun _ _ _ h => h) (.inl ⟨by kernel_rfl, fun w' hw' => by go_simp⟩) HS.out ?_
    go_simp
    refine held_take 1 (.bool false) rfl (by kernel_rfl) (by kernel_rfl) (by kernel_rfl) (fun _ _ _ h => h) (.inl ⟨by kernel_rfl, fun w' hw' => by go_simp⟩) HS.out ?_
    go_simp
    refine held_take 2 undef rfl (by kernel_rfl) (by kernel_rfl) (by kernel_rfl) (fun _ _ _ h => h) (.inr ⟨by kernel_rfl, rfl⟩) HS.out ?_
    go_simp
    refine held_take 3 (.bool false) rfl (by kernel_rfl) (by kernel_rfl) (by kernel_rfl) (fun _ _ _ h => h) (.inl ⟨by kernel_rfl, fun w' hw' => by go_simp⟩) HS.out ?_
    go_simp
    refine held_take 4 (.bool false) rfl (by kernel_rfl) (by kernel_rfl) (by kernel_rfl) (fun _ _ _ h => h) (.inl ⟨by kernel_rfl, fun w' hw' => by go_simp⟩) HS.out ?_
    go_simp
    refine held_take 5 undef rfl (by kernel_rfl) (by kernel_rfl) (by kernel_rfl) (fun _ _ _ h => h) (.inr ⟨by kernel_rfl, rfl⟩) HS.out ?_
    go_simp
    refine held_take 6 undef rfl (by kernel_rfl) (by kernel_rfl) (by kernel_rfl) (fun _ _ _ h => h) (.inr ⟨by kernel_rfl, rfl⟩) HS.out ?_
    go_simp
    refine held_take 7 undef rfl (by kernel_rfl) (by kernel_rfl) (by kernel_rfl) (fun _ _ _ h => h) (.inr ⟨by kernel_rfl, rfl⟩) HS.out ?_
    go_simp
    refine held_take 8 undef rfl (by kernel_rfl) (by kernel_rfl) (by kernel_rfl) (fun _ _ _ h => h) (.inr ⟨by kernel_rfl, rfl⟩) HS.out ?_
    go_simp
    refine held_take 9 undef rfl (by kernel_rfl) (by kernel_rfl) (by kernel_rfl) (fun _ _ _ h => h) (.inr ⟨by kernel_rfl, rfl⟩) HS.out ?_
    go_simp
    refine held_take 10 (.bool false) rfl (by kernel_rfl) (by kernel_rfl) (by kernel_rfl) (fun _ _ _ h => h) (.inl ⟨by kernel_rfl, fun w' hw' => by go_simp⟩) HS.out ?_
    go_simp
    refine held_take 11 (.bool false) rfl (by kernel_rfl) (by kernel_rfl) (by kernel_rfl) (fun _ _ _ h => h) (.inl ⟨by kernel_rfl, fun w' hw' => by go_simp⟩) HS.out ?_
    go_simp
    refine held_take 12 undef rfl (by kernel_rfl) (by kernel_rfl) (by kernel_rfl) (fun _ _ _ h => h) (.inr ⟨by kernel_rfl, rfl⟩) HS.out ?_
    go_simp
    refine held_take 13 undef rfl (by kernel_rfl) (by kernel_rfl) (by kernel_rfl) (fun _ _ _ h => h) (.inr ⟨by kernel_rfl, rfl⟩) HS.out ?_
    go_simp
    refine held_take 14 undef rfl (by kernel_rfl) (by kernel_rfl) (by kernel_rfl) (fun _ _ _ h => h) (.inr ⟨by kernel_rfl, rfl⟩) HS.out ?_
    go_simp
    refine held_take 15 (.bool false) rfl (by kernel_rfl) (by kernel_rfl) (by kernel_rfl) (fun _ _ _ h => h) (.inl ⟨by kernel_rfl, fun w' hw' => by go_simp⟩) HS.out ?_
    go_simp
    refine held_take 16 (.bool false) rfl (by kernel_rfl) (by kernel_rfl) (by kernel_rfl) (fun _ _ _ h => h) (.inl ⟨by kernel_rfl, fun w' hw' => by go_simp⟩) HS.out ?_
    go_simp
    refine held_take 17 undef rfl (by kernel_rfl) (by kernel_rfl) (by kernel_rfl) (fun _ _ _ h => h) (.inr ⟨by kernel_rfl, rfl⟩) HS.out ?_
    go_simp
    refine held_take 19 undef rfl (by kernel_rfl) (by kernel_rfl) (by kernel_rfl) (fun _ _ _ h => h) (.inr ⟨by kernel_rfl, rfl⟩) HS.out ?_
    go_simp
    refine held_take 20 undef rfl (by kernel_rfl) (by kernel_rfl) (by kernel_rfl) (fun _ _ _ h => h) (.inr ⟨by kernel_rfl, rfl⟩) HS.out ?_
    go_simp
    refine held_take 21 undef rfl (by kernel_rfl) (by kernel_rfl) (by kernel_rfl) (fun _ _ _ h => h) (.inr ⟨by kernel_rfl, rfl⟩) HS.out ?_
    go_simp
    refine held_take 22 undef rfl (by kernel_rfl) (by kernel_rfl) (by kernel_rfl) (fun _ _ _ h => h) (.inr ⟨by kernel_rfl, rfl⟩) HS.out ?_
    go_simp
    refine held_take 23 undef rfl (by kernel_rfl) (by kernel_rfl) (by kernel_rfl) (fun _ _ _ h => h) (.inr ⟨by kernel_rfl, rfl⟩) HS.out ?_
    go_simp
    refine held_take 18 undef rfl (by kernel_rfl) (by kernel_rfl) (by kernel_rfl) (fun _ _ _ h => h) (.inr ⟨by kernel_rfl, rfl⟩) HS.out ?_
    go_simp
    refine held_take 24 undef rfl (by kernel_rfl) (by kernel_rfl) (by kernel_rfl) (fun _ _ _ h => h) (.inr ⟨by kernel_rfl, rfl⟩) HS.out ?_
    go_simp
    refine held_take 25 (.bool false) rfl (by kernel_rfl) (by kernel_rfl) (by kernel_rfl) (fun _ _ _ h => h) (.inl ⟨by kernel_rfl, fun w' hw' => by go_simp⟩) HS.out ?_
    go_simp
    refine held_take 26 (.bool false) rfl (by kernel_rfl) (by kernel_rfl) (by kernel_rfl) (fun _ _ _ h => h) (.inl ⟨by kernel_rfl, fun w' hw' => by go_simp⟩) HS.out ?_
    go_simp
    refine held_done (by kernel_rfl) (NoPanic.normal ?_)
    have HF : Hid (Chg 0 0 w w3.drew) := HS.out.2.2
    clear hN
    go_wp2
    go_ret
    exact ⟨by rw [Ht.out]; rfl, HF.out⟩
  have hIn := InLog_of hvl
  by_cases hvt : validT t = true
  case neg =>
    rw [Bool.not_eq_true] at hvt
    have Ht : Hid (takesB sz st sq hd us t = false) := by show _ = _; unfold takesB; rw [hvl, hvt]; rfl
    rw [hvl, hvt]
    clear hvl hvt
    go_wp2
    refine held_region (TkS w sz st sq hd us t.seq (.slice po t.homes.length pcap) (.slice ao t.revs.length cap)) hmx ?_
    refine held_take 0 (.bool true) rfl (by kernel_rfl) (by kernel_rfl) (by kernel_rfl) (fun _ _ _ h => h) (.inl ⟨by kernel_rfl, fun w' hw' => by go_simp⟩) HS.out ?_
    go_simp
    refine held_take 1 (.bool true) rfl (by kernel_rfl) (by kernel_rfl) (by kernel_rfl) (fun _ _ _ h => h) (.inl ⟨by kernel_rfl, fun w' hw' => by go_simp⟩) HS.out ?_
    go_simp
    refine held_take 2 (.bool false) rfl (by kernel_rfl) (by kernel_rfl) (by kernel_rfl) (fun _ _ _ h => h) (.inl ⟨by kernel_rfl, fun w' hw' => by go_simp⟩) HS.out ?_
    go_simp
    refine held_take 3 (.bool false) rfl (by kernel_rfl) (by kernel_rfl) (by kernel_rfl) (fun _ _ _ h => h) (.inl ⟨by kernel_rfl, fun w' hw' => by go_simp⟩) HS.out ?_
    go_simp
    refine held_take 4 (.bool false) rfl (by kernel_rfl) (by kernel_rfl) (by kernel_rfl) (fun _ _ _ h => h) (.inl ⟨by kernel_rfl, fun w' hw' => by go_simp⟩) HS.out ?_
    go_simp
    refine held_take 5 undef rfl (by kernel_rfl) (by kernel_rfl) (by kernel_rfl) (fun _ _ _ h => h) (.inr ⟨by kernel_rfl, rfl⟩) HS.out ?_
    go_simp
    refine held_take 6 undef rfl (by kernel_rfl) (by kernel_rfl) (by kernel_rfl) (fun _ _ _ h => h) (.inr ⟨by kernel_rfl, rfl⟩) HS.out ?_
    go_simp
    refine held_take 7 undef rfl (by kernel_rfl) (by kernel_rfl) (by kernel_rfl) (fun _ _ _ h => h) (.inr ⟨by kernel_rfl, rfl⟩) HS.out ?_
    go_simp
    refine held_take 8 undef rfl (by kernel_rfl) (by kernel_rfl) (by kernel_rfl) (fun _ _ _ h => h) (.inr ⟨by kernel_rfl, rfl⟩) HS.out ?_
    go_simp
    refine held_take 9 undef rfl (by kernel_rfl) (by kernel_rfl) (by kernel_rfl) (fun _ _ _ h => h) (.inr ⟨by kernel_rfl, rfl⟩) HS.out ?_
    go_simp
    refine held_take 10 (.bool false) rfl (by kernel_rfl) (by kernel_rfl) (by kernel_rfl) (fun _ _ _ h => h) (.inl ⟨by kernel_rfl, fun w' hw' => by go_simp⟩) HS.out ?_
    go_simp
    refine held_take 11 (.bool false) rfl (by kernel_rfl) (by kernel_rfl) (by kernel_rfl) (fun _ _ _ h => h) (.inl ⟨by kernel_rfl, fun w' hw' => by go_simp⟩) HS.out ?_
    go_simp
    refine held_take 12 undef rfl (by kernel_rfl) (by kernel_rfl) (by kernel_rfl) (fun _ _ _ h => h) (.inr ⟨by kernel_rfl, rfl⟩) HS.out ?_
    go_simp
    refine held_take 13 undef rfl (by kernel_rfl) (by kernel_rfl) (by kernel_rfl) (fun _ _ _ h => h) (.inr ⟨by kernel_rfl, rfl⟩) HS.out ?_
    go_simp
    refine held_take 14 undef rfl (by kernel_rfl) (by kernel_rfl) (by kernel_rfl) (fun _ _ _ h => h) (.inr ⟨by kernel_rfl, rfl⟩) HS.out ?_
    go_simp
    refine held_take 15 (.bool false) rfl (by kernel_rfl) (by kernel_rfl) (by kernel_rfl) (fun _ _ _ h => h) (.inl ⟨by kernel_rfl, fun w' hw' => by go_simp⟩) HS.out ?_
    go_simp
    refine held_take 16 (.bool false) rfl (by kernel_rfl) (by kernel_rfl) (by kernel_rfl) (fun _ _ _ h => h) (.inl ⟨by kernel_rfl, fun w' hw' => by go_simp⟩) HS.out ?_
    go_simp
    refine held_take 17 undef rfl (by kernel_rfl) (by kernel_rfl) (by kernel_rfl) (fun _ _ _ h => h) (.inr ⟨by kernel_rfl, rfl⟩) HS.out ?_
    go_simp
    refine held_take 19 undef rfl (by kernel_rfl) (by kernel_rfl) (by kernel_rfl) (fun _ _ _ h => h) (.inr ⟨by kernel_rfl, rfl⟩) HS.out ?_
    go_simp
    refine held_take 20 undef rfl (by kernel_rfl) (by kernel_rfl) (by kernel_rfl) (fun _ _ _ h => h) (.inr ⟨by kernel_rfl, rfl⟩) HS.out ?_
    go_simp
    refine held_take 21 undef rfl (by kernel_rfl) (by kernel_rfl) (by kernel_rfl) (fun _ _ _ h => h) (.inr ⟨by kernel_rfl, rfl⟩) HS.out ?_
    go_simp
    refine held_take 22 undef rfl (by kernel_rfl) (by kernel_rfl) (by kernel_rfl) (fun _ _ _ h => h) (.inr ⟨by kernel_rfl, rfl⟩) HS.out ?_
    go_simp
    refine held_take 23 undef rfl (by kernel_rfl) (by kernel_rfl) (by kernel_rfl) (fun _ _ _ h => h) (.inr ⟨by kernel_rfl, rfl⟩) HS.out ?_
    go_simp
    refine held_take 18 undef rfl (by kernel_rfl) (by kernel_rfl) (by kernel_rfl) (fun _ _ _ h => h) (.inr ⟨by kernel_rfl, rfl⟩) HS.out ?_
    go_simp
    refine held_take 24 undef rfl (by kernel_rfl) (by kernel_rfl) (by kernel_rfl) (fun _ _ _ h => h) (.inr ⟨by kernel_rfl, rfl⟩) HS.out ?_
    go_simp
    refine held_take 25 (.bool false) rfl (by kernel_rfl) (by kernel_rfl) (by kernel_rfl) (fun _ _ _ h => h) (.inl ⟨by kernel_rfl, fun w' hw' => by go_simp⟩) HS.out ?_
    go_simp
    refine held_take 26 (.bool false) rfl (by kernel_rfl) (by kernel_rfl) (by kernel_rfl) (fun _ _ _ h => h) (.inl ⟨by kernel_rfl, fun w' hw' => by go_simp⟩) HS.out ?_
    go_simp
    refine held_done (by kernel_rfl) (NoPanic.normal ?_)
    have HF : Hid (Chg 0 0 w w3.drew) := HS.out.2.2
    clear hN
    go_wp2
    go_ret
    exact ⟨by rw [Ht.out]; rfl, HF.out⟩
  by_cases hsq : sq = t.seq
  case neg =>
    have Ht : Hid (takesB sz st sq hd us t = false) := by show _ = _; unfold takesB; rw [hvl, hvt, decide_eq_false hsq]; rfl
    rw [hvl, hvt]
    clear hvl hvt
    go_wp2
    refine held_region (TkS w sz st sq hd us t.seq (.slice po t.homes.length pcap) (.slice ao t.revs.length cap)) hmx ?_
    refine held_take 0 (.bool true) rfl (by kernel_rfl) (by kernel_rfl) (by kernel_rfl) (fun _ _ _ h => h) (.inl ⟨by kernel_rfl, fun w' hw' => by go_simp⟩) HS.out ?_
    go_simp
    refine held_take 1 (.bool true) rfl (by kernel_rfl) (by kernel_rfl) (by kernel_rfl) (fun _ _ _ h => h) (.inl ⟨by kernel_rfl, fun w' hw' => by go_simp⟩) HS.out ?_
    go_simp
    refine held_take 2 (.bool true) rfl (by kernel_rfl) (by kernel_rfl) (by kernel_rfl) (fun _ _ _ h => h) (.inl ⟨by kernel_rfl, fun w' hw' => by go_simp⟩) HS.out ?_
    go_simp
    refine held_take 3 (.bool true) rfl (by kernel_rfl) (by kernel_rfl) (by kernel_rfl) (fun _ _ _ h => h) (.inl ⟨by kernel_rfl, fun w' hw' => by go_simp⟩) HS.out ?_
    go_simp
    refine held_take 4 (.bool true) rfl (by kernel_rfl) (by kernel_rfl) (by kernel_rfl) (fun _ _ _ h => h) (.inl ⟨by kernel_rfl, fun w' hw' => by go_simp⟩) HS.out ?_
    go_simp
    refine held_take 5 (.pointer (some ⟨w.heap.size, 2, none⟩)) rfl (by kernel_rfl) (by kernel_rfl) (by kernel_rfl) (fun _ _ _ h => h) (.inl ⟨by kernel_rfl, fun w' hw' => by go_simp⟩) HS.out ?_
    go_simp
    refine held_take 6 (.int .i64 sq) rfl (by kernel_rfl) (by kernel_rfl) (by kernel_rfl) (fun _ _ _ h => h) (.inl ⟨by kernel_rfl, fun w' hw' => by obtain ⟨x0, x1, x2, x3, x4⟩ := five_cells hw'.1; obtain ⟨⟨k0, k1, k2⟩, _⟩ := tri hw'.2.1; go_simp⟩) HS.out ?_
    go_simp
    refine held_take 7 (.pointer (some ⟨w.heap.size + 1, 0, none⟩)) rfl (by kernel_rfl) (by kernel_rfl) (by kernel_rfl) (fun _ _ _ h => h) (.inl ⟨by kernel_rfl, fun w' hw' => by go_simp⟩) HS.out ?_
    go_simp
    refine held_take 8 (.int .i64 t.seq) rfl (by kernel_rfl) (by kernel_rfl) (by kernel_rfl) (fun _ _ _ h => h) (.inl ⟨by kernel_rfl, fun w' hw' => by obtain ⟨x0, x1, x2, x3, x4⟩ := five_cells hw'.1; obtain ⟨⟨k0, k1, k2⟩, _⟩ := tri hw'.2.1; go_simp⟩) HS.out ?_
    go_simp
    refine held_take 9 (.bool false) rfl (by kernel_rfl) (by kernel_rfl) (by kernel_rfl) (fun _ _ _ h => h) (.inl ⟨by kernel_rfl, fun w' hw' => by go_simp⟩) HS.out ?_
    go_simp
    refine held_take 10 (.bool false) rfl (by kernel_rfl) (by kernel_rfl) (by kernel_rfl) (fun _ _ _ h => h) (.inl ⟨by kernel_rfl, fun w' hw' => by go_simp⟩) HS.out ?_
    go_simp
    refine held_take 11 (.bool false) rfl (by kernel_rfl) (by kernel_rfl) (by kernel_rfl) (fun _ _ _ h => h) (.inl ⟨by kernel_rfl, fun w' hw' => by go_simp⟩) HS.out ?_
    go_simp
    refine held_take 12 undef rfl (by kernel_rfl) (by kernel_rfl) (by kernel_rfl) (fun _ _ _ h => h) (.inr ⟨by kernel_rfl, rfl⟩) HS.out ?_
    go_simp
    refine held_take 13 undef rfl (by kernel_rfl) (by kernel_rfl) (by kernel_rfl) (fun _ _ _ h => h) (.inr ⟨by kernel_rfl, rfl⟩) HS.out ?_
    go_simp
    refine held_take 14 undef rfl (by kernel_rfl) (by kernel_rfl) (by kernel_rfl) (fun _ _ _ h => h) (.inr ⟨by kernel_rfl, rfl⟩) HS.out ?_
    go_simp
    refine held_take 15 (.bool false) rfl (by kernel_rfl) (by kernel_rfl) (by kernel_rfl) (fun _ _ _ h => h) (.inl ⟨by kernel_rfl, fun w' hw' => by go_simp⟩) HS.out ?_
    go_simp
    refine held_take 16 (.bool false) rfl (by kernel_rfl) (by kernel_rfl) (by kernel_rfl) (fun _ _ _ h => h) (.inl ⟨by kernel_rfl, fun w' hw' => by go_simp⟩) HS.out ?_
    go_simp
    refine held_take 17 undef rfl (by kernel_rfl) (by kernel_rfl) (by kernel_rfl) (fun _ _ _ h => h) (.inr ⟨by kernel_rfl, rfl⟩) HS.out ?_
    go_simp
    refine held_take 19 undef rfl (by kernel_rfl) (by kernel_rfl) (by kernel_rfl) (fun _ _ _ h => h) (.inr ⟨by kernel_rfl, rfl⟩) HS.out ?_
    go_simp
    refine held_take 20 undef rfl (by kernel_rfl) (by kernel_rfl) (by kernel_rfl) (fun _ _ _ h => h) (.inr ⟨by kernel_rfl, rfl⟩) HS.out ?_
    go_simp
    refine held_take 21 undef rfl (by kernel_rfl) (by kernel_rfl) (by kernel_rfl) (fun _ _ _ h => h) (.inr ⟨by kernel_rfl, rfl⟩) HS.out ?_
    go_simp
    refine held_take 22 undef rfl (by kernel_rfl) (by kernel_rfl) (by kernel_rfl) (fun _ _ _ h => h) (.inr ⟨by kernel_rfl, rfl⟩) HS.out ?_
    go_simp
    refine held_take 23 undef rfl (by kernel_rfl) (by kernel_rfl) (by kernel_rfl) (fun _ _ _ h => h) (.inr ⟨by kernel_rfl, rfl⟩) HS.out ?_
    go_simp
    refine held_take 18 undef rfl (by kernel_rfl) (by kernel_rfl) (by kernel_rfl) (fun _ _ _ h => h) (.inr ⟨by kernel_rfl, rfl⟩) HS.out ?_
    go_simp
    refine held_take 24 undef rfl (by kernel_rfl) (by kernel_rfl) (by kernel_rfl) (fun _ _ _ h => h) (.inr ⟨by kernel_rfl, rfl⟩) HS.out ?_
    go_simp
    refine held_take 25 (.bool false) rfl (by kernel_rfl) (by kernel_rfl) (by kernel_rfl) (fun _ _ _ h => h) (.inl ⟨by kernel_rfl, fun w' hw' => by go_simp⟩) HS.out ?_
    go_simp
    refine held_take 26 (.bool false) rfl (by kernel_rfl) (by kernel_rfl) (by kernel_rfl) (fun _ _ _ h => h) (.inl ⟨by kernel_rfl, fun w' hw' => by go_simp⟩) HS.out ?_
    go_simp
    refine held_done (by kernel_rfl) (NoPanic.normal ?_)
    have HF : Hid (Chg 0 0 w w3.drew) := HS.out.2.2
    clear hN
    go_wp2
    go_ret
    exact ⟨by rw [Ht.out]; rfl, HF.out⟩
  subst hsq
  by_cases hlt : t.seq < 4294967295
  case neg =>
    have Ht : Hid (takesB sz st t.seq hd us t = false) := by show _ = _; unfold takesB; rw [hvl, hvt, decide_eq_true (rfl : t.seq = t.seq), decide_eq_false hlt]; rfl
    rw [hvl, hvt]
    clear hvl hvt
    go_wp2
    refine held_region (TkS w sz st t.seq hd us t.seq (.slice po t.homes.length pcap) (.slice ao t.revs.length cap)) hmx ?_
    refine held_take 0 (.bool true) rfl (by kernel_rfl) (by kernel_rfl) (by kernel_rfl) (fun _ _ _ h => h) (.inl ⟨by kernel_rfl, fun w' hw' => by go_simp⟩) HS.out ?_
    go_simp
    refine held_take 1 (.bool true) rfl (by kernel_rfl) (by kernel_rfl) (by kernel_rfl) (fun _ _ _ h => h) (.inl ⟨by kernel_rfl, fun w' hw' => by go_simp⟩) HS.out ?_
    go_simp
    refine held_take 2 (.bool true) rfl (by kernel_rfl) (by kernel_rfl) (by kernel_rfl) (fun _ _ _ h => h) (.inl ⟨by kernel_rfl, fun w' hw' => by go_simp⟩) HS.out ?_
    go_simp
    refine held_take 3 (.bool true) rfl (by kernel_rfl) (by kernel_rfl) (by kernel_rfl) (fun _ _ _ h => h) (.inl ⟨by kernel_rfl, fun w' hw' => by go_simp⟩) HS.out ?_
    go_simp
    refine held_take 4 (.bool true) rfl (by kernel_rfl) (by kernel_rfl) (by kernel_rfl) (fun _ _ _ h => h) (.inl ⟨by kernel_rfl, fun w' hw' => by go_simp⟩) HS.out ?_
    go_simp
    refine held_take 5 (.pointer (some ⟨w.heap.size, 2, none⟩)) rfl (by kernel_rfl) (by kernel_rfl) (by kernel_rfl) (fun _ _ _ h => h) (.inl ⟨by kernel_rfl, fun w' hw' => by go_simp⟩) HS.out ?_
    go_simp
    refine held_take 6 (.int .i64 t.seq) rfl (by kernel_rfl) (by kernel_rfl) (by kernel_rfl) (fun _ _ _ h => h) (.inl ⟨by kernel_rfl, fun w' hw' => by obtain ⟨x0, x1, x2, x3, x4⟩ := five_cells hw'.1; obtain ⟨⟨k0, k1, k2⟩, _⟩ := tri hw'.2.1; go_simp⟩) HS.out ?_
    go_simp
    refine held_take 7 (.pointer (some ⟨w.heap.size + 1, 0, none⟩)) rfl (by kernel_rfl) (by kernel_rfl) (by kernel_rfl) (fun _ _ _ h => h) (.inl ⟨by kernel_rfl, fun w' hw' => by go_simp⟩) HS.out ?_
    go_simp
    refine held_take 8 (.int .i64 t.seq) rfl (by kernel_rfl) (by kernel_rfl) (by kernel_rfl) (fun _ _ _ h => h) (.inl ⟨by kernel_rfl, fun w' hw' => by obtain ⟨x0, x1, x2, x3, x4⟩ := five_cells hw'.1; obtain ⟨⟨k0, k1, k2⟩, _⟩ := tri hw'.2.1; go_simp⟩) HS.out ?_
    go_simp
    refine held_take 9 (.bool true) rfl (by kernel_rfl) (by kernel_rfl) (by kernel_rfl) (fun _ _ _ h => h) (.inl ⟨by kernel_rfl, fun w' hw' => by go_simp⟩) HS.out ?_
    go_simp
    refine held_take 10 (.bool true) rfl (by kernel_rfl) (by kernel_rfl) (by kernel_rfl) (fun _ _ _ h => h) (.inl ⟨by kernel_rfl, fun w' hw' => by go_simp⟩) HS.out ?_
    go_simp
    refine held_take 11 (.bool true) rfl (by kernel_rfl) (by kernel_rfl) (by kernel_rfl) (fun _ _ _ h => h) (.inl ⟨by kernel_rfl, fun w' hw' => by go_simp⟩) HS.out ?_
    go_simp
    refine held_take 12 (.pointer (some ⟨w.heap.size, 2, none⟩)) rfl (by kernel_rfl) (by kernel_rfl) (by kernel_rfl) (fun _ _ _ h => h) (.inl ⟨by kernel_rfl, fun w' hw' => by go_simp⟩) HS.out ?_
    go_simp
    refine held_take 13 (.int .i64 t.seq) rfl (by kernel_rfl) (by kernel_rfl) (by kernel_rfl) (fun _ _ _ h => h) (.inl ⟨by kernel_rfl, fun w' hw' => by obtain ⟨x0, x1, x2, x3, x4⟩ := five_cells hw'.1; obtain ⟨⟨k0, k1, k2⟩, _⟩ := tri hw'.2.1; go_simp⟩) HS.out ?_
    go_simp
    refine held_take 14 (.bool false) rfl (by kernel_rfl) (by kernel_rfl) (by kernel_rfl) (fun _ _ _ h => h) (.inl ⟨by kernel_rfl, fun w' hw' => by go_simp⟩) HS.out ?_
    go_simp
    refine held_take 15 (.bool false) rfl (by kernel_rfl) (by kernel_rfl) (by kernel_rfl) (fun _ _ _ h => h) (.inl ⟨by kernel_rfl, fun w' hw' => by go_simp⟩) HS.out ?_
    go_simp
    refine held_take 16 (.bool false) rfl (by kernel_rfl) (by kernel_rfl) (by kernel_rfl) (fun _ _ _ h => h) (.inl ⟨by kernel_rfl, fun w' hw' => by go_simp⟩) HS.out ?_
    go_simp
    refine held_take 17 undef rfl (by kernel_rfl) (by kernel_rfl) (by kernel_rfl) (fun _ _ _ h => h) (.inr ⟨by kernel_rfl, rfl⟩) HS.out ?_
    go_simp
    refine held_take 19 undef rfl (by kernel_rfl) (by kernel_rfl) (by kernel_rfl) (fun _ _ _ h => h) (.inr ⟨by kernel_rfl, rfl⟩) HS.out ?_
    go_simp
    refine held_take 20 undef rfl (by kernel_rfl) (by kernel_rfl) (by kernel_rfl) (fun _ _ _ h => h) (.inr ⟨by kernel_rfl, rfl⟩) HS.out ?_
    go_simp
    refine held_take 21 undef rfl (by kernel_rfl) (by kernel_rfl) (by kernel_rfl) (fun _ _ _ h => h) (.inr ⟨by kernel_rfl, rfl⟩) HS.out ?_
    go_simp
    refine held_take 22 undef rfl (by kernel_rfl) (by kernel_rfl) (by kernel_rfl) (fun _ _ _ h => h) (.inr ⟨by kernel_rfl, rfl⟩) HS.out ?_
    go_simp
    refine held_take 23 undef rfl (by kernel_rfl) (by kernel_rfl) (by kernel_rfl) (fun _ _ _ h => h) (.inr ⟨by kernel_rfl, rfl⟩) HS.out ?_
    go_simp
    refine held_take 18 undef rfl (by kernel_rfl) (by kernel_rfl) (by kernel_rfl) (fun _ _ _ h => h) (.inr ⟨by kernel_rfl, rfl⟩) HS.out ?_
    go_simp
    refine held_take 24 undef rfl (by kernel_rfl) (by kernel_rfl) (by kernel_rfl) (fun _ _ _ h => h) (.inr ⟨by kernel_rfl, rfl⟩) HS.out ?_
    go_simp
    refine held_take 25 (.bool false) rfl (by kernel_rfl) (by kernel_rfl) (by kernel_rfl) (fun _ _ _ h => h) (.inl ⟨by kernel_rfl, fun w' hw' => by go_simp⟩) HS.out ?_
    go_simp
    refine held_take 26 (.bool false) rfl (by kernel_rfl) (by kernel_rfl) (by kernel_rfl) (fun _ _ _ h => h) (.inl ⟨by kernel_rfl, fun w' hw' => by go_simp⟩) HS.out ?_
    go_simp
    refine held_done (by kernel_rfl) (NoPanic.normal ?_)
    have HF : Hid (Chg 0 0 w w3.drew) := HS.out.2.2
    clear hN
    go_wp2
    go_ret
    exact ⟨by rw [Ht.out]; rfl, HF.out⟩
  have Ht : Hid (takesB sz st t.seq hd us t = decide (tn ≤ sz - us)) := by show _ = _; unfold takesB; rw [hvl, hvt, decide_eq_true (rfl : t.seq = t.seq), decide_eq_true hlt, Htn.out]; rfl
  rw [hvl, hvt]
  unfold InLog at hIn
  have hwr : IntKind.i64.wrap (sz - us) = sz - us := by rw [IntKind.wrap_i64]; omega
  clear hvl hvt
  go_wp2
  refine held_region (TkS w sz st t.seq hd us t.seq (.slice po t.homes.length pcap) (.slice ao t.revs.length cap)) hmx ?_
  refine held_take 0 (.bool true) rfl (by kernel_rfl) (by kernel_rfl) (by kernel_rfl) (fun _ _ _ h => h) (.inl ⟨by kernel_rfl, fun w' hw' => by go_simp⟩) HS.out ?_
  go_simp
  refine held_take 1 (.bool true) rfl (by kernel_rfl) (by kernel_rfl) (by kernel_rfl) (fun _ _ _ h => h) (.inl ⟨by kernel_rfl, fun w' hw' => by go_simp⟩) HS.out ?_
  go_simp
  refine held_take 2 (.bool true) rfl (by kernel_rfl) (by kernel_rfl) (by kernel_rfl) (fun _ _ _ h => h) (.inl ⟨by kernel_rfl, fun w' hw' => by go_simp⟩) HS.out ?_
  go_simp
  refine held_take 3 (.bool true) rfl (by kernel_rfl) (by kernel_rfl) (by kernel_rfl) (fun _ _ _ h => h) (.inl ⟨by kernel_rfl, fun w' hw' => by go_simp⟩) HS.out ?_
  go_simp
  refine held_take 4 (.bool true) rfl (by kernel_rfl) (by kernel_rfl) (by kernel_rfl) (fun _ _ _ h => h) (.inl ⟨by kernel_rfl, fun w' hw' => by go_simp⟩) HS.out ?_
  go_simp
  refine held_take 5 (.pointer (some ⟨w.heap.size, 2, none⟩)) rfl (by kernel_rfl) (by kernel_rfl) (by kernel_rfl) (fun _ _ _ h => h) (.inl ⟨by kernel_rfl, fun w' hw' => by go_simp⟩) HS.out ?_
  go_simp
  refine held_take 6 (.int .i64 t.seq) rfl (by kernel_rfl) (by kernel_rfl) (by kernel_rfl) (fun _ _ _ h => h) (.inl ⟨by kernel_rfl, fun w' hw' => by obtain ⟨x0, x1, x2, x3, x4⟩ := five_cells hw'.1; obtain ⟨⟨k0, k1, k2⟩, _⟩ := tri hw'.2.1; go_simp⟩) HS.out ?_
  go_simp
  refine held_take 7 (.pointer (some ⟨w.heap.size + 1, 0, none⟩)) rfl (by kernel_rfl) (by kernel_rfl) (by kernel_rfl) (fun _ _ _ h => h) (.inl ⟨by kernel_rfl, fun w' hw' => by go_simp⟩) HS.out ?_
  go_simp
  refine held_take 8 (.int .i64 t.seq) rfl (by kernel_rfl) (by kernel_rfl) (by kernel_rfl) (fun _ _ _ h => h) (.inl ⟨by kernel_rfl, fun w' hw' => by obtain ⟨x0, x1, x2, x3, x4⟩ := five_cells hw'.1; obtain ⟨⟨k0, k1, k2⟩, _⟩ := tri hw'.2.1; go_simp⟩) HS.out ?_
  go_simp
  refine held_take 9 (.bool true) rfl (by kernel_rfl) (by kernel_rfl) (by kernel_rfl) (fun _ _ _ h => h) (.inl ⟨by kernel_rfl, fun w' hw' => by go_simp⟩) HS.out ?_
  go_simp
  refine held_take 10 (.bool true) rfl (by kernel_rfl) (by kernel_rfl) (by kernel_rfl) (fun _ _ _ h => h) (.inl ⟨by kernel_rfl, fun w' hw' => by go_simp⟩) HS.out ?_
  go_simp
  refine held_take 11 (.bool true) rfl (by kernel_rfl) (by kernel_rfl) (by kernel_rfl) (fun _ _ _ h => h) (.inl ⟨by kernel_rfl, fun w' hw' => by go_simp⟩) HS.out ?_
  go_simp
  refine held_take 12 (.pointer (some ⟨w.heap.size, 2, none⟩)) rfl (by kernel_rfl) (by kernel_rfl) (by kernel_rfl) (fun _ _ _ h => h) (.inl ⟨by kernel_rfl, fun w' hw' => by go_simp⟩) HS.out ?_
  go_simp
  refine held_take 13 (.int .i64 t.seq) rfl (by kernel_rfl) (by kernel_rfl) (by kernel_rfl) (fun _ _ _ h => h) (.inl ⟨by kernel_rfl, fun w' hw' => by obtain ⟨x0, x1, x2, x3, x4⟩ := five_cells hw'.1; obtain ⟨⟨k0, k1, k2⟩, _⟩ := tri hw'.2.1; go_simp⟩) HS.out ?_
  go_simp
  refine held_take 14 (.bool true) rfl (by kernel_rfl) (by kernel_rfl) (by kernel_rfl) (fun _ _ _ h => h) (.inl ⟨by kernel_rfl, fun w' hw' => by go_simp⟩) HS.out ?_
  go_simp
  refine held_take 15 (.bool true) rfl (by kernel_rfl) (by kernel_rfl) (by kernel_rfl) (fun _ _ _ h => h) (.inl ⟨by kernel_rfl, fun w' hw' => by go_simp⟩) HS.out ?_
  go_simp
  refine held_take 16 (.bool true) rfl (by kernel_rfl) (by kernel_rfl) (by kernel_rfl) (fun _ _ _ h => h) (.inl ⟨by kernel_rfl, fun w' hw' => by go_simp⟩) HS.out ?_
  go_simp
  refine held_take 17 (.agg #[.int .i64 t.seq, .slice po t.homes.length pcap, .slice ao t.revs.length cap]) rfl (by kernel_rfl) (by kernel_rfl) (by kernel_rfl) (fun _ _ _ h => h) (.inl ⟨by kernel_rfl, fun w' hw' => by obtain ⟨x0, x1, x2, x3, x4⟩ := five_cells hw'.1; obtain ⟨⟨k0, k1, k2⟩, _⟩ := tri hw'.2.1; go_simp⟩) HS.out ?_
  go_simp
  refine held_take 19 (.pointer (some ⟨w.heap.size, 0, none⟩)) rfl (by kernel_rfl) (by kernel_rfl) (by kernel_rfl) (fun _ _ _ h => h) (.inl ⟨by kernel_rfl, fun w' hw' => by go_simp⟩) HS.out ?_
  go_simp
  refine held_take 20 (.int .i64 sz) rfl (by kernel_rfl) (by kernel_rfl) (by kernel_rfl) (fun _ _ _ h => h) (.inl ⟨by kernel_rfl, fun w' hw' => by obtain ⟨x0, x1, x2, x3, x4⟩ := five_cells hw'.1; obtain ⟨⟨k0, k1, k2⟩, _⟩ := tri hw'.2.1; go_simp⟩) HS.out ?_
  go_simp
  refine held_take 21 (.pointer (some ⟨w.heap.size, 4, none⟩)) rfl (by kernel_rfl) (by kernel_rfl) (by kernel_rfl) (fun _ _ _ h => h) (.inl ⟨by kernel_rfl, fun w' hw' => by go_simp⟩) HS.out ?_
  go_simp
  refine held_take 22 (.int .i64 us) rfl (by kernel_rfl) (by kernel_rfl) (by kernel_rfl) (fun _ _ _ h => h) (.inl ⟨by kernel_rfl, fun w' hw' => by obtain ⟨x0, x1, x2, x3, x4⟩ := five_cells hw'.1; obtain ⟨⟨k0, k1, k2⟩, _⟩ := tri hw'.2.1; go_simp⟩) HS.out ?_
  go_simp
  refine held_take 23 (.int .i64 (sz - us)) rfl (by kernel_rfl) (by kernel_rfl) (by kernel_rfl) (fun _ _ _ h => h) (.inl ⟨by kernel_rfl, fun w' hw' => by go_simp⟩) HS.out ?_
  go_simp
  refine held_oneG 18 rfl (by kernel_rfl) (by kernel_rfl) ?_
  refine wp_enter 38 #[.agg #[.int .i64 t.seq, .slice po t.homes.length pcap, .slice ao t.revs.length cap]] (by first | kernel_rfl | go_simp) (hN _ HS.out.2.2) ?_
  rintro e w4 ⟨rfl, c4⟩
  have HS4 : Hid (TkS w sz st t.seq hd us t.seq (.slice po t.homes.length pcap) (.slice ao t.revs.length cap) w4) := HS.out.keep c4
  refine ⟨_, rfl, HS4.out, ?_⟩
  go_simp
  refine held_take 24 (.bool (decide (tn ≤ sz - us))) rfl (by kernel_rfl) (by kernel_rfl) (by kernel_rfl) (fun _ _ _ h => h) (.inl ⟨by kernel_rfl, fun w' hw' => by go_simp⟩) HS4.out ?_
  go_simp
  refine held_take 25 (.bool (decide (tn ≤ sz - us))) rfl (by kernel_rfl) (by kernel_rfl) (by kernel_rfl) (fun _ _ _ h => h) (.inl ⟨by kernel_rfl, fun w' hw' => by go_simp⟩) HS4.out ?_
  go_simp
  refine held_take 26 (.bool (decide (tn ≤ sz - us))) rfl (by kernel_rfl) (by kernel_rfl) (by kernel_rfl) (fun _ _ _ h => h) (.inl ⟨by kernel_rfl, fun w' hw' => by go_simp⟩) HS4.out ?_
  go_simp
  refine held_done (by kernel_rfl) (NoPanic.normal ?_)
  have HF : Hid (Chg 0 0 w w4) := HS4.out.2.2
  clear hN
  go_wp2
  go_ret
  exact ⟨by rw [Ht.out]; rfl, HF.out⟩

end Go.Proofs.YtahjaejepkgfdaaGreatDoor
