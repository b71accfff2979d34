/- Escape of the model. -/
import Derived.Test.YtahjaejepkgfdaaGreatDoorImplEsc
namespace Go.Proofs.YtahjaejepkgfdaaGreatDoor
open Go.RowKit

set_option maxRecDepth 20000 in
set_option maxHeartbeats 4000000 in
theorem specEscape_calls (w : World) {lo hi : Nat} {a : Value} {xs : List Int} (hB : Byt xs) (h1 : View w lo hi .u8 a xs) (hhi : hi ≤ w.heap.size) (hl : xs.length ≤ 1048576) :
    Calls Tryz.prog 66 #[a] w fun e w' => ∃ v, e = .returned (.agg #[.bool (escG xs), v, .bool (escE xs)]) ∧ OwnB w' w.heap.size 5 v (escD xs) ∧ Chg 0 0 w w' := by
  have C0 : Chg 0 0 w (w.alloc (.cells #[.bool false, .slice none 0 0, .bool false] 127)) := Chg.alloc (Chg.refl 0 0 w) _
  have HR0 : Hid ((w.alloc (.cells #[.bool false, .slice none 0 0, .bool false] 127)).heap[w.heap.size]? = some (.cells #[.bool false, .slice none 0 0, .bool false] 127 (0, 0))) := heap_new _ _
  have HC0 : Hid (Chg 0 0 w (w.alloc (.cells #[.bool false, .slice none 0 0, .bool false] 127))) := C0
  have v0 := h1.chg C0 (by omega)
  obtain ⟨ao, cap, rfl, hl0, _, _⟩ := h1
  -- what is told at the end
  have fin : ∀ (w7 : World) (g e : Bool) (dv : Value) (us : List Int), w7.heap[w.heap.size]? = some (.cells #[.bool false, .slice none 0 0, .bool false] 127 (0, 0)) → Chg 0 0 w w7 → OwnB w7 (w.heap.size + 1) 5 dv us →
      Chg 0 0 w (((w7.setCell ⟨w.heap.size, 0, none⟩ (.bool g)).setCell ⟨w.heap.size, 1, none⟩ dv).setCell ⟨w.heap.size, 2, none⟩ (.bool e)) ∧ OwnB (((w7.setCell ⟨w.heap.size, 0, none⟩ (.bool g)).setCell ⟨w.heap.size, 1, none⟩ dv).setCell ⟨w.heap.size, 2, none⟩ (.bool e)) w.heap.size 5 dv us := by
    intro w7 g e dv us hb hc ho
    have hne : dv.ownBlock ≠ some w.heap.size := fun h => by have := (ho.lt _ h).1; omega
    refine ⟨((hc.setCell (p := ⟨w.heap.size, 0, none⟩) (Or.inr (Nat.le_refl _)) _).setCell (p := ⟨w.heap.size, 1, none⟩) (Or.inr (Nat.le_refl _)) _).setCell (p := ⟨w.heap.size, 2, none⟩) (Or.inr (Nat.le_refl _)) _, ?_⟩
    have h2 := ho.base (base' := w.heap.size) (fun g' hg' => by have := (ho.lt g' hg').1; omega)
    exact ((h2.set (p := ⟨w.heap.size, 0, none⟩) hne _).set (p := ⟨w.heap.size, 1, none⟩) hne _).set (p := ⟨w.heap.size, 2, none⟩) hne _
  have Hfin : Hid (∀ (w7 : World) (g e : Bool) (dv : Value) (us : List Int), w7.heap[w.heap.size]? = some (.cells #[.bool false, .slice none 0 0, .bool false] 127 (0, 0)) → Chg 0 0 w w7 → OwnB w7 (w.heap.size + 1) 5 dv us →
      Chg 0 0 w (((w7.setCell ⟨w.heap.size, 0, none⟩ (.bool g)).setCell ⟨w.heap.size, 1, none⟩ dv).setCell ⟨w.heap.size, 2, none⟩ (.bool e)) ∧ OwnB (((w7.setCell ⟨w.heap.size, 0, none⟩ (.bool g)).setCell ⟨w.heap.size, 1, none⟩ dv).setCell ⟨w.heap.size, 2, none⟩ (.bool e)) w.heap.size 5 dv us) := fin
  have s0 : (w.alloc (.cells #[.bool false, .slice none 0 0, .bool false] 127)).heap.size = w.heap.size + 1 := by simp
  clear fin C0
  by_cases hx : xs.length = 64
  · obtain ⟨xb, xo, rfl⟩ : ∃ xb xo, ao = some ⟨xb, xo, none⟩ := by
      obtain ⟨_, _, e, _, _, hcell⟩ := v0
      cases e
      rcases hcell with e | ⟨x, o, e, _, _, _⟩
      · rw [e] at hx; simp at hx
      · exact ⟨x, o, e⟩
    have hne : ((64 : Int) != 64) = false := by simp
    have Hx : Hid (xs.length = 64) := hx
    have HD : Hid (escD xs = escL xs ∧ escG xs = true ∧ escE xs = decide (xs.take 4 = mg)) := by
      refine ⟨by unfold escD; rw [if_pos hx], by unfold escG; rw [decide_eq_true hx], by unfold escE; rw [decide_eq_true hx]; rfl⟩
    have hcn : ¬ cap = 4 := by
      obtain ⟨_, _, e, _, ⟨hc, _⟩, _⟩ := v0
      rw [hx] at e hc
      cases e; omega
    have hc4 : 4 ≤ cap := by
      obtain ⟨_, _, e, _, ⟨hc, _⟩, _⟩ := v0
      rw [hx] at e hc
      cases e; omega
    rw [hx] at v0 ⊢
    have HV : Hid (View (w.alloc (.cells #[.bool false, .slice none 0 0, .bool false] 127)) lo hi .u8 (.slice (some ⟨xb, xo, none⟩) 64 cap) xs) := v0
    have HB : Hid (Byt xs) := hB
    have hN := l3Begins_calls _ hB v0
    have hb : beg xs = decide (xs.take 4 = mg) := by unfold beg; rw [decide_eq_true (by omega)]; rfl
    rw [hb] at hN
    by_cases hm : xs.take 4 = mg
    · have HEs : Hid (escL xs = List.replicate 4 0 ++ xs.drop 4 ∧ decide (xs.take 4 = mg) = true) := ⟨by unfold escL; rw [if_pos hm]; rfl, decide_eq_true hm⟩
      rw [decide_eq_true hm] at hN
      clear hb hm v0 hx hB
      go_enter Tryz.func66, Tryz.ntmps66
      go_wp2_with fail
      generalize w.alloc (.cells #[.bool false, .slice none 0 0, .bool false] 127) = wq at *
      refine hN.mono ?_
      rintro e w1 ⟨rfl, hc1⟩
      have s1 := hc1.size
      have HV60 : Hid (View w1 lo hi .u8 (.slice (some ⟨xb, xo + 4, none⟩) 60 (cap - 4)) (xs.drop 4)) := (HV.out.drop4 Hx.out).chg hc1 (by omega)
      have HR1 : Hid (w1.heap[w.heap.size]? = some (.cells #[.bool false, .slice none 0 0, .bool false] 127 (0, 0))) := (hc1.block w.heap.size (Array.getElem?_eq_some_iff.1 HR0.out).1 (by omega)).trans HR0.out
      have HC1 : Hid (Chg 0 0 w w1) := HC0.out.trans hc1
      have Hl60 : Hid ((xs.drop 4).length = 60) := by show _ = _; rw [List.length_drop, Hx.out]
      clear hN hc1
      go_upto_region 4 with fail
      go_cut [12] (fun s12 wx => ∃ (w7 : World), wx = ((w7.setCell ⟨w.heap.size, 0, none⟩ (.bool true)).setCell ⟨w.heap.size, 1, none⟩ s12).setCell ⟨w.heap.size, 2, none⟩ (.bool true) ∧ w7.heap[w.heap.size]? = some (.cells #[.bool false, .slice none 0 0, .bool false] 127 (0, 0)) ∧ Chg 0 0 w w7 ∧ OwnB w7 (w.heap.size + 1) 5 s12 (List.replicate 4 0 ++ xs.drop 4))
      case first =>
        have hsz : w1.drew.heap.size = w1.heap.size := rfl
        go_region_with (first
          | (go_at_call 64; refine (l2Zero_calls _ 4 (by omega)).mono ?_; rintro e w' ⟨g, rfl, ho, hc⟩)
          | (go_at_call 42; refine (l2Join_calls (xs := List.replicate 4 0) (ys := xs.drop 4) (lo' := lo) _ (by simp) (by rw [Hl60.out]; omega) (ho.view (hi := w'.heap.size) (by simp) (fun g hg => (ho.lt g hg).2)) ((HV60.out.chg ((Chg.drew (Chg.refl 0 0 w1)).trans hc) (by omega)).mono (Nat.le_refl _) (by have := hc.size; omega)) (by rw [Hl60.out]; omega)).mono ?_; rintro e w'' ⟨vj, rfl, oj, hj⟩
             have HCd : Hid (Chg 0 0 w1 w'') := ((Chg.drew (Chg.refl 0 0 w1)).trans hc).trans hj
             have HRj : Hid (w''.heap[w.heap.size]? = some (.cells #[.bool false, .slice none 0 0, .bool false] 127 (0, 0))) := (HCd.out.block w.heap.size (Array.getElem?_eq_some_iff.1 HR1.out).1 (by omega)).trans HR1.out
             have HOj : Hid (OwnB w'' (w.heap.size + 1) 5 vj (List.replicate 4 0 ++ xs.drop 4)) := oj.base (fun g hg => by have := (oj.lt g hg).1; have := hc.size; omega)
             obtain ⟨⟨r0, r1, r2⟩, rf0, rf1, rf2⟩ := three_all' HRj.out
             obtain ⟨e0, e1, e2, rfl⟩ := row_slice oj))
        all_goals (try go_wp2)
        all_goals (go_meet; exact ⟨w'', rfl, HRj.out, HC1.out.trans HCd.out, HOj.out⟩)
      case rest =>
        obtain ⟨w7, rfl, hb7, hc7, ho7⟩ := hcut
        obtain ⟨f1, f2⟩ := Hfin.out w7 true true u12 _ hb7 hc7 ho7
        obtain ⟨⟨r0, r1, r2⟩, rf0, rf1, rf2⟩ := three_all' hb7
        obtain ⟨e0, e1, e2, rfl⟩ := row_slice ho7
        have F1 : Hid _ := f1
        have F2 : Hid _ := f2
        clear hb7 hc7 ho7 f1 f2
        go_wp2
        rw [HD.out.1, HD.out.2.1, HD.out.2.2, HEs.out.1, HEs.out.2]
        exact bodyPost_ret (v := .agg #[.bool true, .slice e0 e1 e2, .bool true]) (by simp [results, Tryz.results66, go_sem, r0, r1, r2]) rfl ⟨_, rfl, F2.out, F1.out⟩
    · have HEs : Hid (escL xs = xs ∧ decide (xs.take 4 = mg) = false) := ⟨by unfold escL; rw [if_neg hm], decide_eq_false hm⟩
      rw [decide_eq_false hm] at hN
      clear hb hm v0 hx hB
      go_enter Tryz.func66, Tryz.ntmps66
      go_wp2_with fail
      generalize w.alloc (.cells #[.bool false, .slice none 0 0, .bool false] 127) = wq at *
      refine hN.mono ?_
      rintro e w1 ⟨rfl, hc1⟩
      have s1 := hc1.size
      have hN2 := l1Copy_calls w1 hl (HV.out.chg hc1 (by omega))
      have HR1 : Hid (w1.heap[w.heap.size]? = some (.cells #[.bool false, .slice none 0 0, .bool false] 127 (0, 0))) := (hc1.block w.heap.size (Array.getElem?_eq_some_iff.1 HR0.out).1 (by omega)).trans HR0.out
      have HC1 : Hid (Chg 0 0 w w1) := HC0.out.trans hc1
      clear hN hc1
      go_wp2_with fail
      refine hN2.mono ?_
      rintro e w2 ⟨v2, rfl, o2, hc2⟩
      have hb2 := (hc2.block w.heap.size (Array.getElem?_eq_some_iff.1 HR1.out).1 (by omega)).trans HR1.out
      obtain ⟨⟨r0, r1, r2⟩, rf0, rf1, rf2⟩ := three_all' hb2
      obtain ⟨f1, f2⟩ := Hfin.out w2 true false v2 xs hb2 (HC1.out.trans hc2) (o2.base (fun g hg => by have := (o2.lt g hg).1; omega))
      obtain ⟨e0, e1, e2, rfl⟩ := row_slice o2
      have F1 : Hid _ := f1
      have F2 : Hid _ := f2
      clear hN2 o2 hc2 hb2 f1 f2
      go_wp2
      rw [HD.out.1, HD.out.2.1, HD.out.2.2, HEs.out.1, HEs.out.2]
      exact bodyPost_ret (v := .agg #[.bool true, .slice e0 e1 e2, .bool false]) (by simp [results, Tryz.results66, go_sem, r0, r1, r2]) rfl ⟨_, rfl, F2.out, F1.out⟩
  · have HD : Hid (escD xs = [] ∧ escG xs = false ∧ escE xs = false) := by
      refine ⟨by unfold escD; rw [if_neg hx], by unfold escG; rw [decide_eq_false hx], by unfold escE; rw [decide_eq_false hx]; rfl⟩
    have hne : ((xs.length : Int) != 64) = true := by simp; omega
    obtain ⟨⟨r0, r1, r2⟩, rf0, rf1, rf2⟩ := three_all' HR0.out
    clear v0 hx
    go_enter Tryz.func66, Tryz.ntmps66
    go_wp2
    rw [HD.out.1, HD.out.2.1, HD.out.2.2]
    exact bodyPost_ret (v := .agg #[.bool false, .slice none 0 0, .bool false]) (by simp [results, Tryz.results66, go_sem, r0, r1, r2]) rfl ⟨_, rfl, OwnB.nothing _ _ _, HC0.out⟩

end Go.Proofs.YtahjaejepkgfdaaGreatDoor
