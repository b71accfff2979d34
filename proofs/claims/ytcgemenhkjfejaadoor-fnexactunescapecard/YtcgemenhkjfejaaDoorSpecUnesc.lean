/- Unescape of the model. -/
import Derived.Test.YtcgemenhkjfejaaDoorSpecBeg
import Derived.Test.YtcgemenhkjfejaaDoorJoin2
import Derived.Test.YtcgemenhkjfejaaDoorImplUnesc
import Derived.Deep.RegionWith
import Derived.Deep.DeepCutAuto
namespace Go.Proofs.YtcgemenhkjfejaaDoor
open Go.RowKit

theorem View.drop4 {w : World} {lo hi b off cap : Nat} {xs : List Int} (h : View w lo hi .u8 (.slice (some ⟨b, off, none⟩) 64 cap) xs) (hx : xs.length = 64) : View w lo hi .u8 (.slice (some ⟨b, off + 4, none⟩) 60 (cap - 4)) (xs.drop 4) := by
  obtain ⟨_, _, e, _, ⟨hc, _⟩, h⟩ := h
  rw [hx] at e
  cases e
  have hlen : (xs.drop 4).length = 60 := by rw [List.length_drop, hx]
  refine ⟨_, _, by rw [hlen], by rw [hlen]; omega, ⟨by rw [hlen]; omega, by simp⟩, ?_⟩
  rcases h with h | ⟨b', off', ha, h1, h2, h3⟩
  · rw [h] at hx; simp at hx
  · cases ha
    refine Or.inr ⟨b, off + 4, rfl, h1, h2, fun i hi => ?_⟩
    rw [hlen] at hi
    have := h3 (4 + i) (by omega)
    rw [Nat.add_assoc, this]
    simp [List.getD_eq_getElem?_getD, List.getElem?_drop]

set_option maxRecDepth 20000 in
set_option maxHeartbeats 4000000 in
theorem specUnescape_calls (w : World) {lo hi : Nat} {a : Value} {xs : List Int} (esc : Bool) (hB : Byt xs) (h1 : View w lo hi .u8 a xs) (hhi : hi ≤ w.heap.size) (hl : xs.length ≤ 1048576) :
    Calls Tryd.prog 4 #[a, .bool esc] w fun e w' => ∃ v, e = .returned v ∧ OwnB w' w.heap.size 5 v (unescD xs esc) ∧ Chg 0 0 w w' := by
  have v0 := h1
  obtain ⟨ao, cap, rfl, hl0, _, _⟩ := h1
  have hlit : OwnB (w.alloc (.cells #[] 5)) w.heap.size 5 (.slice (some ⟨w.heap.size, 0, none⟩) 0 0) [] := by
    have := World.ownsRow_lit (base := w.heap.size) (e := 5) (size := 1) w #[] 0 (Nat.le_refl _) (by unfold maxLen; omega) rfl
    simpa [OwnB] using this
  by_cases hx : xs.length = 64
  · obtain ⟨xb, xo, rfl⟩ : ∃ xb xo, ao = some ⟨xb, xo, none⟩ := by
      obtain ⟨_, _, e, _, _, hcell⟩ := v0
      cases e
      rcases hcell with e | ⟨x, o, e, _, _, _⟩
      · rw [e] at hx; simp at hx
      · exact ⟨x, o, e⟩
    have hne : ((64 : Int) != 64) = false := by simp
    have Hx : Hid (xs.length = 64) := hx
    rw [hx] at v0 ⊢
    have HV : Hid (View w lo hi .u8 (.slice (some ⟨xb, xo, none⟩) 64 cap) xs) := v0
    have HB : Hid (Byt xs) := hB
    cases esc
    · have hN := l3Begins_calls w hB v0
      have hb : beg xs = decide (xs.take 4 = mg) := by unfold beg; rw [decide_eq_true (by omega)]; rfl
      rw [hb] at hN
      by_cases hm : xs.take 4 = mg
      · have HD : Hid (unescD xs false = []) := by
          show _ = _
          unfold unescD unescB
          rw [decide_eq_true hm]; simp
        rw [decide_eq_true hm] at hN
        clear hb hm v0 hx hlit hB
        go_enter Tryd.func4, Tryd.ntmps4
        go_wp2_with fail
        refine hN.mono ?_
        rintro e w1 ⟨rfl, hc1⟩
        have HC1 : Hid (Chg 0 0 w w1) := hc1
        have hs := hc1.size
        have HO : Hid (OwnB (w1.alloc (.cells #[] 5)) w.heap.size 5 (.slice (some ⟨w1.heap.size, 0, none⟩) 0 0) []) := by
          show OwnB _ _ _ _ _
          have := World.ownsRow_lit (base := w.heap.size) (e := 5) (size := 1) w1 #[] 0 hs (by unfold maxLen; omega) rfl
          simpa [OwnB] using this
        have HC2 : Hid (Chg 0 0 w (w1.alloc (.cells #[] 5))) := hc1.alloc _
        clear hN hc1
        go_wp2
        go_ret
        exact ⟨_, rfl, by rw [HD.out]; exact HO.out, HC2.out⟩
      · have HD : Hid (unescD xs false = xs) := by
          show _ = _
          unfold unescD unescB unescL
          rw [decide_eq_false hm]; simp [hx]
        rw [decide_eq_false hm] at hN
        clear hb hm v0 hx hlit hB
        go_enter Tryd.func4, Tryd.ntmps4
        go_wp2_with fail
        refine hN.mono ?_
        rintro e w1 ⟨rfl, hc1⟩
        have HC1 : Hid (Chg 0 0 w w1) := hc1
        have hs := hc1.size
        have hN2 := l1Copy_calls w1 hl (HV.out.chg hc1 (by omega))
        clear hN hc1
        go_wp2_with fail
        refine hN2.mono ?_
        rintro e w2 ⟨v2, rfl, o2, hc2⟩
        have HO : Hid (OwnB w2 w.heap.size 5 v2 xs) := o2.base (fun g hg => by have := (o2.lt g hg).1; omega)
        have HC2 : Hid (Chg 0 0 w w2) := HC1.out.trans hc2
        clear hN2 o2 hc2
        go_wp2
        go_ret
        exact ⟨_, rfl, by rw [HD.out]; exact HO.out, HC2.out⟩
    · have hc4 : 4 ≤ cap := by
        obtain ⟨_, _, e, _, ⟨hc, _⟩, _⟩ := v0
        rw [hx] at e hc
        cases e; omega
      have HV4 : Hid (View w lo hi .u8 (.slice (some ⟨xb, xo, none⟩) 4 cap) (xs.take 4)) := v0.take 4 (by omega)
      have HV60 : Hid (View w lo hi .u8 (.slice (some ⟨xb, xo + 4, none⟩) 60 (cap - 4)) (xs.drop 4)) := v0.drop4 hx
      have hcn : ¬ cap = 4 := by
        obtain ⟨_, _, e, _, ⟨hc, _⟩, _⟩ := v0
        rw [hx] at e hc
        cases e; omega
      have hb0 : Byt (List.replicate 4 (0 : Int)) := by intro x hx; rw [List.eq_of_mem_replicate hx]; omega
      have HB0 : Hid (Byt (List.replicate 4 (0 : Int))) := hb0
      clear v0 hx hlit hB hb0
      go_enter Tryd.func4, Tryd.ntmps4
      go_upto_region 7 with fail
      go_cut [20] (fun s20 wx => s20 = .bool (!decide (xs.take 4 = [0, 0, 0, 0])) ∧ Chg 0 0 w wx)
      case first =>
        go_region_with (first
          | (go_at_call 13; refine (l2Zero_calls _ 4 (by omega)).mono ?_; rintro e w' ⟨g, rfl, ho, hc⟩)
          | (go_at_call 12; refine (l2Same_calls (xs := xs.take 4) (ys := List.replicate 4 0) _ (HB.out.take 4) HB0.out (HV4.out.chg ((Chg.drew (Chg.refl 0 0 w)).trans hc) (by omega)) (ho.view (hi := w'.heap.size) (by simp) (fun g hg => (ho.lt g hg).2))).mono ?_; rintro e w'' ⟨rfl, rfl⟩))
        all_goals (try go_wp2)
        all_goals (go_meet; exact ⟨rfl, (Chg.drew (Chg.refl 0 0 w)).trans hc⟩)
      case rest =>
        obtain ⟨rfl, hc1⟩ := hcut
        generalize wc = w1 at *
        have HC1 : Hid (Chg 0 0 w w1) := hc1
        have hs1 := hc1.size
        clear hc1
        by_cases hz : xs.take 4 = [0, 0, 0, 0]
        · have HD : Hid (unescD xs true = mg ++ xs.drop 4) := by
            show _ = _
            have := Hx.out
            unfold unescD unescB unescL
            simp [this, hz]
          rw [decide_eq_true hz]
          clear hz
          go_upto_region 9 with fail
          go_cut [4] (fun s4 wx => OwnB wx w.heap.size 5 s4 (mg ++ xs.drop 4) ∧ Chg 0 0 w wx)
          case first =>
            have HV1 : Hid (View w1 lo hi .u8 (.slice (some ⟨xb, xo + 4, none⟩) 60 (cap - 4)) (xs.drop 4)) := HV60.out.chg HC1.out (by omega)
            have hl60 : (xs.drop 4).length = 60 := by rw [List.length_drop, Hx.out]
            have Hl60 : Hid ((xs.drop 4).length = 60) := hl60
            clear hl60
            go_region_with (first
              | (go_at_call 15; refine (l3Magic_calls _).mono ?_; rintro e w' ⟨rfl, ho, hc⟩)
              | (go_at_call 14; refine (l2Join_calls (xs := mg) (ys := xs.drop 4) (lo' := lo) _ (by simp [mg]) (by rw [Hl60.out]; omega) (ho.view (hi := w'.heap.size) (by simp [mg]) (fun g hg => (ho.lt g hg).2)) ((HV1.out.chg ((Chg.drew (Chg.refl 0 0 w1)).trans hc) (by omega)).mono (Nat.le_refl _) (by have hh0 : w1.drew.heap.size = w1.heap.size := rfl; have := hc.size; omega)) (by rw [Hl60.out]; omega)).mono ?_; rintro e w'' ⟨vj, rfl, oj, hj⟩))
            all_goals (try go_wp2)
            all_goals (go_meet; exact ⟨oj.base (fun g hg => by have hh0 : w1.drew.heap.size = w1.heap.size := rfl; have := (oj.lt g hg).1; have := hc.size; omega), (HC1.out.trans ((Chg.drew (Chg.refl 0 0 w1)).trans hc)).trans hj⟩)
          case rest =>
            obtain ⟨ho, hc⟩ := hcut
            have HO : Hid (OwnB wc w.heap.size 5 u4 (mg ++ xs.drop 4)) := ho
            have HC : Hid (Chg 0 0 w wc) := hc
            clear ho hc
            go_wp2
            go_ret
            exact ⟨_, rfl, by rw [HD.out]; exact HO.out, HC.out⟩
        · have HD : Hid (unescD xs true = []) := by
            show _ = _
            unfold unescD unescB
            simp [hz]
          rw [decide_eq_false hz]
          have HO : Hid (OwnB (w1.alloc (.cells #[] 5)) w.heap.size 5 (.slice (some ⟨w1.heap.size, 0, none⟩) 0 0) []) := by
            show OwnB _ _ _ _ _
            have := World.ownsRow_lit (base := w.heap.size) (e := 5) (size := 1) w1 #[] 0 hs1 (by unfold maxLen; omega) rfl
            simpa [OwnB] using this
          have HC2 : Hid (Chg 0 0 w (w1.alloc (.cells #[] 5))) := HC1.out.alloc _
          clear hz
          go_wp2
          go_ret
          exact ⟨_, rfl, by rw [HD.out]; exact HO.out, HC2.out⟩
  · have HD : Hid (unescD xs esc = []) := by show _ = _; unfold unescD; rw [if_neg (fun h => hx h.1)]
    have hne : ((xs.length : Int) != 64) = true := by simp; omega
    have HO : Hid (OwnB (w.alloc (.cells #[] 5)) w.heap.size 5 (.slice (some ⟨w.heap.size, 0, none⟩) 0 0) []) := hlit
    have HC : Hid (Chg 0 0 w (w.alloc (.cells #[] 5))) := Chg.alloc (Chg.refl 0 0 w) _
    clear v0 hx hlit
    go_enter Tryd.func4, Tryd.ntmps4
    go_wp2
    go_ret
    exact ⟨_, rfl, by rw [HD.out]; exact HO.out, HC.out⟩

end Go.Proofs.YtcgemenhkjfejaaDoor
