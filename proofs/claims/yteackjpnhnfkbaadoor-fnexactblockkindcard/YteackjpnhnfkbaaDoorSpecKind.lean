/- BlockKind of the model. -/
import Derived.Test.YteackjpnhnfkbaaDoorSpecBeg
namespace Go.Proofs.YteackjpnhnfkbaaDoor
open Go.RowKit

set_option maxRecDepth 20000 in
set_option maxHeartbeats 1000000 in
theorem specKind_calls (w : World) {lo hi : Nat} {a : Value} {xs : List Int} (hB : Byt xs) (h1 : View w lo hi .u8 a xs) :
    Calls Tryd.prog 4 #[a] w fun e w' => e = .returned (.int .i64 (if xs.length = 64 ∧ xs.take 4 = mg ∧ (1 ≤ xs.getD 4 0 ∧ xs.getD 4 0 ≤ 4) then xs.getD 4 0 else 0)) ∧ Chg 0 0 w w' := by
  have hN := l3Begins_calls w hB h1
  have v0 := h1
  obtain ⟨ao, cap, rfl, hl, _, _⟩ := h1
  by_cases hx : xs.length = 64
  · obtain ⟨xb, xo, rfl, hxc⟩ : ∃ xb xo, ao = some ⟨xb, xo, none⟩ ∧ ∀ i, i < xs.length → w.cell? ⟨xb, xo + i, none⟩ = some (.int .u8 (xs.getD i 0)) := by
      obtain ⟨_, _, e, _, _, hcell⟩ := v0
      cases e
      rcases hcell with e | ⟨x, o, e, _, _, h⟩
      · rw [e] at hx; simp at hx
      · exact ⟨x, o, e, h⟩
    have hb : beg xs = decide (xs.take 4 = mg) := by unfold beg; rw [decide_eq_true (by omega)]; rfl
    rw [hb] at hN
    have c4 := hxc 4 (by omega)
    have b4 := hB.getD 4
    have hne : ((64 : Int) != 64) = false := by simp
    have Hx : Hid (xs.length = 64) := hx
    rw [hx] at hN ⊢
    by_cases hm : xs.take 4 = mg
    · have Hm : Hid (xs.take 4 = mg) := hm
      rw [decide_eq_true hm] at hN
      have hgoal : (if 64 = 64 ∧ xs.take 4 = mg ∧ (1 ≤ xs.getD 4 0 ∧ xs.getD 4 0 ≤ 4) then xs.getD 4 0 else 0) = (if 1 ≤ xs.getD 4 0 ∧ xs.getD 4 0 ≤ 4 then xs.getD 4 0 else 0) := by simp [hm]
      rw [hgoal]
      generalize xs.getD 4 0 = x4 at *
      clear hxc v0 hx hgoal hm hb
      by_cases h1 : x4 < 1
      · rw [if_neg (by omega)]
        go_enter Tryd.func4, Tryd.ntmps4
        go_wp2_with fail
        refine hN.mono ?_
        rintro e w1 ⟨rfl, hc1⟩
        have k4 := hc1.cell c4 (by omega)
        have HC1 : Hid (Chg 0 0 w w1) := hc1
        clear hN hc1
        go_wp2
        go_ret
        exact ⟨rfl, HC1.out⟩
      · by_cases h4 : x4 > 4
        · rw [if_neg (by omega)]
          go_enter Tryd.func4, Tryd.ntmps4
          go_wp2_with fail
          refine hN.mono ?_
          rintro e w1 ⟨rfl, hc1⟩
          have k4 := hc1.cell c4 (by omega)
          have HC1 : Hid (Chg 0 0 w w1) := hc1
          clear hN hc1
          go_wp2
          go_ret
          exact ⟨rfl, HC1.out⟩
        · rw [if_pos (by omega)]
          go_enter Tryd.func4, Tryd.ntmps4
          go_wp2_with fail
          refine hN.mono ?_
          rintro e w1 ⟨rfl, hc1⟩
          have k4 := hc1.cell c4 (by omega)
          have HC1 : Hid (Chg 0 0 w w1) := hc1
          clear hN hc1
          go_wp2
          go_ret
          exact ⟨rfl, HC1.out⟩
    · rw [decide_eq_false hm] at hN
      have hgoal : (if 64 = 64 ∧ xs.take 4 = mg ∧ (1 ≤ xs.getD 4 0 ∧ xs.getD 4 0 ≤ 4) then xs.getD 4 0 else 0) = 0 := by rw [if_neg (fun h => hm h.2.1)]
      rw [hgoal]
      clear hxc v0 hx hgoal hm hb c4 b4
      go_enter Tryd.func4, Tryd.ntmps4
      go_wp2_with fail
      refine hN.mono ?_
      rintro e w1 ⟨rfl, hc1⟩
      have HC1 : Hid (Chg 0 0 w w1) := hc1
      clear hN hc1
      go_wp2
      go_ret
      exact ⟨rfl, HC1.out⟩
  · have hgoal : (if xs.length = 64 ∧ xs.take 4 = mg ∧ (1 ≤ xs.getD 4 0 ∧ xs.getD 4 0 ≤ 4) then xs.getD 4 0 else 0) = 0 := by rw [if_neg (fun h => hx h.1)]
    rw [hgoal]
    have hne : ((xs.length : Int) != 64) = true := by simp; omega
    generalize beg xs = bg at *
    clear hgoal v0 hx
    go_enter Tryd.func4, Tryd.ntmps4
    go_wp2_with fail
    refine hN.mono ?_
    rintro e w1 ⟨rfl, hc1⟩
    have HC1 : Hid (Chg 0 0 w w1) := hc1
    clear hN hc1
    go_wp2
    go_ret
    exact ⟨rfl, HC1.out⟩

end Go.Proofs.YteackjpnhnfkbaaDoor
