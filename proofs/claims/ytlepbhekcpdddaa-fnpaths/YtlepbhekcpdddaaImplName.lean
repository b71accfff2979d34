/- ValidName of the program. -/
import Derived.Test.YtlepbhekcpdddaaNameSpec
import Derived.Test.YtlepbhekcpdddaaImplStr0
import Derived.Test.YtlepbhekcpdddaaIsWithin
namespace Go.Proofs.Ytlepbhekcpdddaa
open Go.RowKit

set_option maxRecDepth 20000 in
set_option maxHeartbeats 1000000 in
theorem validName_any (w : World) (s : ByteArray) :
    Calls Try.prog 7 #[.string s] w fun e w' => e = .returned (.bool (nameB s)) ∧ Chg 0 0 w w' := by
  have hN1 := isWithin_calls w (s.size : Int) 1 13
  by_cases h1 : 1 ≤ s.size ∧ s.size ≤ 13
  · rw [decide_eq_true (show (1 : Int) ≤ (s.size : Int) by omega), decide_eq_true (show (s.size : Int) ≤ 13 by omega)] at hN1
    have hN2 := hasOnlyMarks_calls w s
    by_cases h2 : setB s = true
    · rw [h2] at hN2
      have hN3 := fun w => hasStroke_calls w s h2
      by_cases h3 : (cutD s 47).length = 1
      · rw [decide_eq_true h3] at hN3
        obtain ⟨b1, hb1⟩ : ∃ b, (s.toList == [46]) = b := ⟨_, rfl⟩
        obtain ⟨b2, hb2⟩ : ∃ b, (s.toList == [46, 46]) = b := ⟨_, rfl⟩
        have Hn : Hid (nameB s = (!b1 && !b2)) := by
          show _ = _
          unfold nameB
          rw [← hb1, ← hb2, Bool.eq_iff_iff, decide_eq_true_eq]
          simp only [Bool.and_eq_true, Bool.not_eq_true', beq_eq_false_iff_ne]
          exact ⟨fun h => ⟨h.2.2.2.1, h.2.2.2.2.1⟩, fun h => ⟨h2, h1.1, h1.2, h.1, h.2, h3⟩⟩
        clear h1 h2 h3
        cases b1
        all_goals cases b2
        all_goals
          go_enter Try.func7, Try.ntmps7
          go_wp2_with (first
            | (go_at_call 17; refine hN1.mono ?_; rintro e w1 ⟨rfl, rfl⟩)
            | (go_at_call 18; refine hN2.mono ?_; rintro e w2 ⟨rfl, hc2⟩)
            | (go_at_call 19; refine (hN3 w2).mono ?_; rintro e w3 ⟨rfl, hc3⟩))
          go_ret
          exact ⟨by rw [Hn.out]; rfl, hc2.trans hc3⟩
      · rw [decide_eq_false h3] at hN3
        have Hn : Hid (nameB s = false) := nameB_false (fun h => h3 h.2.2.2.2.2)
        clear h1 h2 h3
        go_enter Try.func7, Try.ntmps7
        go_wp2_with (first
          | (go_at_call 17; refine hN1.mono ?_; rintro e w1 ⟨rfl, rfl⟩)
          | (go_at_call 18; refine hN2.mono ?_; rintro e w2 ⟨rfl, hc2⟩)
          | (go_at_call 19; refine (hN3 w2).mono ?_; rintro e w3 ⟨rfl, hc3⟩))
        go_ret
        exact ⟨by rw [Hn.out]; rfl, hc2.trans hc3⟩
    · have Hn : Hid (nameB s = false) := nameB_false (fun h => h2 h.1)
      rw [Bool.not_eq_true] at h2
      rw [h2] at hN2
      clear h1 h2
      go_enter Try.func7, Try.ntmps7
      go_wp2_with (first
        | (go_at_call 17; refine hN1.mono ?_; rintro e w1 ⟨rfl, rfl⟩)
        | (go_at_call 18; refine hN2.mono ?_; rintro e w2 ⟨rfl, hc2⟩))
      go_ret
      exact ⟨by rw [Hn.out]; rfl, hc2⟩
  · have Hn : Hid (nameB s = false) := nameB_false (fun h => h1 ⟨h.2.1, h.2.2.1⟩)
    have hf : (decide ((1 : Int) ≤ (s.size : Int)) && decide ((s.size : Int) ≤ 13)) = false := by simp only [Bool.and_eq_false_iff, decide_eq_false_iff_not]; omega
    rw [hf] at hN1
    clear hf h1
    go_enter Try.func7, Try.ntmps7
    go_wp2_with (go_at_call 17; refine hN1.mono ?_; rintro e w1 ⟨rfl, rfl⟩)
    go_ret
    exact ⟨by rw [Hn.out]; rfl, Chg.refl _ _ _⟩

theorem implValidName_calls (w : World) (s : ByteArray) (_hl : s.size ≤ 1048576) :
    Calls Try.prog 7 #[.string s] w fun e w' => e = .returned (.bool (nameB s)) ∧ Chg 0 0 w w' := validName_any w s

end Go.Proofs.Ytlepbhekcpdddaa
