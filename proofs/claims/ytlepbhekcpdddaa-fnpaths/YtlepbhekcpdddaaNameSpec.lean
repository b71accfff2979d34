/- ValidName of the model. -/
import Derived.Test.YtlepbhekcpdddaaStrSpec
namespace Go.Proofs.Ytlepbhekcpdddaa
open Go.RowKit

abbrev NameP (s : ByteArray) : Prop := setB s = true ∧ 1 ≤ s.size ∧ s.size ≤ 13 ∧ s.toList ≠ [46] ∧ s.toList ≠ [46, 46] ∧ (cutD s 47).length = 1
def nameB (s : ByteArray) : Bool := decide (NameP s)
theorem nameB_false {s : ByteArray} (h : ¬ NameP s) : nameB s = false := decide_eq_false h

set_option maxRecDepth 20000 in
set_option maxHeartbeats 1000000 in
theorem specValidName_calls (w : World) (s : ByteArray) (hl : s.size ≤ 1048576) :
    Calls Try.prog 15 #[.string s] w fun e w' => e = .returned (.bool (nameB s)) ∧ Chg 0 0 w w' := by
  have hN := l10Bytes_calls w s hl
  have hN2 := l10Cut_calls w s 47 (by omega) hl
  by_cases h0 : setB s = true
  · rw [h0] at hN
    by_cases h1 : s.size < 1
    · have Hn : Hid (nameB s = false) := nameB_false (fun h => by have := h.2.1; omega)
      clear hN2
      go_enter Try.func15, Try.ntmps15
      go_wp2_with fail
      refine hN.mono ?_
      rintro e w1 ⟨rfl, rfl⟩
      clear hN
      have hi : (s.size : Int) < 1 := by omega
      go_wp2
      go_ret
      exact ⟨by rw [Hn.out]; rfl, Chg.refl _ _ _⟩
    by_cases h2 : 13 < s.size
    · have Hn : Hid (nameB s = false) := nameB_false (fun h => by have := h.2.2.1; omega)
      clear hN2
      go_enter Try.func15, Try.ntmps15
      go_wp2_with fail
      refine hN.mono ?_
      rintro e w1 ⟨rfl, rfl⟩
      clear hN
      have hi1 : ¬ (s.size : Int) < 1 := by omega
      have hi : (13 : Int) < (s.size : Int) := by omega
      go_wp2
      go_ret
      exact ⟨by rw [Hn.out]; rfl, Chg.refl _ _ _⟩
    have hi1 : ¬ (s.size : Int) < 1 := by omega
    have hi2 : ¬ (13 : Int) < (s.size : Int) := by omega
    by_cases h3 : s.toList = [46]
    · have Hn : Hid (nameB s = false) := nameB_false (fun h => h.2.2.2.1 h3)
      have hb : (s.toList == [46]) = true := by rw [h3]; rfl
      clear hN2 h3
      go_enter Try.func15, Try.ntmps15
      go_wp2_with fail
      refine hN.mono ?_
      rintro e w1 ⟨rfl, rfl⟩
      clear hN
      go_wp2
      go_ret
      exact ⟨by rw [Hn.out]; rfl, Chg.refl _ _ _⟩
    have hb1 : (s.toList == [46]) = false := by rw [beq_eq_false_iff_ne]; exact h3
    by_cases h4 : s.toList = [46, 46]
    · have Hn : Hid (nameB s = false) := nameB_false (fun h => h.2.2.2.2.1 h4)
      have hb : (s.toList == [46, 46]) = true := by rw [h4]; rfl
      clear hN2 h3 h4
      go_enter Try.func15, Try.ntmps15
      go_wp2_with fail
      refine hN.mono ?_
      rintro e w1 ⟨rfl, rfl⟩
      clear hN
      go_wp2
      go_ret
      exact ⟨by rw [Hn.out]; rfl, Chg.refl _ _ _⟩
    have hb2 : (s.toList == [46, 46]) = false := by rw [beq_eq_false_iff_ne]; exact h4
    have Hn : Hid (nameB s = decide ((cutD s 47).length = 1)) := by
      show _ = _
      unfold nameB
      rw [decide_eq_decide]
      exact ⟨fun h => h.2.2.2.2.2, fun h => ⟨h0, by omega, by omega, h3, h4, h⟩⟩
    clear h3 h4
    go_enter Try.func15, Try.ntmps15
    go_wp2_with fail
    refine hN.mono ?_
    rintro e w1 ⟨rfl, rfl⟩
    clear hN
    go_wp2_with fail
    refine hN2.mono ?_
    rintro e w2 ⟨g, cap, rfl, _, hc⟩
    clear hN2
    generalize (cutD s 47).length = L at *
    by_cases hL : L = 1
    · have hb : ((L : Int) == 1) = true := by simp; omega
      rw [decide_eq_true hL] at Hn
      clear hL
      go_wp2
      go_ret
      exact ⟨by rw [Hn.out]; rfl, hc⟩
    · have hb : ((L : Int) == 1) = false := by simp; omega
      rw [decide_eq_false hL] at Hn
      clear hL
      go_wp2
      go_ret
      exact ⟨by rw [Hn.out]; rfl, hc⟩
  · have Hn : Hid (nameB s = false) := nameB_false (fun h => h0 h.1)
    rw [Bool.not_eq_true] at h0
    rw [h0] at hN
    clear hN2
    go_enter Try.func15, Try.ntmps15
    go_wp2_with fail
    refine hN.mono ?_
    rintro e w1 ⟨rfl, rfl⟩
    clear hN
    go_wp2
    go_ret
    exact ⟨by rw [Hn.out]; rfl, Chg.refl _ _ _⟩

end Go.Proofs.Ytlepbhekcpdddaa
