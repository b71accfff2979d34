/- DrawSplitPath. -/
import Derived.Test.YtlepbhekcpdddaaPathDraw2
namespace Go.Proofs.Ytlepbhekcpdddaa
open Go.RowKit

theorem SrcAt.at9 {w : World} {p : Nat} {cv : Value} {n sz : Nat} (h : SrcAt w p cv n sz) : SrcAt (w.setCell ⟨p, 1, none⟩ (.int .i64 ((n : Int) + 9))) p cv (n + 9) sz := by
  unfold SrcAt at *
  simp only [World.setCell, Array.getElem?_modify, h, if_true, Option.map_some]
  rfl

set_option maxRecDepth 20000 in
set_option maxHeartbeats 2000000 in
theorem drawSplitPath_calls (w : World) {lo hi : Nat} {cv : Value} {code : List Int} (hB : Byt code) (hcl : code.length ≤ 1048576) (hc : View w lo hi .u8 cv code) (hhi : hi ≤ w.heap.size) :
    Calls Try.prog 4 #[cv] w fun e w' => ∃ t : ByteArray, e = .returned (.string t) ∧ t.size ≤ 1100 ∧ Chg 0 0 w w' := by
  have v0 := hc
  obtain ⟨ao, cap, rfl, hl, _, _⟩ := hc
  have HV : Hid (View w lo hi .u8 (.slice ao code.length cap) code) := v0
  clear v0
  go_enter Try.func4, Try.ntmps4
  go_wp2_with fail
  refine (l1Source_calls _ ao code.length cap hl).mono ?_
  rintro e w1 ⟨rfl, s1, c1⟩
  generalize min (code.length / 16) 12 = z at *
  have hN := l1Chance_calls w1 w.heap.size 0 z 3 (by omega) hB hcl (by omega) s1 (HV.out.chg c1 (by omega)) (Or.inr hhi)
  have HC1 : Hid (Chg 0 0 w w1) := c1
  clear s1 c1
  go_wp2_with fail
  refine hN.mono ?_
  rintro e w2 ⟨rfl, s2, c2⟩
  have HC2 : Hid (Chg 0 0 w w2) := HC1.out.step c2 (Or.inr (Or.inl (Nat.le_refl _)))
  have HS2 : Hid (SrcAt w2 w.heap.size (.slice ao code.length cap) (0 + 1) z) := s2
  clear hN c2
  cases hb : (nxt code 0 3 == 0) with
  | true =>
    obtain ⟨c0, c1, c2, f0, f1, f2⟩ := three_cells s2
    have s3 := s2.at9
    have C3 : Chg 0 0 w (w2.setCell ⟨w.heap.size, 1, none⟩ (.int .i64 (((0 + 1 : Nat) : Int) + 9))) := HC2.out.setCell (Or.inr (Nat.le_refl _)) _
    have hN := l10DrawOdd_calls (w2.setCell ⟨w.heap.size, 1, none⟩ (.int .i64 (((0 + 1 : Nat) : Int) + 9))) w.heap.size (0 + 1 + 9) z hB hcl (by omega) s3 (HV.out.chg C3 (by omega)) (Or.inr hhi)
    have HC3 : Hid (Chg 0 0 w (w2.setCell ⟨w.heap.size, 1, none⟩ (.int .i64 (((0 + 1 : Nat) : Int) + 9)))) := C3
    clear s2 s3 C3 HS2
    go_wp2_with fail
    refine hN.mono ?_
    rintro e w4 ⟨t, m, rfl, ht, hm, s4, c4⟩
    have C4 : Chg 0 0 w w4 := HC3.out.step c4 (Or.inr (Or.inl (Nat.le_refl _)))
    have HC4 : Hid (Chg 0 0 w w4) := C4
    have hN := l10DrawPath_calls w4 w.heap.size m z hB hcl (by omega) s4 (HV.out.chg C4 (by omega)) (Or.inr hhi)
    have z47 : (⟨#[47]⟩ : ByteArray).size = 1 := rfl
    have ha : (⟨#[47]⟩ : ByteArray).size + t.size ≤ 10000 := by rw [z47]; omega
    clear s4 c4 C4 c0 c1 c2 f0 f1 f2
    go_wp2_with fail
    refine hN.mono ?_
    rintro e w5 ⟨u, m5, rfl, hu, s5, c5⟩
    have HC5 : Hid (Chg 0 0 w w5) := HC4.out.step c5 (Or.inr (Or.inl (Nat.le_refl _)))
    have hz : ((⟨#[47]⟩ : ByteArray) ++ t).size = 1 + t.size := by rw [ByteArray.size_append, z47]
    have Hz2 : Hid (((⟨#[47]⟩ : ByteArray) ++ t ++ u).size = 1 + t.size + u.size) := by show _ = _; rw [ByteArray.size_append, hz]
    have hb2 : ((⟨#[47]⟩ : ByteArray) ++ t).size + u.size ≤ 10000 := by omega
    have hb3 : (⟨#[47]⟩ : ByteArray).size + t.size + u.size ≤ 10000 := by rw [z47]; omega
    clear hN s5 c5
    go_wp2
    go_ret
    exact ⟨_, rfl, by rw [Hz2.out]; omega, HC5.out⟩
  | false =>
    have hN := l10DrawPath_calls w2 w.heap.size (0 + 1) z hB hcl (by omega) s2 (HV.out.chg HC2.out (by omega)) (Or.inr hhi)
    clear s2
    go_wp2_with fail
    refine hN.mono ?_
    rintro e w5 ⟨u, m5, rfl, hu, s5, c5⟩
    have HC5 : Hid (Chg 0 0 w w5) := HC2.out.step c5 (Or.inr (Or.inl (Nat.le_refl _)))
    clear hN s5 c5
    go_wp2
    go_ret
    exact ⟨_, rfl, by omega, HC5.out⟩

end Go.Proofs.Ytlepbhekcpdddaa
