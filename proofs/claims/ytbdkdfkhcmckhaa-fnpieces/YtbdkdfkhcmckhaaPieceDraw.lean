/- The model's DrawSpans: two numbers. -/
import Derived.Test.YtbdkdfkhcmckhaaDraw
import Derived.Deep.DeepCutAuto
namespace Go.Proofs.Ytbdkdfkhcmckhaa
open Go.RowKit

set_option maxRecDepth 20000 in
set_option maxHeartbeats 4000000 in
theorem drawSpans_calls (w : World) {lo hi : Nat} {cv : Value} {code : List Int} (hB : Byt code) (hcl : code.length ≤ 1048576) (hc : View w lo hi .u8 cv code) (hhi : hi ≤ w.heap.size) :
    Calls Try.prog 4 #[cv] w fun e w' => (∃ o n : Int, e = .returned (.tuple #[.int .i64 o, .int .i64 n])) ∧ Chg 0 0 w w' := by
  have v0 := hc
  obtain ⟨ao, cap, rfl, hl, _, _⟩ := hc
  have HV : Hid (View w lo hi .u8 (.slice ao code.length cap) code) := v0
  go_enter Try.func4, Try.ntmps4
  go_wp2_with fail
  refine (l1Source_calls _ ao code.length cap hl).mono ?_
  rintro e w1 ⟨rfl, s1, c1⟩
  generalize min (code.length / 16) 12 = z at *
  have HC1 : Hid (Chg 0 0 w w1) := c1
  have HN : Hid (∀ (W : World) (p : Nat) (n : Int), n ≤ 1000 → p ≤ 100 → Chg 0 0 w W → SrcAt W w.heap.size (.slice ao code.length cap) p z → Calls Try.prog 9 #[.pointer (some ⟨w.heap.size, 0, none⟩), .int .i64 n] W fun e w' => ∃ x : Int, e = .returned (.int .i64 x) ∧ 0 ≤ x ∧ (1 ≤ n → x < n) ∧ SrcAt w' w.heap.size (.slice ao code.length cap) (p + 1) z ∧ Chg 0 0 w w') := by
    intro W p n hn hp hW hs
    refine (l1Next_calls W w.heap.size p z n (by omega) hB hcl (by omega) hs (HV.out.chg hW (by omega)) (Or.inr hhi)).mono ?_
    rintro e w' ⟨rfl, hs', hc'⟩
    exact ⟨_, rfl, (nxt_range code p n).1, (nxt_range code p n).2, hs', hW.step hc' (Or.inr (Or.inl (Nat.le_refl _)))⟩
  have HCh : Hid (∀ (W : World) (p : Nat) (n : Int), n ≤ 1000 → p ≤ 100 → Chg 0 0 w W → SrcAt W w.heap.size (.slice ao code.length cap) p z → Calls Try.prog 10 #[.pointer (some ⟨w.heap.size, 0, none⟩), .int .i64 n] W fun e w' => ∃ x : Bool, e = .returned (.bool x) ∧ SrcAt w' w.heap.size (.slice ao code.length cap) (p + 1) z ∧ Chg 0 0 w w') := by
    intro W p n hn hp hW hs
    refine (l1Chance_calls W w.heap.size p z n (by omega) hB hcl (by omega) hs (HV.out.chg hW (by omega)) (Or.inr hhi)).mono ?_
    rintro e w' ⟨rfl, hs', hc'⟩
    exact ⟨_, rfl, hs', hW.step hc' (Or.inr (Or.inl (Nat.le_refl _)))⟩
  have hN := HN.out w1 0 400 (by omega) (by omega) HC1.out s1
  go_wp2_with fail
  refine hN.mono ?_
  rintro e w2 ⟨a, rfl, ha0, ha1, s2, c2⟩
  have ha1 := ha1 (by omega)
  have HC2 : Hid (Chg 0 0 w w2) := c2
  clear hN s1 c1 HC1
  have hN := HN.out w2 (0 + 1) 300 (by omega) (by omega) HC2.out s2
  go_wp2_with fail
  refine hN.mono ?_
  rintro e w3 ⟨b, rfl, hb0, hb1, s3, c3⟩
  have hb1 := hb1 (by omega)
  have HC3 : Hid (Chg 0 0 w w3) := c3
  clear hN s2 c2 HC2
  have hN := HN.out w3 (0 + 1 + 1) 12 (by omega) (by omega) HC3.out s3
  go_wp2_with fail
  refine hN.mono ?_
  rintro e w4 ⟨k, rfl, hk0, hk1, s4, c4⟩
  have hk1 := hk1 (by omega)
  have HC4 : Hid (Chg 0 0 w w4) := c4
  clear hN s3 c3 HC3
  by_cases e0 : k = 0
  · subst e0
    have hN := HN.out w4 (0 + 1 + 1 + 1) 2 (by omega) (by omega) HC4.out s4
    go_wp2_with fail
    refine hN.mono ?_
    rintro e w5 ⟨x, rfl, hx0, hx1, s5, c5⟩
    have hx1 := hx1 (by omega)
    have HC5 : Hid (Chg 0 0 w w5) := c5
    clear hN s4 c4 HC4
    go_wp2
    exact bodyPost_ret (v := .tuple #[.int .i64 (2560 - b + x), .int .i64 b]) (by simp [results, Try.results4, go_sem]) rfl ⟨⟨_, _, rfl⟩, HC5.out⟩
  have f0 : (k == 0) = false := by simpa using e0
  by_cases e1 : k = 1
  · subst e1
    go_wp2
    exact bodyPost_ret (v := .tuple #[.int .i64 (-1), .int .i64 b]) (by simp [results, Try.results4, go_sem]) rfl ⟨⟨_, _, rfl⟩, HC4.out⟩
  have f1 : (k == 1) = false := by simpa using e1
  by_cases e2 : k = 2
  · subst e2
    have hN := HCh.out w4 (0 + 1 + 1 + 1) 2 (by omega) (by omega) HC4.out s4
    go_wp2_with fail
    refine hN.mono ?_
    rintro e w5 ⟨x, rfl, s5, c5⟩
    have HC5 : Hid (Chg 0 0 w w5) := c5
    clear hN s4 c4 HC4 s5 c5
    cases x
    · go_wp2
      exact bodyPost_ret (v := .tuple #[.int .i64 a, .int .i64 9223372036854775807]) (by simp [results, Try.results4, go_sem]) rfl ⟨⟨_, _, rfl⟩, HC5.out⟩
    · go_wp2
      exact bodyPost_ret (v := .tuple #[.int .i64 a, .int .i64 (-1)]) (by simp [results, Try.results4, go_sem]) rfl ⟨⟨_, _, rfl⟩, HC5.out⟩
  have f2 : (k == 2) = false := by simpa using e2
  by_cases e3 : k = 3
  · subst e3
    have hN := HN.out w4 (0 + 1 + 1 + 1) 2 (by omega) (by omega) HC4.out s4
    go_wp2_with fail
    refine hN.mono ?_
    rintro e w5 ⟨x, rfl, hx0, hx1, s5, c5⟩
    have hx1 := hx1 (by omega)
    have HC5 : Hid (Chg 0 0 w w5) := c5
    clear hN s4 c4 HC4
    go_wp2
    exact bodyPost_ret (v := .tuple #[.int .i64 (2560 + x), .int .i64 0]) (by simp [results, Try.results4, go_sem]) rfl ⟨⟨_, _, rfl⟩, HC5.out⟩
  have f3 : (k == 3) = false := by simpa using e3
  clear e0 e1 e2 e3
  go_wp2
  exact bodyPost_ret (v := .tuple #[.int .i64 a, .int .i64 b]) (by simp [results, Try.results4, go_sem]) rfl ⟨⟨_, _, rfl⟩, HC4.out⟩

end Go.Proofs.Ytbdkdfkhcmckhaa
