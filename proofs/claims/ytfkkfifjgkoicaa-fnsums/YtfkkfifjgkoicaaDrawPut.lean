/- The model's DrawPutNumber: two numbers. -/
import Derived.Test.YtfkkfifjgkoicaaDraw
import Derived.Deep.DeepCutAuto
namespace Go.Proofs.Ytfkkfifjgkoicaa
open Go.RowKit

/-- An int64. -/
def In64 (v : Int) : Prop := -9223372036854775808 ≤ v ∧ v ≤ 9223372036854775807

theorem in64_wrap (x : Int) : In64 (wrap64 x) := by unfold In64 wrap64; omega

set_option maxRecDepth 20000 in
set_option maxHeartbeats 4000000 in
theorem drawPut_calls (w : World) {lo hi : Nat} {cv : Value} {code : List Int} (hB : Byt code) (hcl : code.length ≤ 1048576) (hc : View w lo hi .u8 cv code) (hhi : hi ≤ w.heap.size) :
    Calls Try.prog 9 #[cv] w fun e w' => (∃ v n : Int, e = .returned (.tuple #[.int .i64 v, .int .i64 n]) ∧ In64 v) ∧ Chg 0 0 w w' := by
  have v0 := hc
  obtain ⟨ao, cap, rfl, hl, _, _⟩ := hc
  go_enter Try.func9, Try.ntmps9
  go_wp2_with fail
  refine (l1Source_calls _ ao code.length cap hl).mono ?_
  rintro e w1 ⟨rfl, s1, c1⟩
  have v1 := v0.chg c1 (by omega)
  generalize min (code.length / 16) 12 = z at *
  go_wp2_with fail
  refine (l1Next_calls _ w.heap.size 0 _ 10 (by omega) hB hcl (by omega) s1 v1 (Or.inr hhi)).mono ?_
  rintro e w2 ⟨rfl, s2, c2⟩
  have hr0 := nxt_range code 0 10
  have hr0' := hr0.2 (by omega)
  have v2 := v1.chg c2 (by omega)
  have C2 : Chg 0 0 w w2 := c1.step c2 (Or.inr (Or.inl (Nat.le_refl _)))
  clear s1 v1 c1 c2
  generalize nxt code 0 10 = n at *
  go_wp2_with fail
  refine (l1Next_calls _ w.heap.size 1 _ 9 (by omega) hB hcl (by omega) s2 v2 (Or.inr hhi)).mono ?_
  rintro e w3 ⟨rfl, s3, c3⟩
  have hr1 := nxt_range code 1 9
  have hr1' := hr1.2 (by omega)
  have C3 : Chg 0 0 w w3 := C2.step c3 (Or.inr (Or.inl (Nat.le_refl _)))
  clear s2 v2 C2 c3
  obtain ⟨i0, hi0⟩ : ∃ i0 : Nat, nxt code 1 9 = (i0 : Int) := ⟨(nxt code 1 9).toNat, by omega⟩
  have hi9 : i0 < 9 := by omega
  rw [hi0]
  have HS3 : Hid (SrcAt w3 w.heap.size (.slice ao code.length cap) (1 + 1) z) := s3
  have HC3 : Hid (Chg 0 0 w w3) := C3
  clear s3 C3 hi0 hr1 hr1'
  go_wp2
  go_loopw [6, 7] (fun v i wr => (∃ x : Int, v = .int .i64 x ∧ In64 x) ∧ ∃ k p : Nat, k ≤ i0 ∧ i = .int .i64 k ∧ p + k ≤ 20 ∧ SrcAt wr w.heap.size (.slice ao code.length cap) p z ∧ Chg 0 0 w wr) (fun _ i _ => (intOf i).toNat)
  case atStart => exact ⟨⟨0, rfl, by unfold In64; omega⟩, i0, 2, Nat.le_refl _, rfl, by omega, HS3.out, HC3.out⟩
  case round =>
    obtain ⟨⟨x, rfl, hx⟩, k, p, hk, rfl, hp, hs, hch⟩ := hrel
    clear HS3 HC3
    have HS : Hid (SrcAt wr w.heap.size (.slice ao code.length cap) p z) := hs
    have HC : Hid (Chg 0 0 w wr) := hch
    have HX : Hid (In64 x) := hx
    clear hs hch hx
    by_cases hk0 : 0 < k
    · have hk' : (k : Int) > 0 := by omega
      go_wp2_with fail
      refine (l1Next_calls _ w.heap.size p _ 256 (by omega) hB hcl (by omega) HS.out (v0.chg HC.out (by omega)) (Or.inr hhi)).mono ?_
      rintro e w4 ⟨rfl, s4, c4⟩
      have HS4 : Hid (SrcAt w4 w.heap.size (.slice ao code.length cap) (p + 1) z) := s4
      have HC4 : Hid (Chg 0 0 w w4) := HC.out.step c4 (Or.inr (Or.inl (Nat.le_refl _)))
      clear s4 c4 HS HC
      generalize nxt code p 256 = y at *
      go_wp2
      go_roundw
      case rel => exact ⟨⟨_, rfl, in64_wrap _⟩, k - 1, p + 1, by omega, by congr 1; omega, by omega, HS4.out, HC4.out⟩
      case measure => simp [intOf]; omega
    · obtain rfl : k = 0 := by omega
      clear hk hk0
      have hx64 := HX.out
      unfold In64 at hx64
      go_upto_if 25 with fail
      go_cut [6] (fun s6 wx => (∃ x : Int, s6 = .int .i64 x ∧ In64 x) ∧ wx = wr)
      case first =>
        by_cases hneg : x < 0
        · go_wp2
          go_meet
          exact ⟨⟨_, rfl, by unfold In64; omega⟩, rfl⟩
        · go_wp2
          go_meet
          exact ⟨⟨_, rfl, HX.out⟩, rfl⟩
      case rest =>
        obtain ⟨⟨y, rfl, hy⟩, rfl⟩ := hcut
        have HY : Hid (In64 y) := hy
        clear hy HX hx64
        go_upto_region 10 with fail
        go_cut [37] (fun s37 wx => (∃ c : Bool, s37 = .bool c) ∧ SrcAt wx w.heap.size (.slice ao code.length cap) (p + 1) z ∧ Chg 0 0 w wx)
        case first =>
          go_wp2_with fail
          refine (l1Chance_calls _ w.heap.size p _ 4 (by omega) hB hcl (by omega) HS.out (v0.chg HC.out (by omega)) (Or.inr hhi)).mono ?_
          rintro e w4 ⟨rfl, s4, c4⟩
          have HS4 : Hid (SrcAt w4 w.heap.size (.slice ao code.length cap) (p + 1) z) := s4
          have HC4 : Hid (Chg 0 0 w w4) := HC.out.step c4 (Or.inr (Or.inl (Nat.le_refl _)))
          clear s4 c4 HS HC
          generalize (nxt code p 4 == 0) = ch at *
          cases ch
          · go_wp2
            go_meet
            exact ⟨⟨_, rfl⟩, HS4.out, HC4.out⟩
          · by_cases hn1 : n > 0
            · by_cases hn2 : n < 8
              · go_wp2
                go_meet
                exact ⟨⟨_, rfl⟩, HS4.out, HC4.out⟩
              · go_wp2
                go_meet
                exact ⟨⟨_, rfl⟩, HS4.out, HC4.out⟩
            · go_wp2
              go_meet
              exact ⟨⟨_, rfl⟩, HS4.out, HC4.out⟩
        case rest =>
          obtain ⟨⟨ch, rfl⟩, hs4, hc4⟩ := hcut
          have HS4 : Hid (SrcAt wc w.heap.size (.slice ao code.length cap) (p + 1) z) := hs4
          have HC4 : Hid (Chg 0 0 w wc) := hc4
          clear hs4 hc4 HS HC
          go_upto_if 37 with fail
          go_cut [6, 8] (fun s6 s8 wx => (∃ x : Int, s6 = .int .i64 x ∧ In64 x) ∧ (∃ t : Value, s8 = t) ∧ ∃ q : Nat, q ≤ 30 ∧ SrcAt wx w.heap.size (.slice ao code.length cap) q z ∧ Chg 0 0 w wx)
          case first =>
            cases ch
            · go_wp2
              go_meet
              exact ⟨⟨_, rfl, HY.out⟩, ⟨_, rfl⟩, p + 1, by omega, HS4.out, HC4.out⟩
            · go_wp2
              go_loop [6, 8] (fun v j => (∃ x : Int, v = .int .i64 x ∧ In64 x) ∧ ∃ k : Nat, k ≤ 10 ∧ j = .int .i64 k) (fun _ j => 10 - (intOf j).toNat)
              case atStart => exact ⟨⟨1, rfl, by unfold In64; omega⟩, 0, by omega, rfl⟩
              case round =>
                obtain ⟨⟨x, rfl, hx⟩, k, hk, rfl⟩ := hrel
                have HX : Hid (In64 x) := hx
                have hx64 := hx
                unfold In64 at hx64
                clear hx
                by_cases hkn : (k : Int) < n
                · go_wp2
                  go_round
                  case rel => exact ⟨⟨_, rfl, in64_wrap _⟩, k + 1, by omega, by go_num⟩
                  case measure => simp [intOf]; omega
                · go_wp2_with fail
                  refine (l1Next_calls _ w.heap.size (p + 1) _ 2 (by omega) hB hcl (by omega) HS4.out (v0.chg HC4.out (by omega)) (Or.inr hhi)).mono ?_
                  rintro e w5 ⟨rfl, s5, c5⟩
                  have HS5 : Hid (SrcAt w5 w.heap.size (.slice ao code.length cap) (p + 1 + 1) z) := s5
                  have HC5 : Hid (Chg 0 0 w w5) := HC4.out.step c5 (Or.inr (Or.inl (Nat.le_refl _)))
                  clear s5 c5 HS4 HC4
                  generalize nxt code (p + 1) 2 = y2 at *
                  go_wp2
                  go_meet
                  exact ⟨⟨_, rfl, in64_wrap _⟩, ⟨_, rfl⟩, p + 1 + 1, by omega, HS5.out, HC5.out⟩
          case rest =>
            obtain ⟨⟨x, rfl, hx⟩, ⟨t8, rfl⟩, q, hq, hs5, hc5⟩ := hcut
            have HX : Hid (In64 x) := hx
            have HS5 : Hid (SrcAt wc w.heap.size (.slice ao code.length cap) q z) := hs5
            have HC5 : Hid (Chg 0 0 w wc) := hc5
            clear hs5 hc5 HS4 HC4 HY hx
            go_wp2_with fail
            refine (l1Chance_calls _ w.heap.size q _ 12 (by omega) hB hcl (by omega) HS5.out (v0.chg HC5.out (by omega)) (Or.inr hhi)).mono ?_
            rintro e w6 ⟨rfl, s6, c6⟩
            have HS6 : Hid (SrcAt w6 w.heap.size (.slice ao code.length cap) (q + 1) z) := s6
            have HC6 : Hid (Chg 0 0 w w6) := HC5.out.step c6 (Or.inr (Or.inl (Nat.le_refl _)))
            clear s6 c6 HS5 HC5
            generalize (nxt code q 12 == 0) = ch2 at *
            cases ch2
            all_goals
              go_wp2_with fail
              refine (l1Chance_calls _ w.heap.size (q + 1) _ 20 (by omega) hB hcl (by omega) HS6.out (v0.chg HC6.out (by omega)) (Or.inr hhi)).mono ?_
              rintro e w7 ⟨rfl, s7, c7⟩
              have HC7 : Hid (Chg 0 0 w w7) := HC6.out.step c7 (Or.inr (Or.inl (Nat.le_refl _)))
              clear s7 c7 HS6 HC6
              generalize (nxt code (q + 1) 20 == 0) = ch3 at *
              cases ch3
              all_goals
                go_wp2
                refine bodyPost_ret (v := .tuple #[.int .i64 _, .int .i64 n]) (by simp [results, Try.results9, go_sem]; rfl) rfl ⟨⟨_, _, rfl, by first | exact HX.out | (unfold In64; omega)⟩, HC7.out⟩

end Go.Proofs.Ytfkkfifjgkoicaa
