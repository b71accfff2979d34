/- ValidGeometry, Layout of the program. -/
import Derived.Test.YthfhleddpiemoaaDoorGeoSpec
import Derived.Test.YthfhleddpiemoaaDoorIsWithin
namespace Go.Proofs.YthfhleddpiemoaaDoor
open Go.RowKit

set_option maxRecDepth 20000 in
set_option maxHeartbeats 400000 in
theorem roundedUp_512 (w : World) (a : Nat) (ha : a ≤ 2048) : Calls Tryd.prog 31 #[.int .i64 a, .int .i64 512] w fun e w' => e = .returned (.int .i64 (upN a 512)) ∧ w' = w := by
  have HU : Hid (((upN a 512 : Nat) : Int) = ((a : Int) + 511) / 512) := by show _ = _; unfold upN; omega
  go_enter Tryd.func31, Tryd.ntmps31
  go_wp2
  go_ret
  refine ⟨?_, rfl⟩
  rw [HU.out]
  go_num

set_option maxRecDepth 20000 in
set_option maxHeartbeats 400000 in
theorem roundedUp_2 (w : World) (n : Nat) (hn : n ≤ 256) : Calls Tryd.prog 31 #[.int .i64 n, .int .i64 2] w fun e w' => e = .returned (.int .i64 (upN (n * 32) 64)) ∧ w' = w := by
  have HU : Hid (((upN (n * 32) 64 : Nat) : Int) = ((n : Int) + 1) / 2) := by show _ = _; unfold upN; omega
  go_enter Tryd.func31, Tryd.ntmps31
  go_wp2
  go_ret
  refine ⟨?_, rfl⟩
  rw [HU.out]
  go_num

set_option maxRecDepth 20000 in
set_option maxHeartbeats 2000000 in
theorem placesOf_calls (w : World) (b l n : Nat) (hb : b ≤ 2048) (hl : l ≤ 512) (hn : n ≤ 256) : Calls Tryd.prog 26 #[geoV b l n] w fun e w' => e = .returned (placesV b l n) ∧ Chg 0 0 w w' := by
  have k1 := up512_le (a := b) (by omega)
  have k2 := up64_le (a := n * 32) (by omega)
  obtain ⟨mb, Hmb⟩ : ∃ m, Hid (upN b 512 = m) := ⟨_, rfl⟩
  obtain ⟨tb, Htb⟩ : ∃ m, Hid (upN (n * 32) 64 = m) := ⟨_, rfl⟩
  rw [Hmb.out] at k1
  rw [Htb.out] at k2
  go_enter Tryd.func26, Tryd.ntmps26
  go_wp2_with fail
  refine (roundedUp_512 _ b (by omega)).mono ?_
  rintro e w1 ⟨rfl, rfl⟩
  rw [Hmb.out]
  go_wp2_with fail
  refine (roundedUp_2 _ n (by omega)).mono ?_
  rintro e w1 ⟨rfl, rfl⟩
  rw [Htb.out]
  go_wp2
  refine bodyPost_ret (v := placesV b l n) (by simp [results, Tryd.results26, go_sem]; unfold placesV dataAt; rw [Hmb.out, Htb.out]; exact plV_ext (by omega) (by omega) rfl (by omega) rfl (by omega) (by omega)) rfl ⟨rfl, ?_⟩
  exact ((Chg.alloc (Chg.refl 0 0 w) _).alloc _).alloc _

set_option maxRecDepth 20000 in
set_option maxHeartbeats 1000000 in
theorem implValid_in (w : World) (b l n : Nat) (h1 : 16 ≤ l) (h2 : l ≤ 512) (h3 : 1 ≤ n) (h4 : n ≤ 256) (h5 : 1 ≤ b) (h6 : b ≤ 2048) :
    Calls Tryd.prog 20 #[geoV b l n] w fun e w' => e = .returned (.bool (decide (dataAt b l n < b))) ∧ Chg 0 0 w w' := by
  have q1 : ∀ W : World, Calls Tryd.prog 25 #[.int .i64 l, .int .i64 16, .int .i64 512] W fun e w' => e = .returned (.bool true) ∧ w' = W := by
    intro W; have := isWithin_calls W l 16 512; rw [decide_eq_true (show (16 : Int) ≤ l by omega), decide_eq_true (show (l : Int) ≤ 512 by omega)] at this; exact this
  have q2 : ∀ W : World, Calls Tryd.prog 25 #[.int .i64 n, .int .i64 1, .int .i64 256] W fun e w' => e = .returned (.bool true) ∧ w' = W := by
    intro W; have := isWithin_calls W n 1 256; rw [decide_eq_true (show (1 : Int) ≤ n by omega), decide_eq_true (show (n : Int) ≤ 256 by omega)] at this; exact this
  have q3 : ∀ W : World, Calls Tryd.prog 25 #[.int .i64 b, .int .i64 1, .int .i64 2048] W fun e w' => e = .returned (.bool true) ∧ w' = W := by
    intro W; have := isWithin_calls W b 1 2048; rw [decide_eq_true (show (1 : Int) ≤ b by omega), decide_eq_true (show (b : Int) ≤ 2048 by omega)] at this; exact this
  have HA : Hid (Chg 0 0 w (w.alloc (.cells #[.int .i64 b, .int .i64 l, .int .i64 n] 24))) := Chg.alloc (Chg.refl 0 0 w) _
  have hN := placesOf_calls (w.alloc (.cells #[.int .i64 b, .int .i64 l, .int .i64 n] 24)) b l n h6 h2 h4
  obtain ⟨c0, c1, c2, c3, c4, c5, HP⟩ : ∃ c0 c1 c2 c3 c4 c5, Hid (placesV b l n = .agg #[.int .i64 c0, .int .i64 c1, .int .i64 c2, .int .i64 c3, .int .i64 c4, .int .i64 c5, .int .i64 ((b : Int) - dataAt b l n)]) := ⟨_, _, _, _, _, _, rfl⟩
  rw [HP.out] at hN
  have hfd := fun W => field_pl W c0 c1 c2 c3 c4 c5 ((b : Int) - dataAt b l n)
  clear HP
  obtain ⟨D, HD⟩ : ∃ D, Hid (dataAt b l n = D) := ⟨_, rfl⟩
  rw [HD.out] at hN hfd
  go_enter Tryd.func20, Tryd.ntmps20
  go_wp2_with fail
  refine (q1 _).mono ?_
  rintro e w1 ⟨rfl, rfl⟩
  go_wp2_with fail
  refine (q2 _).mono ?_
  rintro e w1 ⟨rfl, rfl⟩
  go_wp2_with fail
  refine (q3 _).mono ?_
  rintro e w1 ⟨rfl, rfl⟩
  go_wp2_with fail
  refine hN.mono ?_
  rintro e w1 ⟨rfl, hc⟩
  clear hN q1 q2 q3
  have HC : Hid (Chg 0 0 w w1) := HA.out.trans hc
  clear hc
  by_cases hD : D < b
  · have hd : (1 : Int) ≤ (b : Int) - (D : Int) := by omega
    go_wp2
    go_ret
    exact ⟨by rw [HD.out, decide_eq_true hD]; rfl, HC.out⟩
  · have hd : ¬ (1 : Int) ≤ (b : Int) - (D : Int) := by omega
    go_wp2
    go_ret
    exact ⟨by rw [HD.out, decide_eq_false hD, ← decide_eq_false (show ¬ (1 : Int) ≤ (b : Int) - (D : Int) by omega)]; rfl, HC.out⟩

set_option maxRecDepth 20000 in
set_option maxHeartbeats 1000000 in
theorem implValid_out (w : World) (b l n : Int) (hx : ¬ (16 ≤ l ∧ l ≤ 512 ∧ 1 ≤ n ∧ n ≤ 256 ∧ 1 ≤ b ∧ b ≤ 2048)) :
    Calls Tryd.prog 20 #[geoV b l n] w fun e w' => e = .returned (.bool false) ∧ Chg 0 0 w w' := by
  have HA : Hid (Chg 0 0 w (w.alloc (.cells #[.int .i64 b, .int .i64 l, .int .i64 n] 24))) := Chg.alloc (Chg.refl 0 0 w) _
  have q1 := fun W => isWithin_calls W l 16 512
  have q2 := fun W => isWithin_calls W n 1 256
  have q3 := fun W => isWithin_calls W b 1 2048
  rw [← Bool.decide_and] at q1 q2 q3
  by_cases e1 : (16 : Int) ≤ l ∧ l ≤ 512
  · rw [decide_eq_true e1] at q1
    by_cases e2 : (1 : Int) ≤ n ∧ n ≤ 256
    · rw [decide_eq_true e2] at q2
      have e3 : ¬ ((1 : Int) ≤ b ∧ b ≤ 2048) := by omega
      rw [decide_eq_false e3] at q3
      clear hx e1 e2 e3
      go_enter Tryd.func20, Tryd.ntmps20
      go_wp2_with fail
      refine (q1 _).mono ?_
      rintro e w1 ⟨rfl, rfl⟩
      go_wp2_with fail
      refine (q2 _).mono ?_
      rintro e w1 ⟨rfl, rfl⟩
      go_wp2_with fail
      refine (q3 _).mono ?_
      rintro e w1 ⟨rfl, rfl⟩
      clear q1 q2 q3
      go_wp2
      go_ret
      exact ⟨rfl, HA.out⟩
    · rw [decide_eq_false e2] at q2
      clear hx e1 e2
      go_enter Tryd.func20, Tryd.ntmps20
      go_wp2_with fail
      refine (q1 _).mono ?_
      rintro e w1 ⟨rfl, rfl⟩
      go_wp2_with fail
      refine (q2 _).mono ?_
      rintro e w1 ⟨rfl, rfl⟩
      clear q1 q2 q3
      go_wp2
      go_ret
      exact ⟨rfl, HA.out⟩
  · rw [decide_eq_false e1] at q1
    clear hx e1
    go_enter Tryd.func20, Tryd.ntmps20
    go_wp2_with fail
    refine (q1 _).mono ?_
    rintro e w1 ⟨rfl, rfl⟩
    clear q1 q2 q3
    go_wp2
    go_ret
    exact ⟨rfl, HA.out⟩

theorem implValidGeometry_calls (w : World) (b l n : Int) :
    Calls Tryd.prog 20 #[geoV b l n] w fun e w' => e = .returned (.bool (geoB b l n)) ∧ Chg 0 0 w w' := by
  by_cases h : GeoIn b l n
  · obtain ⟨h1, h2, h3, h4, h5, h6⟩ := id h
    obtain ⟨p, rfl⟩ : ∃ p : Nat, b = p := ⟨b.toNat, by omega⟩
    obtain ⟨q, rfl⟩ : ∃ q : Nat, l = q := ⟨l.toNat, by omega⟩
    obtain ⟨r, rfl⟩ : ∃ r : Nat, n = r := ⟨n.toNat, by omega⟩
    rw [geoB_in h]
    exact implValid_in w p q r (by omega) (by omega) (by omega) (by omega) (by omega) (by omega)
  · rw [geoB_out h]
    exact implValid_out w b l n h

end Go.Proofs.YthfhleddpiemoaaDoor
