/- Maps of bits of the program: within, TrailingZeros8, next. -/
import Derived.Test.YtgmpggloonkfnaaImplBM
import Derived.Lib.BitFns
namespace Go.Proofs.Ytgmpggloonkfnaa
open Go.RowKit

set_option maxRecDepth 200000 in
set_option maxHeartbeats 400000 in
theorem tz_calls (w : World) (x : Int) (h0 : 0 ≤ x) (h1 : x ≤ 255) :
    Calls Try.prog 30 #[.int .u8 x] w fun e w' => e = .returned (.int .i64 (Lib.trailingZeros8 x.toNat)) ∧ w' = w := by
  have H : Hid ((Lib.ntz8 x + 9223372036854775808) % 18446744073709551616 - 9223372036854775808 = (Lib.trailingZeros8 x.toNat : Int)) := Lib.ntz8_int x h0 h1
  go_enter Try.func30, Try.ntmps30
  go_wp2
  go_ret
  refine ⟨?_, rfl⟩
  show Ending.returned (.int .i64 (wrap64 (Lib.ntz8 x))) = _
  rw [← H.out]
  generalize Lib.ntz8 x = z
  simp only [wrap64]

/-- The bounds, cut to the bits. -/
def cutA (n : Nat) (f : Int) : Nat := (min (max f 0) (8 * (n : Int))).toNat
def cutE (n : Nat) (f t : Int) : Nat := (min (max t (cutA n f)) (8 * (n : Int))).toNat

theorem tup2' {a a' b b' : Int} (h1 : a = a') (h2 : b = b') : Ending.returned (.tuple #[.int .i64 a, .int .i64 b]) = .returned (.tuple #[.int .i64 a', .int .i64 b']) := by rw [h1, h2]

set_option maxRecDepth 20000 in
set_option maxHeartbeats 400000 in
theorem bwithin_calls (w : World) (ao : Option Addr) (n cap : Nat) (f t : Int) (hl : n ≤ 2048) :
    Calls Try.prog 17 #[.slice ao n cap, .int .i64 f, .int .i64 t] w fun e w' => e = .returned (.tuple #[.int .i64 (cutA n f), .int .i64 (cutE n f t)]) ∧ w' = w := by
  have hS := fun w => size_calls w ao n cap hl
  go_enter Try.func17, Try.ntmps17
  go_wp2_with (go_at_call 27; refine (hS _).mono ?_; rintro e w1 ⟨rfl, rfl⟩)
  all_goals
    go_ret2
    refine ⟨tup2' ?_ ?_, rfl⟩
  all_goals
    simp only [cutA, cutE]
    omega

/-- The first place from i on that is as asked; n ahead are looked at. -/
def nxtB (ys : List Int) (on : Bool) : Nat → Nat → Nat
  | i, 0 => i
  | i, n + 1 => if bitN ys i = on then i else nxtB ys on (i + 1) n

theorem nxtB_hit {ys : List Int} {on : Bool} {i n : Nat} (h : bitN ys i = on) : nxtB ys on i n = i := by
  cases n with
  | zero => rfl
  | succ n => unfold nxtB; rw [if_pos h]
theorem nxtB_skip {ys : List Int} {on : Bool} : ∀ (m i n : Nat), (∀ k, k < m → bitN ys (i + k) ≠ on) → nxtB ys on i (m + n) = nxtB ys on (i + m) n
  | 0, i, n, _ => by rw [Nat.zero_add]; rfl
  | m + 1, i, n, h => by
    have h0 : bitN ys i ≠ on := h 0 (by omega)
    rw [show m + 1 + n = (m + n) + 1 by omega, show nxtB ys on i (m + n + 1) = nxtB ys on (i + 1) (m + n) from by show (if _ then _ else _) = _; rw [if_neg h0], nxtB_skip m (i + 1) n (fun k hk => by have := h (k + 1) (by omega); rwa [show i + (k + 1) = i + 1 + k by omega] at this)]
    rw [show i + 1 + m = i + (m + 1) by omega]
theorem nxtB_bounds {ys : List Int} {on : Bool} : ∀ (n i : Nat), i ≤ nxtB ys on i n ∧ nxtB ys on i n ≤ i + n
  | 0, i => ⟨Nat.le_refl _, Nat.le_refl _⟩
  | n + 1, i => by
    unfold nxtB
    split
    · omega
    · have := nxtB_bounds (ys := ys) (on := on) n (i + 1); omega
theorem nxtB_ahead {ys : List Int} {on : Bool} : ∀ (n i k : Nat), i ≤ k → k < nxtB ys on i n → bitN ys k ≠ on
  | 0, i, k, h1, h2 => by have : nxtB ys on i 0 = i := rfl; omega
  | n + 1, i, k, h1, h2 => by
    unfold nxtB at h2
    by_cases h : bitN ys i = on
    · rw [if_pos h] at h2; omega
    · rw [if_neg h] at h2
      by_cases e : k = i
      · rw [e]; exact h
      · exact nxtB_ahead n (i + 1) k (by omega) h2
theorem nxtB_at {ys : List Int} {on : Bool} : ∀ (n i : Nat), nxtB ys on i n < i + n → bitN ys (nxtB ys on i n) = on
  | 0, i, h => by have : nxtB ys on i 0 = i := rfl; omega
  | n + 1, i, h => by
    unfold nxtB at h ⊢
    by_cases h' : bitN ys i = on
    · rw [if_pos h']; exact h'
    · rw [if_neg h'] at h ⊢
      exact nxtB_at n (i + 1) (by omega)

/-- What 'next' tells from i on. -/
def nextAt (ys : List Int) (on : Bool) (E i : Nat) : Nat := if i < E then nxtB ys on i (E - i) else E

/-- A byte from bit r on. -/
def zB (y r : Nat) (on : Bool) : Nat := (if on then y else 255 - y) / 2 ^ r
theorem zB_facts : ∀ y : Fin 256, ∀ r : Fin 8, ∀ on : Bool, (zB y.val r.val on = 0 → ∀ q : Fin 8, r ≤ q → decide (y.val / 2 ^ q.val % 2 = 1) ≠ on) ∧
    (zB y.val r.val on ≠ 0 → r.val + Lib.trailingZeros8 (zB y.val r.val on) < 8 ∧ decide (y.val / 2 ^ (r.val + Lib.trailingZeros8 (zB y.val r.val on)) % 2 = 1) = on ∧
      ∀ q : Fin 8, r ≤ q → q.val < r.val + Lib.trailingZeros8 (zB y.val r.val on) → decide (y.val / 2 ^ q.val % 2 = 1) ≠ on) := by decide +kernel
theorem zB_lt {y r : Nat} (on : Bool) (hy : y < 256) : zB y r on < 256 := by
  unfold zB
  refine Nat.lt_of_le_of_lt (Nat.div_le_self _ _) ?_
  split <;> omega

theorem nextAt_zero {ys : List Int} {on : Bool} {E i y : Nat} (hy : ys.getD (i / 8) 0 = y) (hy2 : y < 256) (hi : i < E) (hz : zB y (i % 8) on = 0) : nextAt ys on E i = nextAt ys on E (i + (8 - i % 8)) := by
  have hr : i % 8 < 8 := by omega
  have H := (zB_facts ⟨y, hy2⟩ ⟨i % 8, hr⟩ on).1 hz
  have hB : ∀ k, k < 8 - i % 8 → bitN ys (i + k) ≠ on := by
    intro k hk
    have := H ⟨i % 8 + k, by omega⟩ (by show i % 8 ≤ i % 8 + k; omega)
    unfold bitN
    rw [show (i + k) / 8 = i / 8 by omega, show (i + k) % 8 = i % 8 + k by omega, hy]
    exact this
  unfold nextAt
  rw [if_pos hi]
  by_cases h2 : i + (8 - i % 8) < E
  · rw [if_pos h2, show E - i = (8 - i % 8) + (E - (i + (8 - i % 8))) by omega, nxtB_skip _ _ _ hB]
  · rw [if_neg h2, show E - i = (E - i) + 0 by omega, nxtB_skip _ _ _ (fun k hk => hB k (by omega))]
    show i + (E - i) = E
    omega

theorem nextAt_hit {ys : List Int} {on : Bool} {E i y : Nat} (hy : ys.getD (i / 8) 0 = y) (hy2 : y < 256) (hi : i < E) (hz : zB y (i % 8) on ≠ 0) : nextAt ys on E i = min (i + Lib.trailingZeros8 (zB y (i % 8) on)) E := by
  have hr : i % 8 < 8 := by omega
  obtain ⟨h1, h2, h3⟩ := (zB_facts ⟨y, hy2⟩ ⟨i % 8, hr⟩ on).2 hz
  generalize Lib.trailingZeros8 (zB y (i % 8) on) = d at *
  simp only at h1 h2 h3
  have hB : ∀ k, k < d → bitN ys (i + k) ≠ on := by
    intro k hk
    have := h3 ⟨i % 8 + k, by omega⟩ (by show i % 8 ≤ i % 8 + k; omega) (by show i % 8 + k < i % 8 + d; omega)
    unfold bitN
    rw [show (i + k) / 8 = i / 8 by omega, show (i + k) % 8 = i % 8 + k by omega, hy]
    exact this
  have hd : bitN ys (i + d) = on := by
    unfold bitN
    rw [show (i + d) / 8 = i / 8 by omega, show (i + d) % 8 = i % 8 + d by omega, hy]
    exact h2
  unfold nextAt
  rw [if_pos hi]
  by_cases h : i + d < E
  · rw [show E - i = d + (E - (i + d)) by omega, nxtB_skip _ _ _ hB, nxtB_hit hd, Nat.min_eq_left (by omega)]
  · rw [show E - i = (E - i) + 0 by omega, nxtB_skip _ _ _ (fun k hk => hB k (by omega)), Nat.min_eq_right (by omega)]
    show i + (E - i) = E
    omega

end Go.Proofs.Ytgmpggloonkfnaa
