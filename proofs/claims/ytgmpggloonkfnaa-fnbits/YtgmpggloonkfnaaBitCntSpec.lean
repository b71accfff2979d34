/- l8Within, BitFirst, BitCount of the model. -/
import Derived.Test.YtgmpggloonkfnaaBitSpec
namespace Go.Proofs.Ytgmpggloonkfnaa
open Go.RowKit

/-- Where the bits that are asked for begin; how many there are. -/
def wlo (f : Int) : Int := if f < 0 then 0 else f
def wn (xs : List Int) : Int := if xs.length ≤ 2048 then 8 * (xs.length : Int) else 0
def whi (xs : List Int) (t : Int) : Int := if t < wn xs then t else wn xs

def firstFrom (xs : List Int) (i : Int) : Nat → Int
  | 0 => -1
  | n + 1 => if bitG xs i = true then firstFrom xs (i + 1) n else i
def countFrom (xs : List Int) (i : Int) : Nat → Nat
  | 0 => 0
  | n + 1 => (if bitG xs i = true then 1 else 0) + countFrom xs (i + 1) n
def firstD (xs : List Int) (f t : Int) : Int := firstFrom xs (wlo f) (whi xs t - wlo f).toNat
def countD (xs : List Int) (f t : Int) : Nat := countFrom xs (wlo f) (whi xs t - wlo f).toNat

theorem countFrom_le (xs : List Int) (n : Nat) : ∀ i, countFrom xs i n ≤ n := by
  induction n with
  | zero => intro i; exact Nat.le_refl _
  | succ n ih => intro i; unfold countFrom; have := ih (i + 1); split <;> omega

theorem wn_le (xs : List Int) : 0 ≤ wn xs ∧ wn xs ≤ 16384 := by unfold wn; split <;> omega
theorem whi_le (xs : List Int) (t : Int) : whi xs t ≤ 16384 := by have := wn_le xs; unfold whi; split <;> omega
theorem wlo_ge (f : Int) : 0 ≤ wlo f := by unfold wlo; split <;> omega

theorem tup2 {a a' b b' : Int} (h1 : a = a') (h2 : b = b') : Ending.returned (.tuple #[.int .i64 a, .int .i64 b]) = .returned (.tuple #[.int .i64 a', .int .i64 b']) := by rw [h1, h2]

set_option maxRecDepth 20000 in
set_option maxHeartbeats 400000 in
theorem within_calls (w : World) {lo hi : Nat} {a : Value} {xs : List Int} (f t : Int) (hl : xs.length ≤ 1048576) (h1 : View w lo hi .u8 a xs) :
    Calls Try.prog 21 #[a, .int .i64 f, .int .i64 t] w fun e w' => e = .returned (.tuple #[.int .i64 (wlo f), .int .i64 (whi xs t)]) ∧ w' = w := by
  obtain ⟨ao, cap, rfl, _, _, _⟩ := h1
  by_cases hn : xs.length ≤ 2048
  · have H2 : Hid (wn xs = 8 * (xs.length : Int)) := by show _ = _; unfold wn; rw [if_pos hn]
    have hn' : ¬ (2048 : Int) < (xs.length : Int) := by omega
    go_enter Try.func21, Try.ntmps21
    go_wp2
    all_goals
      go_ret2
      exact ⟨tup2 (by unfold wlo; split <;> omega) (by unfold whi; rw [H2.out]; split <;> omega), rfl⟩
  · have H2 : Hid (wn xs = 0) := by show _ = _; unfold wn; rw [if_neg hn]
    have hn' : (2048 : Int) < (xs.length : Int) := by omega
    go_enter Try.func21, Try.ntmps21
    go_wp2
    all_goals
      go_ret2
      exact ⟨tup2 (by unfold wlo; split <;> omega) (by unfold whi; rw [H2.out]; split <;> omega), rfl⟩

set_option maxRecDepth 20000 in
set_option maxHeartbeats 400000 in
theorem specBitCount_calls (w : World) {lo hi : Nat} {a : Value} {xs : List Int} (f t : Int) (hB : Byt xs) (hl : xs.length ≤ 1048576) (h1 : View w lo hi .u8 a xs) :
    Calls Try.prog 12 #[a, .int .i64 f, .int .i64 t] w fun e w' => e = .returned (.int .i64 (countD xs f t)) ∧ w' = w := by
  have HV : Hid (View w lo hi .u8 a xs) := h1
  have hN := within_calls w f t hl h1
  have Hlo : Hid (0 ≤ wlo f) := wlo_ge f
  have Hhi : Hid (whi xs t ≤ 16384) := whi_le xs t
  have HD : Hid (countD xs f t = countFrom xs (wlo f) (whi xs t - wlo f).toNat) := rfl
  obtain ⟨ao, cap, rfl, _, _, _⟩ := id h1
  clear h1
  go_enter Try.func12, Try.ntmps12
  go_wp2_with fail
  refine hN.mono ?_
  rintro e w1 ⟨rfl, rfl⟩
  clear hN
  generalize wlo f = L at *
  generalize whi xs t = T at *
  have hDb : countD xs f t ≤ 16384 := by have := countFrom_le xs (T - L).toNat L; have := HD.out; have := Hhi.out; have := Hlo.out; omega
  go_wp2
  go_loopw [9, 10] (fun c x wr => wr = w1 ∧ ∃ (i : Int) (n : Nat), c = .int .i64 n ∧ x = .int .i64 i ∧ L ≤ i ∧ countD xs f t = n + countFrom xs i (T - i).toNat) (fun _ x _ => (T - intOf x).toNat)
  case atStart => exact ⟨rfl, L, 0, rfl, rfl, Int.le_refl _, by rw [HD.out]; omega⟩
  case round =>
    obtain ⟨rfl, i, n, rfl, rfl, hi, hR⟩ := hrel
    have h16 := Hhi.out
    have hL0 := Hlo.out
    have hn : n ≤ 16384 := by omega
    by_cases hlt : i < T
    · have hC := specBitGet_calls wr i hB hl HV.out
      have hs : (T - i).toNat = (T - (i + 1)).toNat + 1 := by omega
      rw [hs] at hR
      go_wp2_with fail
      refine hC.mono ?_
      rintro e w2 ⟨rfl, rfl⟩
      cases hbit : bitG xs i with
      | true =>
        have Hn : Hid (countD xs f t = (n + 1) + countFrom xs (i + 1) (T - (i + 1)).toNat) := by show _ = _; rw [hR]; simp [countFrom, hbit]; omega
        clear hR hC
        go_wp2
        go_roundw
        case rel => exact ⟨trivial, i + 1, n + 1, by go_num, by go_num, by omega, Hn.out⟩
        case measure => simp [intOf]; omega
      | false =>
        have Hn : Hid (countD xs f t = n + countFrom xs (i + 1) (T - (i + 1)).toNat) := by show _ = _; rw [hR]; simp [countFrom, hbit]
        clear hR hC
        go_wp2
        go_roundw
        case rel => exact ⟨trivial, i + 1, n, rfl, by go_num, by omega, Hn.out⟩
        case measure => simp [intOf]; omega
    · have hs : (T - i).toNat = 0 := by omega
      have Hn : Hid (countD xs f t = n) := by show _ = _; rw [hR, hs]; rfl
      clear hR
      go_wp2
      go_ret
      exact ⟨by rw [Hn.out]; rfl, rfl⟩

end Go.Proofs.Ytgmpggloonkfnaa
