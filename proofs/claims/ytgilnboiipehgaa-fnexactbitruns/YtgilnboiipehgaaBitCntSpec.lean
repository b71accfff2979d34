/- l8Within, BitFirst, BitCount of the model. -/
import Derived.Test.YtgilnboiipehgaaBitSpec
namespace Go.Proofs.Ytgilnboiipehgaa
open Go.RowKit

/-- Where the bits that are asked for begin; how many there are. -/
def wlo (f : Int) : Int := if f < 0 then 0 else f
def wn (xs : List Int) : Int := if xs.length ≤ 2048 then 8 * (xs.length : Int) else 0
def whi (xs : List Int) (t : Int) : Int := if t < wn xs then t else wn xs

def firstFrom (xs : List Int) (i : Int) : Nat → Int
  | 0 => -1
  | n + 1 => if bitG xs i = true then firstFrom xs (i + 1) n else i
def countFrom (xs : List Int) (i : Int) : Nat → Nat
  | 0 => 0
  | n + 1 => (if bitG xs i = true then 1 else 0) + countFrom xs (i + 1) n
def firstD (xs : List Int) (f t : Int) : Int := firstFrom xs (wlo f) (whi xs t - wlo f).toNat
def countD (xs : List Int) (f t : Int) : Nat := countFrom xs (wlo f) (whi xs t - wlo f).toNat

theorem countFrom_le (xs : List Int) (n : Nat) : ∀ i, countFrom xs i n ≤ n := by
  induction n with
  | zero => intro i; exact Nat.le_refl _
  | succ n ih => intro i; unfold countFrom; have := ih (i + 1); split <;> omega

theorem wn_le (xs : List Int) : 0 ≤ wn xs ∧ wn xs ≤ 16384 := by unfold wn; split <;> omega
theorem whi_le (xs : List Int) (t : Int) : whi xs t ≤ 16384 := by have := wn_le xs; unfold whi; split <;> omega
theorem wlo_ge (f : Int) : 0 ≤ wlo f := by unfold wlo; split <;> omega

theorem tup2 {a a' b b' : Int} (h1 : a = a') (h2 : b = b') : Ending.returned (.tuple #[.int .i64 a, .int .i64 b]) = .returned (.tuple #[.int .i64 a', .int .i64 b']) := by rw [h1, h2]

set_option maxRecDepth 20000 in
set_option maxHeartbeats 400000 in
theorem within_calls (w : World) {lo hi : Nat} {a : Value} {xs : List Int} (f t : Int) (hl : xs.length ≤ 1048576) (h1 : View w lo hi .u8 a xs) :
    Calls Try.prog 12 #[a, .int .i64 f, .int .i64 t] w fun e w' => e = .returned (.tuple #[.int .i64 (wlo f), .int .i64 (whi xs t)]) ∧ w' = w := by
  obtain ⟨ao, cap, rfl, _, _, _⟩ := h1
  by_cases hn : xs.length ≤ 2048
  · have H2 : Hid (wn xs = 8 * (xs.length : Int)) := by show _ = _; unfold wn; rw [if_pos hn]
    have hn' : ¬ (2048 : Int) < (xs.length : Int) := by omega
    go_enter Try.func12, Try.ntmps12
    go_wp2
    all_goals
      go_ret2
      exact ⟨tup2 (by unfold wlo; split <;> omega) (by unfold whi; rw [H2.out]; split <;> omega), rfl⟩
  · have H2 : Hid (wn xs = 0) := by show _ = _; unfold wn; rw [if_neg hn]
    have hn' : (2048 : Int) < (xs.length : Int) := by omega
    go_enter Try.func12, Try.ntmps12
    go_wp2
    all_goals
      go_ret2
      exact ⟨tup2 (by unfold wlo; split <;> omega) (by unfold whi; rw [H2.out]; split <;> omega), rfl⟩

end Go.Proofs.Ytgilnboiipehgaa
