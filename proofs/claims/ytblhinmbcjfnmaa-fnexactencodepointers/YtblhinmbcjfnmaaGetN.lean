/- GetNumber of both. -/
import Derived.Test.YtblhinmbcjfnmaaRows
import Derived.Test.YtblhinmbcjfnmaaByt
import Derived.Laws.BitsAllLaws
namespace Go.Proofs.Ytblhinmbcjfnmaa
open Go.RowKit

/-- The number of which these are the bytes. -/
def num (xs : List Int) : Int := xs.foldl (fun v x => v * 256 + x) 0

theorem num_take_succ (xs : List Int) (k : Nat) (h : k < xs.length) : num (xs.take (k + 1)) = num (xs.take k) * 256 + xs.getD k 0 := by
  unfold num
  rw [List.take_succ_eq_append_getElem h, List.foldl_append]
  simp [List.getD_eq_getElem?_getD, h]

/-- A number of k bytes, the first of which is at most m, lies below (m + 1) * 256 ^ (k - 1). -/
theorem num_bound {xs : List Int} (h : Byt xs) (m : Nat) (hm : xs.getD 0 0 ≤ m) : ∀ k, k < xs.length → 0 ≤ num (xs.take (k + 1)) ∧ num (xs.take (k + 1)) < (m + 1) * 256 ^ k := by
  intro k
  induction k with
  | zero =>
    intro hk
    rw [num_take_succ xs 0 hk]
    have := h.getD 0
    simp only [List.take_zero, num, List.foldl_nil, Int.pow_zero]; omega
  | succ k ih =>
    intro hk
    have h1 := ih (by omega)
    rw [num_take_succ xs (k + 1) hk]
    have := h.getD (k + 1)
    have e : ((m : Int) + 1) * 256 ^ (k + 1) = ((m + 1) * 256 ^ k) * 256 := by rw [Int.pow_succ, Int.mul_assoc]
    rw [e]
    omega

theorem pw_le {k n : Nat} (h : k ≤ n) : (256 : Int) ^ k ≤ 256 ^ n := by
  induction n with
  | zero => rw [Nat.le_zero.1 h]; exact Int.le_refl _
  | succ n ih =>
    rcases Nat.lt_or_ge k (n + 1) with h' | h'
    · have h1 := ih (by omega)
      have h2 : (0 : Int) ≤ 256 ^ n := Int.le_of_lt (Int.pow_pos (by decide))
      rw [Int.pow_succ]; omega
    · rw [Nat.le_antisymm h h']; exact Int.le_refl _

theorem num_lt {xs : List Int} (h : Byt xs) (hl : xs.length ≤ 8) (h8 : xs.length = 8 → xs.getD 0 0 ≤ 127) (k : Nat) (hk : k ≤ xs.length) : 0 ≤ num (xs.take k) ∧ num (xs.take k) < 9223372036854775808 ∧ (k < xs.length → num (xs.take k) < 36028797018963968) := by
  cases k with
  | zero => simp [num]
  | succ k =>
    by_cases h' : xs.length = 8
    · have h1 := num_bound h 127 (h8 h') k (by omega)
      have hp : (256 : Int) ^ k ≤ 72057594037927936 := pw_le (n := 7) (by omega)
      refine ⟨h1.1, by omega, fun h2 => ?_⟩
      have hp : (256 : Int) ^ k ≤ 281474976710656 := pw_le (n := 6) (by omega)
      omega
    · have h1 := num_bound h 255 (by have := h.getD 0; omega) k (by omega)
      have hp : (256 : Int) ^ k ≤ 281474976710656 := pw_le (n := 6) (by omega)
      refine ⟨h1.1, by omega, fun h2 => ?_⟩
      have hp : (256 : Int) ^ k ≤ 1099511627776 := pw_le (n := 5) (by omega)
      omega

theorem or_low (u x : Int) (h1 : 0 ≤ u) (h2 : u < 36028797018963968) (h3 : 0 ≤ x) (h4 : x < 256) : bits .or .u64 (u * 256) x = u * 256 + x := by
  rw [u64_or _ _ (by omega) (by omega) h3 (by omega), nat_join 8 _ _ (by omega) (by omega)]
  omega

/-- What GetNumber answers. -/
def getN (xs : List Int) : Int := if xs.length = 0 ∨ 8 < xs.length ∨ (xs.length = 8 ∧ 127 < xs.getD 0 0) then -1 else num xs

end Go.Proofs.Ytblhinmbcjfnmaa
