/- GetNumber of both. -/
import Derived.Test.YtfkkfifjgkoicaaRows
import Derived.Test.YtfkkfifjgkoicaaByt
import Derived.Laws.BitsAllLaws
namespace Go.Proofs.Ytfkkfifjgkoicaa
open Go.RowKit

/-- The number of which these are the bytes. -/
def num (xs : List Int) : Int := xs.foldl (fun v x => v * 256 + x) 0

theorem num_take_succ (xs : List Int) (k : Nat) (h : k < xs.length) : num (xs.take (k + 1)) = num (xs.take k) * 256 + xs.getD k 0 := by
  unfold num
  rw [List.take_succ_eq_append_getElem h, List.foldl_append]
  simp [List.getD_eq_getElem?_getD, h]

/-- A number of k bytes, the first of which is at most m, lies below (m + 1) * 256 ^ (k - 1). -/
theorem num_bound {xs : List Int} (h : Byt xs) (m : Nat) (hm : xs.getD 0 0 ≤ m) : ∀ k, k < xs.length → 0 ≤ num (xs.take (k + 1)) ∧ num (xs.take (k + 1)) < (m + 1) * 256 ^ k := by
  intro k
  induction k with
  | zero =>
    intro hk
    rw [num_take_succ xs 0 hk]
    have := h.getD 0
    simp only [List.take_zero, num, List.foldl_nil, Int.pow_zero]; omega
  | succ k ih =>
    intro hk
    have h1 := ih (by omega)
    rw [num_take_succ xs (k + 1) hk]
    have := h.getD (k + 1)
    have e : ((m : Int) + 1) * 256 ^ (k + 1) = ((m + 1) * 256 ^ k) * 256 := by rw [Int.pow_succ, Int.mul_assoc]
    rw [e]
    omega

theorem pw_le {k n : Nat} (h : k ≤ n) : (256 : Int) ^ k ≤ 256 ^ n := by
  induction n with
  | zero => rw [Nat.le_zero.1 h]; exact Int.le_refl _
  | succ n ih =>
    rcases Nat.lt_or_ge k (n + 1) with h' | h'
    · have h1 := ih (by omega)
      have h2 : (0 : Int) ≤ 256 ^ n := Int.le_of_lt (Int.pow_pos (by decide))
      rw [Int.pow_succ]; omega
    · rw [Nat.le_antisymm h h']; exact Int.le_refl _

theorem num_lt {xs : List Int} (h : Byt xs) (hl : xs.length ≤ 8) (h8 : xs.length = 8 → xs.getD 0 0 ≤ 127) (k : Nat) (hk : k ≤ xs.length) : 0 ≤ num (xs.take k) ∧ num (xs.take k) < 9223372036854775808 ∧ (k < xs.length → num (xs.take k) < 36028797018963968) := by
  cases k with
  | zero => simp [num]
  | succ k =>
    by_cases h' : xs.length = 8
    · have h1 := num_bound h 127 (h8 h') k (by omega)
      have hp : (256 : Int) ^ k ≤ 72057594037927936 := pw_le (n := 7) (by omega)
      refine ⟨h1.1, by omega, fun h2 => ?_⟩
      have hp : (256 : Int) ^ k ≤ 281474976710656 := pw_le (n := 6) (by omega)
      omega
    · have h1 := num_bound h 255 (by have := h.getD 0; omega) k (by omega)
      have hp : (256 : Int) ^ k ≤ 281474976710656 := pw_le (n := 6) (by omega)
      refine ⟨h1.1, by omega, fun h2 => ?_⟩
      have hp : (256 : Int) ^ k ≤ 1099511627776 := pw_le (n := 5) (by omega)
      omega

theorem or_low (u x : Int) (h1 : 0 ≤ u) (h2 : u < 36028797018963968) (h3 : 0 ≤ x) (h4 : x < 256) : bits .or .u64 (u * 256) x = u * 256 + x := by
  rw [u64_or _ _ (by omega) (by omega) h3 (by omega), nat_join 8 _ _ (by omega) (by omega)]
  omega

/-- What GetNumber answers. -/
def getN (xs : List Int) : Int := if xs.length = 0 ∨ 8 < xs.length ∨ (xs.length = 8 ∧ 127 < xs.getD 0 0) then -1 else num xs

set_option maxHeartbeats 400000 in
theorem implGet_some (w : World) (xs : List Int) (b off cap : Nat) (hB : Byt xs)
    (hl : xs.length ≤ 9223372036854775807)
    (h1 : ∀ i, i < xs.length → w.cell? ⟨b, off + i, none⟩ = some (.int .u8 (xs.getD i 0))) :
    Calls Try.prog 12 #[.slice (some ⟨b, off, none⟩) xs.length cap] w fun e w' => e = .returned (.int .i64 (getN xs)) ∧ Same w w' := by
  by_cases hz : xs.length = 0
  · have hg : getN xs = -1 := by unfold getN; rw [if_pos (by omega)]
    have hi : ((xs.length : Int) == 0) = true := by rw [hz]; rfl
    rw [hg]
    go_enter Try.func12, Try.ntmps12
    go_wp2
    all_goals go_ret
    all_goals exact ⟨rfl, Same.refl _⟩
  by_cases h9 : 8 < xs.length
  · have hg : getN xs = -1 := by unfold getN; rw [if_pos (by omega)]
    have hi : ((xs.length : Int) == 0) = false := by simp only [beq_eq_false_iff_ne, ne_eq]; omega
    have hi2 : (xs.length : Int) > 8 := by omega
    rw [hg]
    go_enter Try.func12, Try.ntmps12
    go_wp2
    all_goals go_ret
    all_goals exact ⟨rfl, Same.refl _⟩
  have hz' : ((xs.length : Int) == 0) = false := by simp only [beq_eq_false_iff_ne, ne_eq]; omega
  have h9' : ¬ (xs.length : Int) > 8 := by omega
  have c0 := h1 0 (by omega)
  have b0 := hB.getD 0
  by_cases h8 : xs.length = 8 ∧ 127 < xs.getD 0 0
  · have hg : getN xs = -1 := by unfold getN; rw [if_pos (by omega)]
    rw [hg]
    obtain ⟨h8, h127⟩ := h8
    rw [Nat.add_zero] at c0
    generalize xs.getD 0 0 = x0 at *
    clear h1
    rw [h8]
    go_enter Try.func12, Try.ntmps12
    go_wp2
    all_goals go_ret
    all_goals exact ⟨rfl, Same.refl _⟩
  have hg : getN xs = num xs := by unfold getN; rw [if_neg (by omega)]
  have h127 : xs.length = 8 → xs.getD 0 0 ≤ 127 := by omega
  rw [hg]
  have hlt := num_lt hB (by omega) h127
  rw [Nat.add_zero] at c0
  have HG : Hid (∀ i, i < xs.length → w.cell? ⟨b, off + i, none⟩ = some (.int .u8 (xs.getD i 0))) := h1
  have HB : Hid (Byt xs) := hB
  have H8 : Hid (¬(xs.length = 8 ∧ 127 < xs.getD 0 0)) := h8
  clear hg h1 hB h8
  have hx : (((xs.length : Int) == 8) = true ∧ ¬ xs.getD 0 0 ≥ 128) ∨ ((xs.length : Int) == 8) = false := by
    by_cases e : xs.length = 8
    · left; have := h127 e; exact ⟨by rw [e]; rfl, by omega⟩
    · right; simp; omega
  clear h127
  generalize xs.getD 0 0 = x0 at *
  rcases hx with ⟨h8, hx0⟩ | h8
  all_goals
    go_enter Try.func12, Try.ntmps12
    go_wp2
    go_loop [3, 25] (fun v i => ∃ k : Nat, k ≤ xs.length ∧ i = .int .i64 k ∧ v = .int .u64 (num (xs.take k))) (fun _ i => xs.length - (intOf i).toNat)
    case atStart => exact ⟨0, Nat.zero_le _, rfl, rfl⟩
    case round =>
      obtain ⟨k, hk, rfl, rfl⟩ := hrel
      by_cases hlt' : k < xs.length
      · have c1 := HG.out k hlt'
        have e := num_take_succ xs k hlt'
        have b1 := hlt k hk
        have b2 := hlt (k + 1) hlt'
        have b3 := HB.out.getD k
        have hi : (k : Int) < (xs.length : Int) := by omega
        generalize xs.getD k 0 = x at *
        generalize num (xs.take k) = u at *
        generalize hu : num (xs.take (k + 1)) = u' at *
        have HU : Hid (num (xs.take (k + 1)) = u') := hu
        clear hu
        go_wp2
        go_round
        case rel => exact ⟨k + 1, by omega, by go_num, by rw [HU.out, or_low u x (by omega) (by omega) (by omega) (by omega), e]⟩
        case measure => simp [intOf]; omega
      · obtain rfl : k = xs.length := by omega
        have b1 := hlt xs.length hk
        rw [List.take_length] at *
        go_wp2
        go_ret
        exact ⟨rfl, Same.refl _⟩

set_option maxHeartbeats 400000 in
theorem implGet_none (w : World) (ao : Option Addr) (cap : Nat) :
    Calls Try.prog 12 #[.slice ao 0 cap] w fun e w' => e = .returned (.int .i64 (-1)) ∧ Same w w' := by
  go_enter Try.func12, Try.ntmps12
  go_wp2
  go_ret
  exact ⟨rfl, Same.refl _⟩

theorem implGet_calls (w : World) {lo hi : Nat} {a : Value} {xs : List Int} (hB : Byt xs) (h1 : View w lo hi .u8 a xs) :
    Calls Try.prog 12 #[a] w fun e w' => e = .returned (.int .i64 (getN xs)) ∧ Same w w' := by
  obtain ⟨ao, cap, rfl, hl, _, h1⟩ := h1
  rcases h1 with rfl | ⟨x, off, rfl, _, _, h1⟩
  · exact implGet_none w ao cap
  · exact implGet_some w xs x off cap hB hl h1

end Go.Proofs.Ytfkkfifjgkoicaa
