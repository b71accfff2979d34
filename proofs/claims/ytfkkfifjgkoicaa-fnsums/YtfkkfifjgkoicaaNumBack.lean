/- A number comes back from its bytes. -/
import Derived.Test.YtfkkfifjgkoicaaGetN
import Derived.Test.YtfkkfifjgkoicaaPutN
import Derived.Test.YtfkkfifjgkoicaaPutByt
namespace Go.Proofs.Ytfkkfifjgkoicaa

theorem foldl_num (r : List Int) : ∀ a : Int, r.foldl (fun v x => v * 256 + x) a = a * 256 ^ r.length + num r := by
  induction r with
  | nil => intro a; simp [num]
  | cons x r ih =>
    intro a
    have h1 := ih (a * 256 + x)
    have h2 := ih (0 * 256 + x)
    have e : num (x :: r) = r.foldl (fun v x => v * 256 + x) (0 * 256 + x) := rfl
    rw [List.foldl_cons, h1, e, h2, List.length_cons, Int.pow_succ, Int.add_mul, Int.zero_mul, Int.zero_add, Int.mul_comm (256 ^ r.length) 256, ← Int.mul_assoc, Int.add_assoc]

theorem num_cons (x : Int) (r : List Int) : num (x :: r) = x * 256 ^ r.length + num r := by
  have := foldl_num r x
  rw [← this]
  unfold num
  rw [List.foldl_cons, Int.zero_mul, Int.zero_add]

theorem num_digs (v : Int) (n : Nat) : num (digs v n) = v % 256 ^ n := by
  induction n with
  | zero => simp [digs, num, Int.emod_one]
  | succ n ih =>
    rw [digs, num_cons, digs_length, ih]
    have h1 := Int.mul_ediv_add_emod v (256 ^ n)
    have h2 := Int.mul_ediv_add_emod (v / 256 ^ n) 256
    have h3 := Int.mul_ediv_add_emod v (256 ^ (n + 1))
    rw [div_next] at h3
    have e : (256 : Int) ^ (n + 1) = 256 ^ n * 256 := Int.pow_succ ..
    rw [e] at h3 ⊢
    rw [Int.mul_assoc] at h3
    have h4 : (256 : Int) ^ n * (256 * (v / 256 ^ n / 256) + v / 256 ^ n % 256) = 256 ^ n * (v / 256 ^ n) := by rw [h2]
    rw [Int.mul_add] at h4
    rw [Int.mul_comm (v / 256 ^ n % 256)]
    omega

theorem getN_putN (v n : Int) (hv : v ≤ 9223372036854775807) (h : putN v n ≠ []) : getN (putN v n) = v := by
  unfold putN at h ⊢
  split at h
  · exact absurd rfl h
  rename_i h1
  split at h
  · exact absurd rfl h
  rename_i h2
  rw [if_neg h1, if_neg h2]
  obtain ⟨m, hm⟩ : ∃ m : Nat, n.toNat = m := ⟨_, rfl⟩
  rw [hm] at h2 ⊢
  have hm1 : 1 ≤ m ∧ m ≤ 8 := by omega
  have hz : v / 256 ^ m = 0 := by have := div_nonneg' (v := v) (by omega) m; omega
  have hmod : v % 256 ^ m = v := by
    have := Int.mul_ediv_add_emod v (256 ^ m)
    rw [hz] at this
    simpa using this
  unfold getN
  rw [digs_length, num_digs, hmod, if_neg]
  rintro (h3 | h3 | ⟨h3, h4⟩)
  · omega
  · omega
  · subst h3
    have e : (digs v 8).getD 0 0 = v / 256 ^ 7 % 256 := rfl
    rw [e] at h4
    have : v / 256 ^ 7 < 128 := Int.ediv_lt_of_lt_mul (by decide) (by omega)
    have := div_nonneg' (v := v) (by omega) 7
    omega

end Go.Proofs.Ytfkkfifjgkoicaa
