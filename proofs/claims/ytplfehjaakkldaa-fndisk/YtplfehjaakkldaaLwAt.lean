/- lwAt of the laws. -/
import Derived.Test.YtplfehjaakkldaaByt
namespace Go.Proofs.Ytplfehjaakkldaa
open Go.RowKit

set_option maxHeartbeats 1000000 in
theorem lwAt_calls (w : World) (i n : Nat) (hi : i ≤ 1048576) (hn : n ≤ 4294967296) {lo hi' : Nat} {a : Value} {ms : List Int} (hB : Byt ms) (h1 : View w lo hi' .u8 a ms) (hl : ms.length ≤ 1048576) :
    Calls Try.prog 30 #[a, .int .i64 i, .int .i64 n] w fun e w' => (∃ r : Nat, e = .returned (.int .i64 r) ∧ (1 < n → r < n) ∧ (n ≤ 1 → r = 0)) ∧ Same w w' := by
  obtain ⟨ao, cap, rfl, _, _, hcell⟩ := h1
  by_cases hn1 : n ≤ 1
  · have h' : (n : Int) ≤ 1 := by omega
    clear hcell
    go_enter Try.func30, Try.ntmps30
    go_wp2
    go_ret
    exact ⟨⟨0, rfl, by omega, by omega⟩, Same.refl _⟩
  have h' : ¬ (n : Int) ≤ 1 := by omega
  have hn0 : ¬ (n : Int) = 0 := by omega
  by_cases hk : ms.length = 0
  · have hk' : ((ms.length : Int) == 0) = true := by rw [hk]; rfl
    have hr1 : 0 ≤ (i : Int) * 7 % (n : Int) := Int.emod_nonneg _ (by omega)
    have hr2 : (i : Int) * 7 % (n : Int) < n := Int.emod_lt_of_pos _ (by omega)
    obtain ⟨r, hr⟩ : ∃ r : Nat, (i : Int) * 7 % (n : Int) = (r : Int) := ⟨((i : Int) * 7 % (n : Int)).toNat, by omega⟩
    have HR : Hid ((i : Int) * 7 % (n : Int) = (r : Int)) := hr
    rw [hr] at hr2
    clear hcell hk hr hr1
    go_enter Try.func30, Try.ntmps30
    go_wp2
    go_ret
    exact ⟨⟨r, by rw [← HR.out]; rfl, by omega⟩, Same.refl _⟩
  · obtain ⟨b, off, rfl, hb1, hb2, hc2⟩ : ∃ b off, ao = some ⟨b, off, none⟩ ∧ lo ≤ b ∧ b < hi' ∧ ∀ i, i < ms.length → w.cell? ⟨b, off + i, none⟩ = some (.int .u8 (ms.getD i 0)) := by
      rcases hcell with h | ⟨b, off, e, h1, h2, h3⟩
      · rw [h] at hk; exact absurd rfl hk
      · exact ⟨b, off, e, h1, h2, h3⟩
    have hk' : ((ms.length : Int) == 0) = false := by simp only [beq_eq_false_iff_ne, ne_eq]; omega
    have hk0 : ¬ (ms.length : Int) = 0 := by omega
    obtain ⟨i1, hi1⟩ : ∃ i1, i1 = i % ms.length := ⟨_, rfl⟩
    obtain ⟨i2, hi2⟩ : ∃ i2, i2 = (i + 1) % ms.length := ⟨_, rfl⟩
    obtain ⟨qt, hq⟩ : ∃ qt, qt = i / ms.length := ⟨_, rfl⟩
    have l1 : i1 < ms.length := by rw [hi1]; exact Nat.mod_lt _ (by omega)
    have l2 : i2 < ms.length := by rw [hi2]; exact Nat.mod_lt _ (by omega)
    have lq : qt ≤ i := by rw [hq]; exact Nat.div_le_self _ _
    have e1 : (i : Int) % (ms.length : Int) = (i1 : Int) := by rw [hi1]; omega
    have e2 : ((i : Int) + 1) % (ms.length : Int) = (i2 : Int) := by rw [hi2]; exact (Int.natCast_emod (i + 1) ms.length).symm
    have eq : (i : Int) / (ms.length : Int) = (qt : Int) := by rw [hq]; omega
    have d1 := hc2 i1 l1
    have d2 := hc2 i2 l2
    have b1 := hB.getD i1
    have b2 := hB.getD i2
    generalize ms.getD i1 0 = x1 at *
    generalize ms.getD i2 0 = x2 at *
    clear hi1 hi2 hq hc2 hcell hB
    have hi1' : (i1 : Int) < (ms.length : Int) := by omega
    have hi2' : (i2 : Int) < (ms.length : Int) := by omega
    by_cases h200 : (n : Int) > 200
    · have hr1 : 0 ≤ ((x1 + qt) * 37 + x2) % (n : Int) := Int.emod_nonneg _ (by omega)
      have hr2 : ((x1 + qt) * 37 + x2) % (n : Int) < n := Int.emod_lt_of_pos _ (by omega)
      obtain ⟨r, hr⟩ : ∃ r : Nat, ((x1 + qt) * 37 + x2) % (n : Int) = (r : Int) := ⟨(((x1 + qt) * 37 + x2) % (n : Int)).toNat, by omega⟩
      have HR : Hid (((x1 + qt) * 37 + x2) % (n : Int) = (r : Int)) := hr
      rw [hr] at hr2
      clear hr hr1
      go_enter Try.func30, Try.ntmps30
      go_wp2
      go_quiet (fail)
      go_wp2
      go_ret
      exact ⟨⟨r, by rw [← HR.out]; rfl, by omega, by omega⟩, (Same.refl w).drewN _⟩
    · have hr1 : 0 ≤ (x1 + qt) % (n : Int) := Int.emod_nonneg _ (by omega)
      have hr2 : (x1 + qt) % (n : Int) < n := Int.emod_lt_of_pos _ (by omega)
      obtain ⟨r, hr⟩ : ∃ r : Nat, (x1 + qt) % (n : Int) = (r : Int) := ⟨((x1 + qt) % (n : Int)).toNat, by omega⟩
      have HR : Hid ((x1 + qt) % (n : Int) = (r : Int)) := hr
      rw [hr] at hr2
      clear hr hr1
      go_enter Try.func30, Try.ntmps30
      go_wp2
      go_quiet (fail)
      go_wp2
      go_ret
      exact ⟨⟨r, by rw [← HR.out]; rfl, by omega, by omega⟩, (Same.refl w).drewN _⟩

end Go.Proofs.Ytplfehjaakkldaa
