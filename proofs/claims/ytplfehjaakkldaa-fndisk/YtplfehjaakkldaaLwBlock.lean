/- lwBlock of the laws. -/
import Derived.Test.YtplfehjaakkldaaRows
import Derived.Test.YtplfehjaakkldaaMem
namespace Go.Proofs.Ytplfehjaakkldaa
open Go.RowKit

set_option maxRecDepth 20000 in
set_option maxHeartbeats 400000 in
theorem lwBlock_calls (w : World) {lo hi : Nat} {a : Value} {xs : List Int} (h1 : View w lo hi .u8 a xs) (b : Nat) (hb : b * 64 + 64 ≤ xs.length) (hx : xs.length ≤ 1048576) :
    Calls Try.prog 37 #[a, .int .i64 b] w fun e w' => ∃ v, e = .returned v ∧ View w lo hi .u8 v ((xs.drop (b * 64)).take 64) ∧ w' = w := by
  obtain ⟨ao, cap, rfl, hl, ⟨hcap, _⟩, hcell⟩ := h1
  obtain ⟨xb, off, rfl, hb1, hb2, hc⟩ : ∃ xb off, ao = some ⟨xb, off, none⟩ ∧ lo ≤ xb ∧ xb < hi ∧ ∀ i, i < xs.length → w.cell? ⟨xb, off + i, none⟩ = some (.int .u8 (xs.getD i 0)) := by
    rcases hcell with h | ⟨xb, off, e, a, b, c⟩
    · rw [h] at hb; simp at hb
    · exact ⟨xb, off, e, a, b, c⟩
  have hlen : ((xs.drop (b * 64)).take 64).length = 64 := by rw [List.length_take, List.length_drop]; omega
  have HV : Hid (View w lo hi .u8 (.slice (some ⟨xb, off + b * 64, none⟩) 64 (cap - b * 64)) ((xs.drop (b * 64)).take 64)) := by
    refine ⟨_, _, by rw [hlen], by rw [hlen]; omega, ⟨by rw [hlen]; omega, by simp⟩, Or.inr ⟨xb, off + b * 64, rfl, hb1, hb2, fun i hi => ?_⟩⟩
    rw [hlen] at hi
    rw [Nat.add_assoc, hc (b * 64 + i) (by omega)]
    simp [List.getD_eq_getElem?_getD, hi]
  have e1 : ((b : Int) * 64).toNat = b * 64 := by omega
  have e2 : (((b : Int) + 1) * 64).toNat = b * 64 + 64 := by omega
  have l1 : (b : Int) * 64 ≤ ((b : Int) + 1) * 64 := by omega
  have l2 : ((b : Int) + 1) * 64 ≤ (cap : Int) := by omega
  have l3 : (b : Int) + 1 ≤ 1048576 := by omega
  have hcb : ¬ cap - b * 64 = 0 := by omega
  clear hcell hc hlen
  go_enter Try.func37, Try.ntmps37
  go_wp2
  go_ret
  exact ⟨_, rfl, HV.out, rfl⟩

end Go.Proofs.Ytplfehjaakkldaa
