/- BitGet of the program. -/
import Derived.Test.YtgmpggloonkfnaaImplBM
namespace Go.Proofs.Ytgmpggloonkfnaa
open Go.RowKit

theorem get_calls (w : World) {lo hi : Nat} {ao : Option Addr} {cap : Nat} {xs : List Int} (m : Nat) (hB : Byt xs) (hl : xs.length ≤ 2048) (hm : m < 8 * xs.length) (h1 : View w lo hi .u8 (.slice ao xs.length cap) xs) :
    Calls Try.prog 19 #[.slice ao xs.length cap, .int .i64 m] w fun e w' => e = .returned (.bool (bitN xs m)) ∧ Chg 0 0 w w' := by
  obtain ⟨ao', cap', he, _, _, h1⟩ := h1
  cases he
  rcases h1 with rfl | ⟨x, off, rfl, _, _, h1⟩
  · simp at hm
  · exact get_some w xs m x off cap hB hl hm h1

set_option maxRecDepth 20000 in
set_option maxHeartbeats 400000 in
theorem implBitGet_calls (w : World) {lo hi : Nat} {a : Value} {xs : List Int} (i : Int) (hB : Byt xs) (hl : xs.length ≤ 1048576) (h1 : View w lo hi .u8 a xs) :
    Calls Try.prog 9 #[a, .int .i64 i] w fun e w' => e = .returned (.bool (bitG xs i)) ∧ Chg 0 0 w w' := by
  rw [← bitG_map]
  have hN := bitsOf_calls w hl h1
  have HB := mapL_byt hB
  have hL := mapL_len xs
  generalize mapL xs = ys at *
  clear h1 hB hl
  obtain ⟨B, HBit⟩ : ∃ B, Hid (bitG ys i = B) := ⟨_, rfl⟩
  rw [HBit.out]
  go_enter Try.func9, Try.ntmps9
  go_wp2_with fail
  refine hN.mono ?_
  rintro e w1 ⟨⟨v, rfl, hv⟩, rfl⟩
  have HV : Hid (View w1 lo hi .u8 v ys) := hv
  obtain ⟨ao, cap, rfl, _, _, _⟩ := hv
  have hH := has_calls w1 ao ys.length cap i hL
  clear hN
  by_cases h : 0 ≤ i ∧ i < 8 * (ys.length : Int)
  · rw [decide_eq_true h] at hH
    obtain ⟨m, rfl⟩ : ∃ m : Nat, i = m := ⟨i.toNat, by omega⟩
    have hG := get_calls w1 m HB hL (by omega) HV.out
    have HBit2 : Hid (bitN ys m = B) := (bitG_in ⟨hL, h.1, h.2⟩).symm.trans HBit.out
    rw [HBit2.out] at hG
    go_wp2_with fail
    refine hH.mono ?_
    rintro e w2 ⟨rfl, rfl⟩
    go_wp2_with fail
    refine hG.mono ?_
    rintro e w3 ⟨rfl, hc⟩
    have HC : Hid (Chg 0 0 w2 w3) := hc
    clear hG hH hc
    go_wp2
    go_ret
    exact ⟨rfl, HC.out⟩
  · rw [decide_eq_false h] at hH
    obtain rfl : B = false := HBit.out.symm.trans (bitG_out (fun h' => h h'.2))
    clear h
    go_wp2_with fail
    refine hH.mono ?_
    rintro e w2 ⟨rfl, rfl⟩
    go_wp2
    go_ret
    exact ⟨rfl, Chg.refl _ _ _⟩

end Go.Proofs.Ytgmpggloonkfnaa
