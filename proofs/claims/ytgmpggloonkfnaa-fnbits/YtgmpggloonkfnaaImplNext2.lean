/- Maps of bits of the program: next. -/
import Derived.Test.YtgmpggloonkfnaaImplNext
import Derived.Deep.DeepCutAuto
namespace Go.Proofs.Ytgmpggloonkfnaa
open Go.RowKit

theorem xor_ff_all : ∀ y : Fin 256, bits BinOp.xor IntKind.u8 (if IntKind.u8.signed = true then -1 else IntKind.u8.max) ((y.val : Nat) : Int) = ((255 - y.val : Nat) : Int) := by decide +kernel
theorem xor_ff {y : Nat} (hy : y < 256) : bits BinOp.xor IntKind.u8 (if IntKind.u8.signed = true then -1 else IntKind.u8.max) (y : Int) = ((255 - y : Nat) : Int) := xor_ff_all ⟨y, hy⟩

set_option maxRecDepth 20000 in
set_option maxHeartbeats 1000000 in
theorem next_some (w : World) (ys : List Int) (b off cap A E : Nat) (on : Bool) (hB : Byt ys) (hl : ys.length ≤ 2048) (hE : E ≤ 8 * ys.length)
    (hc : ∀ i, i < ys.length → w.cell? ⟨b, off + i, none⟩ = some (.int .u8 (ys.getD i 0))) :
    Calls Try.prog 26 #[.slice (some ⟨b, off, none⟩) ys.length cap, .int .i64 A, .int .i64 E, .bool on] w fun e w' => e = .returned (.int .i64 (nextAt ys on E A)) ∧ w' = w := by
  have HB : Hid (Byt ys) := hB
  have Hc : Hid (∀ i, i < ys.length → w.cell? ⟨b, off + i, none⟩ = some (.int .u8 (ys.getD i 0))) := hc
  have hEb : E ≤ 16384 := by omega
  obtain ⟨R, HR⟩ : ∃ R, Hid (nextAt ys on E A = R) := ⟨_, rfl⟩
  rw [HR.out]
  have Hlen : Hid (E ≤ 8 * ys.length) := hE
  have HAb : Hid (A ≤ 16384 + 8 ∨ E ≤ A) := by show _ ∨ _; omega
  clear hB hc hE
  go_enter Try.func26, Try.ntmps26
  go_wp2
  go_loopw [1] (fun x wr => wr = w ∧ ∃ i : Nat, x = .int .i64 i ∧ nextAt ys on E i = R) (fun x _ => E - (intOf x).toNat)
  case atStart => exact ⟨rfl, A, rfl, HR.out⟩
  case round =>
    obtain ⟨hch, i, rfl, hi⟩ := hrel
    subst hch
    have Hi : Hid (nextAt ys on E i = R) := hi
    clear hi
    by_cases hlt : i < E
    · have hlt' : (i : Int) < (E : Int) := by omega
      have hb8 := HB.out.getD (i / 8)
      obtain ⟨y, hy⟩ : ∃ y : Nat, ys.getD (i / 8) 0 = y := ⟨(ys.getD (i / 8) 0).toNat, by omega⟩
      have HY : Hid (ys.getD (i / 8) 0 = y) := hy
      have c1 : wr.cell? ⟨b, off + i / 8, none⟩ = some (.int .u8 y) := by
        have := Hc.out (i / 8) (by have := Hlen.out; omega)
        rw [hy] at this; exact this
      rw [hy] at hb8
      have hq : ((i / 8 : Nat) : Int) < (ys.length : Int) := by have := Hlen.out; omega
      have hq8 : (i : Int) / 8 = ((i / 8 : Nat) : Int) := by omega
      have hr8 : (i : Int) % 8 = ((i % 8 : Nat) : Int) := by omega
      have hr : i % 8 < 8 := by omega
      obtain ⟨q, Hq⟩ : ∃ q, Hid (i / 8 = q) := ⟨_, rfl⟩
      obtain ⟨r, Hr⟩ : ∃ r, Hid (i % 8 = r) := ⟨_, rfl⟩
      rw [Hq.out] at hq8 c1 hq
      rw [Hr.out] at hr8 hr
      clear hy
      cases on
      · obtain ⟨z, Hzb⟩ : ∃ z, Hid (zB y r false = z) := ⟨_, rfl⟩
        have HzT : Hid (z < 256) := by show _ < _; rw [← Hzb.out]; exact zB_lt _ (by omega)
        have Hz : Hid (((255 - y : Nat) : Int) / 2 ^ r = (z : Int)) := by
          show _ = _
          rw [← Hzb.out, show (2 : Int) ^ r = ((2 ^ r : Nat) : Int) by simp, ← Int.natCast_ediv]; rfl
        go_upto_region 5 with fail
        rw [xor_ff (by omega)]
        generalize 255 - y = y' at *
        have hy' : 0 ≤ (y' : Int) := by omega
        go_upto_region 6 with fail
        rw [Hz.out]
        have hzT := HzT.out
        by_cases hz : z = 0
        · subst hz
          have Hn : Hid (nextAt ys false E (i + (8 - r)) = R) := by show _ = _; rw [← Hi.out, ← Hr.out]; exact (nextAt_zero HY.out (by omega) hlt (by rw [Hr.out]; exact Hzb.out)).symm
          clear Hz Hzb hzT HzT
          go_wp2
          go_roundw
          case rel => exact ⟨trivial, i + (8 - r), by congr 1; omega, Hn.out⟩
          case measure => simp [intOf]; omega
        · have hz' : ¬ ((z : Nat) : Int) = 0 := by omega
          have hT := tz_calls wr z (by omega) (by omega)
          have Hn : Hid (R = min (i + Lib.trailingZeros8 z) E) := by show _ = _; rw [← Hi.out, ← Hzb.out, ← Hr.out]; exact nextAt_hit HY.out (by omega) hlt (by rw [Hr.out, Hzb.out]; exact hz)
          have ht8 : Lib.trailingZeros8 z ≤ 8 := Lib.trailingZeros8_le8 ⟨z, by omega⟩
          rw [Int.toNat_natCast] at hT
          generalize Lib.trailingZeros8 z = d at *
          clear Hz Hzb HzT
          go_wp2_with fail
          refine hT.mono ?_
          rintro e w1 ⟨rfl, rfl⟩
          clear hT
          by_cases hm : i + d < E
          · have hm' : (i : Int) + (d : Int) < (E : Int) := by omega
            have Hf : Hid (R = i + d) := by have := Hn.out; show _ = _; omega
            clear Hn
            go_wp2
            go_ret
            exact ⟨by rw [Hf.out]; go_num, rfl⟩
          · have hm' : (E : Int) ≤ (i : Int) + (d : Int) := by omega
            have Hf : Hid (R = E) := by have := Hn.out; show _ = _; omega
            clear Hn
            go_wp2
            all_goals
              go_ret
              exact ⟨by rw [Hf.out]; go_num, rfl⟩
      · obtain ⟨z, Hzb⟩ : ∃ z, Hid (zB y r true = z) := ⟨_, rfl⟩
        have HzT : Hid (z < 256) := by show _ < _; rw [← Hzb.out]; exact zB_lt _ (by omega)
        have Hz : Hid ((y : Int) / 2 ^ r = (z : Int)) := by
          show _ = _
          rw [← Hzb.out, show (2 : Int) ^ r = ((2 ^ r : Nat) : Int) by simp, ← Int.natCast_ediv]; rfl
        go_upto_region 6 with fail
        rw [Hz.out]
        have hzT := HzT.out
        by_cases hz : z = 0
        · subst hz
          have Hn : Hid (nextAt ys true E (i + (8 - r)) = R) := by show _ = _; rw [← Hi.out, ← Hr.out]; exact (nextAt_zero HY.out (by omega) hlt (by rw [Hr.out]; exact Hzb.out)).symm
          clear Hz Hzb hzT HzT
          go_wp2
          go_roundw
          case rel => exact ⟨trivial, i + (8 - r), by congr 1; omega, Hn.out⟩
          case measure => simp [intOf]; omega
        · have hz' : ¬ ((z : Nat) : Int) = 0 := by omega
          have hT := tz_calls wr z (by omega) (by omega)
          have Hn : Hid (R = min (i + Lib.trailingZeros8 z) E) := by show _ = _; rw [← Hi.out, ← Hzb.out, ← Hr.out]; exact nextAt_hit HY.out (by omega) hlt (by rw [Hr.out, Hzb.out]; exact hz)
          have ht8 : Lib.trailingZeros8 z ≤ 8 := Lib.trailingZeros8_le8 ⟨z, by omega⟩
          rw [Int.toNat_natCast] at hT
          generalize Lib.trailingZeros8 z = d at *
          clear Hz Hzb HzT
          go_wp2_with fail
          refine hT.mono ?_
          rintro e w1 ⟨rfl, rfl⟩
          clear hT
          by_cases hm : i + d < E
          · have hm' : (i : Int) + (d : Int) < (E : Int) := by omega
            have Hf : Hid (R = i + d) := by have := Hn.out; show _ = _; omega
            clear Hn
            go_wp2
            go_ret
            exact ⟨by rw [Hf.out]; go_num, rfl⟩
          · have hm' : (E : Int) ≤ (i : Int) + (d : Int) := by omega
            have Hf : Hid (R = E) := by have := Hn.out; show _ = _; omega
            clear Hn
            go_wp2
            all_goals
              go_ret
              exact ⟨by rw [Hf.out]; go_num, rfl⟩
    · have hlt' : ¬ (i : Int) < (E : Int) := by omega
      have Hr : Hid (R = E) := by show _ = _; rw [← Hi.out]; unfold nextAt; rw [if_neg hlt]
      go_wp2
      go_ret
      exact ⟨by rw [Hr.out]; rfl, rfl⟩

set_option maxRecDepth 20000 in
set_option maxHeartbeats 1000000 in
theorem next_none (w : World) (ao : Option Addr) (n cap A : Nat) (on : Bool) :
    Calls Try.prog 26 #[.slice ao n cap, .int .i64 A, .int .i64 0, .bool on] w fun e w' => e = .returned (.int .i64 0) ∧ w' = w := by
  have hlt' : ¬ (A : Int) < 0 := by omega
  go_enter Try.func26, Try.ntmps26
  go_wp2
  go_loopw [1] (fun x wr => wr = w ∧ x = .int .i64 A) (fun _ _ => 0)
  case atStart => exact ⟨rfl, rfl⟩
  case round =>
    obtain ⟨rfl, rfl⟩ := hrel
    go_wp2
    go_ret
    exact ⟨rfl, rfl⟩

theorem next_calls (w : World) {lo hi : Nat} {ao : Option Addr} {cap : Nat} {ys : List Int} (A E : Nat) (on : Bool) (hB : Byt ys) (hl : ys.length ≤ 2048) (hE : E ≤ 8 * ys.length)
    (h1 : View w lo hi .u8 (.slice ao ys.length cap) ys) :
    Calls Try.prog 26 #[.slice ao ys.length cap, .int .i64 A, .int .i64 E, .bool on] w fun e w' => e = .returned (.int .i64 (nextAt ys on E A)) ∧ w' = w := by
  obtain ⟨ao', cap', he, _, _, h1⟩ := h1
  cases he
  rcases h1 with rfl | ⟨x, off, rfl, _, _, h1⟩
  · obtain rfl : E = 0 := by simpa using hE
    have : nextAt [] on 0 A = 0 := by unfold nextAt; rw [if_neg (by omega)]
    rw [this]
    exact next_none w ao _ cap A on
  · exact next_some w ys x off cap A E on hB hl hE h1

end Go.Proofs.Ytgmpggloonkfnaa
