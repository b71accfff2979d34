/- l2Step, l2Reg, Crc, CrcOn of the model. -/
import Derived.Test.YteligghapkleaaaGreatDoorGoodBlk
namespace Go.Proofs.YteligghapkleaaaGreatDoor
open Go.RowKit

set_option maxHeartbeats 400000 in
theorem l2Step_calls (w : World) (x b : Nat) (hx : x < 4294967296) (hb : b < 2) :
    Calls Tryz.prog 50 #[.int .i64 x, .int .i64 b] w fun e w' => e = .returned (.int .i64 (stp x b : Nat)) ∧ w' = w := by
  by_cases h1 : (x + b) % 2 = 1
  · have HX : Hid (((stp x b : Nat) : Int) = bits .xor .i64 ((x : Int) / 2) 2197175160) := by
      show _ = _
      rw [xor_taps' x hx]; unfold stp; rw [if_pos h1]
    have hc : (((x : Int) + b) % 2 == 1) = true := by rw [show ((x : Int) + b) % 2 = 1 by omega]; rfl
    rw [HX.out]
    go_enter Tryz.func50, Tryz.ntmps50
    go_wp2
    go_ret
    exact ⟨rfl, rfl⟩
  · have HX : Hid (((stp x b : Nat) : Int) = (x : Int) / 2) := by
      show _ = _
      unfold stp; rw [if_neg h1]; omega
    have hc : (((x : Int) + b) % 2 == 1) = false := by rw [show ((x : Int) + b) % 2 = 0 by omega]; rfl
    rw [HX.out]
    go_enter Tryz.func50, Tryz.ntmps50
    go_wp2
    go_ret
    exact ⟨rfl, rfl⟩

set_option maxHeartbeats 1000000 in
theorem l2Reg_some (w : World) (x : Nat) (hx : x < 4294967296) (xs : List Int) (b off cap : Nat) (hB : Byt xs) (hl : xs.length ≤ 9223372036854775807)
    (h1 : ∀ i, i < xs.length → w.cell? ⟨b, off + i, none⟩ = some (.int .u8 (xs.getD i 0))) :
    Calls Tryz.prog 34 #[.int .i64 x, .slice (some ⟨b, off, none⟩) xs.length cap] w fun e w' => e = .returned (.int .i64 (reg x (nb xs) : Nat)) ∧ w' = w := by
  have HB : Hid (Byt xs) := hB
  have HG : Hid (∀ i, i < xs.length → w.cell? ⟨b, off + i, none⟩ = some (.int .u8 (xs.getD i 0))) := h1
  clear hB h1
  go_enter Tryz.func34, Tryz.ntmps34
  go_wp2
  go_loop [0, 5] (fun y i => ∃ k : Nat, k ≤ xs.length ∧ i = .int .i64 k ∧ y = .int .i64 (reg x (nb (xs.take k)) : Nat)) (fun _ i => xs.length - (intOf i).toNat)
  case atStart => exact ⟨0, Nat.zero_le _, rfl, rfl⟩
  case round =>
    obtain ⟨k, hk, rfl, rfl⟩ := hrel
    by_cases hlt : k < xs.length
    · have c1 := HG.out k hlt
      have b3 := HB.out.getD k
      have hi : (k : Int) < (xs.length : Int) := by omega
      have b1 := reg_lt (nb (xs.take k)) x hx
      have HE : Hid (reg x (nb (xs.take (k + 1))) = regK 8 (reg x (nb (xs.take k))) (xs.getD k 0).toNat) := reg_take_succ x xs k hlt
      generalize reg x (nb (xs.take k)) = y at *
      obtain ⟨d, hd⟩ : ∃ d : Nat, xs.getD k 0 = (d : Int) := ⟨(xs.getD k 0).toNat, by omega⟩
      have HD : Hid (xs.getD k 0 = (d : Int)) := hd
      rw [hd] at c1 b3
      clear hd
      go_wp2
      go_loop [0, 6, 7] (fun z v j => ∃ m : Nat, m ≤ 8 ∧ j = .int .i64 m ∧ v = .int .i64 (d / 2 ^ m : Nat) ∧ z = .int .i64 (regK m y d : Nat)) (fun _ _ j => 8 - (intOf j).toNat)
      case atStart => exact ⟨0, Nat.zero_le _, rfl, by simp, rfl⟩
      case round =>
        obtain ⟨m, hm, rfl, rfl, rfl⟩ := hrel
        have b2 := regK_lt m y d b1
        by_cases hm8 : m < 8
        · have HN : Hid (regK (m + 1) y d = stp (regK m y d) (d / 2 ^ m % 2)) := regK_next m y d
          have HV : Hid (d / 2 ^ (m + 1) = d / 2 ^ m / 2) := by show _ = _; rw [Nat.pow_succ, Nat.div_div_eq_div_mul]
          have hle : d / 2 ^ m ≤ d := Nat.div_le_self _ _
          generalize regK m y d = z at *
          generalize d / 2 ^ m = v at *
          have hm' : (m : Int) < 8 := by omega
          have E2 : Hid ((v : Int) % 2 = ((v % 2 : Nat) : Int)) := by show _ = _; omega
          go_wp2_with fail
          rw [E2.out]
          refine (l2Step_calls _ z (v % 2) b2 (by omega)).mono ?_
          rintro e w1 ⟨rfl, rfl⟩
          clear E2
          go_wp2
          go_round
          case rel => exact ⟨m + 1, by omega, by go_num, by rw [HV.out]; go_num, by rw [HN.out]⟩
          case measure => simp [intOf]; omega
        · obtain rfl : m = 8 := by omega
          have HE' : Hid (reg x (nb (xs.take (k + 1))) = regK 8 y d) := by show _ = _; rw [HE.out, HD.out]; rfl
          clear HE
          generalize regK 8 y d = z at *
          go_wp2
          go_round
          case rel => exact ⟨k + 1, by omega, by go_num, by rw [HE'.out]⟩
          case measure => simp [intOf]; omega
    · obtain rfl : k = xs.length := by omega
      rw [List.take_length]
      go_wp2
      go_ret
      exact ⟨rfl, rfl⟩

set_option maxHeartbeats 400000 in
theorem l2Reg_none (w : World) (x : Nat) (ao : Option Addr) (cap : Nat) :
    Calls Tryz.prog 34 #[.int .i64 x, .slice ao 0 cap] w fun e w' => e = .returned (.int .i64 (x : Nat)) ∧ w' = w := by
  go_enter Tryz.func34, Tryz.ntmps34
  go_wp2
  refine wp_loop_rounds 1 ?_; rw [rounds_succ]
  go_wp2
  go_ret
  exact ⟨rfl, rfl⟩

theorem l2Reg_calls (w : World) (x : Nat) (hx : x < 4294967296) {lo hi : Nat} {a : Value} {xs : List Int} (hB : Byt xs) (h1 : View w lo hi .u8 a xs) :
    Calls Tryz.prog 34 #[.int .i64 x, a] w fun e w' => e = .returned (.int .i64 (reg x (nb xs) : Nat)) ∧ w' = w := by
  obtain ⟨ao, cap, rfl, hl, _, h1⟩ := h1
  rcases h1 with rfl | ⟨g, off, rfl, _, _, h1⟩
  · exact l2Reg_none w x ao cap
  · exact l2Reg_some w x hx xs g off cap hB hl h1

set_option maxHeartbeats 400000 in
theorem specCrc_calls (w : World) {lo hi : Nat} {a : Value} {xs : List Int} (hB : Byt xs) (h1 : View w lo hi .u8 a xs) :
    Calls Tryz.prog 20 #[a] w fun e w' => e = .returned (.int .i64 (crcV xs)) ∧ w' = w := by
  have hlt := reg_lt (nb xs) 4294967295 (by omega)
  have HV : Hid (crcV xs = 4294967295 - (reg 4294967295 (nb xs) : Nat)) := rfl
  rw [HV.out]
  go_enter Tryz.func20, Tryz.ntmps20
  go_wp2_with fail
  refine (l2Reg_calls _ 4294967295 (by omega) hB h1).mono ?_
  rintro e w1 ⟨rfl, rfl⟩
  generalize hr : reg 4294967295 (nb xs) = r at *
  have HR : Hid (reg 4294967295 (nb xs) = r) := hr
  clear hr
  go_wp2
  go_ret
  exact ⟨by rw [HR.out]; rfl, rfl⟩

end Go.Proofs.YteligghapkleaaaGreatDoor
