/- The sum's words on bytes; eightSteps of the program. -/
import Derived.Test.YtfkkfifjgkoicaaCrcMath
import Derived.Laws.BitsAllLaws
namespace Go.Proofs.Ytfkkfifjgkoicaa
open Go.RowKit

theorem low_bit (x : Nat) (hx : x < 4294967296) : bits .and .u32 (x : Int) 1 = ((x % 2 : Nat) : Int) := by
  have := u32_and_nat x 1 hx (by omega)
  rw [nat_mask1] at this
  exact this

theorem xor_taps (x : Nat) (hx : x < 4294967296) : bits .xor .u32 ((x : Int) / 2) 2197175160 = ((x / 2 ^^^ 2197175160 : Nat) : Int) := by
  have := u32_xor_nat (x / 2) 2197175160 (by omega) (by omega)
  rw [← this]; congr 1

theorem i64_xor_nat (a b : Nat) (ha : a < 4294967296) (hb : b < 4294967296) : bits .xor .i64 (a : Int) (b : Int) = ((a ^^^ b : Nat) : Int) := by
  have hx : a ^^^ b < 2 ^ 32 := Nat.xor_lt_two_pow (by omega) (by omega)
  show IntKind.i64.wrap ((BitVec.ofInt 64 (a : Int) ^^^ BitVec.ofInt 64 (b : Int)).toNat : Int) = _
  rw [BitVec.toNat_xor, ofInt_u64 a (by omega), ofInt_u64 b (by omega)]
  simp [IntKind.wrap, IntKind.bits, IntKind.signed]
  omega

theorem xor_taps' (x : Nat) (hx : x < 4294967296) : bits .xor .i64 ((x : Int) / 2) 2197175160 = ((x / 2 ^^^ 2197175160 : Nat) : Int) := by
  have := i64_xor_nat (x / 2) 2197175160 (by omega) (by omega)
  rw [← this]; congr 1

theorem not32 (a : Nat) (ha : a < 4294967296) : bits .xor .u32 4294967295 (a : Int) = ((4294967295 - a : Nat) : Int) := by
  show IntKind.u32.wrap ((BitVec.ofInt 32 4294967295 ^^^ BitVec.ofInt 32 (a : Int)).toNat : Int) = _
  have h1 : BitVec.ofInt 32 4294967295 = BitVec.allOnes 32 := by decide
  rw [h1, BitVec.allOnes_xor, BitVec.toNat_not, ofInt_u32 a ha, IntKind.wrap_u32']
  omega

theorem ex_int {k : IntKind} {a b : Int} (h : a = b) : Value.int k a = Value.int k b := by rw [h]

set_option maxHeartbeats 400000 in
theorem eightSteps_calls (w : World) (r : Nat) (hr : r < 4294967296) :
    Calls Try.prog 22 #[.int .u32 r] w fun e w' => e = .returned (.int .u32 (regK 8 r 0 : Nat)) ∧ w' = w := by
  go_enter Try.func22, Try.ntmps22
  go_wp2
  go_loop [0, 4] (fun x i => ∃ k : Nat, k ≤ 8 ∧ i = .int .i64 k ∧ x = .int .u32 (regK k r 0 : Nat)) (fun _ i => 8 - (intOf i).toNat)
  case atStart => exact ⟨0, Nat.zero_le _, rfl, rfl⟩
  case round =>
    obtain ⟨k, hk, rfl, rfl⟩ := hrel
    by_cases hlt : k < 8
    · have b1 := regK_lt k r 0 hr
      have HE : Hid (regK (k + 1) r 0 = stp (regK k r 0) 0) := regK_end k r
      generalize regK k r 0 = x at *
      have hi : (k : Int) < 8 := by omega
      have hlow := low_bit x b1
      by_cases h1 : x % 2 = 1
      · have HX : Hid (((regK (k + 1) r 0 : Nat) : Int) = bits .xor .u32 ((x : Int) / 2) 2197175160) := by
          show _ = _
          rw [HE.out, xor_taps x b1]; unfold stp; rw [if_pos (by omega)]
        have hc : (bits .and .u32 (x : Int) 1 == 1) = true := by rw [hlow, h1]; rfl
        clear hlow h1
        go_wp2
        go_round
        case rel => exact ⟨k + 1, by omega, by go_num, by rw [HX.out]⟩
        case measure => simp [intOf]; omega
      · have HX : Hid (((regK (k + 1) r 0 : Nat) : Int) = (x : Int) / 2) := by
          show _ = _
          rw [HE.out]; unfold stp; rw [if_neg (by omega)]; omega
        have hc : (bits .and .u32 (x : Int) 1 == 1) = false := by rw [hlow, show x % 2 = 0 by omega]; rfl
        clear hlow h1
        go_wp2
        go_round
        case rel => exact ⟨k + 1, by omega, by go_num, by rw [HX.out]⟩
        case measure => simp [intOf]; omega
    · obtain rfl : k = 8 := by omega
      go_wp2
      go_ret
      exact ⟨rfl, rfl⟩

theorem regK_next (j x d : Nat) : regK (j + 1) x d = stp (regK j x d) (d / 2 ^ j % 2) := by
  rw [regK_regF, regK_regF]; rfl

/-- The bytes as natural numbers. -/
def nb (xs : List Int) : List Nat := xs.map Int.toNat

theorem reg_take_succ (x : Nat) (xs : List Int) (k : Nat) (h : k < xs.length) : reg x (nb (xs.take (k + 1))) = regK 8 (reg x (nb (xs.take k))) (xs.getD k 0).toNat := by
  unfold reg nb
  rw [List.take_succ_eq_append_getElem h, List.map_append, List.foldl_append]
  simp [List.getD_eq_getElem?_getD, h]

/-- What Crc and CrcOn answer. -/
def crcV (xs : List Int) : Int := 4294967295 - (reg 4294967295 (nb xs) : Nat)
def crcOnV (c : Int) (xs : List Int) : Int := if c < 0 ∨ c > 4294967295 then -1 else 4294967295 - (reg (4294967295 - c.toNat) (nb xs) : Nat)

theorem crcOnV_zero (xs : List Int) : crcOnV 0 xs = crcV xs := by
  unfold crcOnV crcV; rw [if_neg (by omega)]; rfl

end Go.Proofs.Ytfkkfifjgkoicaa
