/- strconv.ParseUint of two bytes, base 16, 8 bits. -/
import Derived.Test.YtmbonljmghpcmaaDoorShelfErr
import Derived.Test.YtmbonljmghpcmaaDoorMem
import Derived.Test.YtmbonljmghpcmaaDoorStrChr
import Derived.Laws.BitsAllLaws
import Derived.Lib.ConvBytes
import Derived.BigCall
import Derived.BigGuard
namespace Go.Proofs.YtmbonljmghpcmaaDoor
open Go.RowKit Go.Lib

/-- A digit of base 36, at least 16 where it is none of base 16; what digits are, none if one is none. -/
def hxD (c : Nat) : Nat := if 48 ≤ c ∧ c ≤ 57 then c - 48 else if 97 ≤ (c ||| 32) ∧ (c ||| 32) ≤ 122 then (c ||| 32) - 87 else 255
def puF : Nat → List UInt8 → Option Nat
  | acc, [] => some acc
  | acc, c :: r => if hxD c.toNat < 16 then puF (acc * 16 + hxD c.toNat) r else none
def puO : Option Nat → Value
  | some v => .tuple #[.int .u64 (v : Int), .nilIface]
  | none => .tuple #[.int .u64 0, .iface 58 (.int .i64 2)]

theorem lower_calls (w : World) (c : Nat) (h : c < 256) : Calls Tryd.prog 28 #[.int .u8 (c : Int)] w fun e w' => e = .returned (.int .u8 ((c ||| 32 : Nat) : Int)) ∧ w' = w := by
  have hb : bits .or .u8 (c : Int) 32 = ((c ||| 32 : Nat) : Int) := u8_or_nat c 32 h (by omega)
  go_enter Tryd.func28, Tryd.ntmps28
  go_wp2
  go_ret
  exact ⟨rfl, rfl⟩

set_option maxHeartbeats 8000000 in
set_option maxRecDepth 100000 in
theorem pu16_calls (t : ByteArray) (h2 : t.size = 2) (w : World) :
    Calls Tryd.prog 25 #[.string t, .int .i64 16, .int .i64 8] w fun e w' => e = .returned (puO (puF 0 t.data.toList)) ∧ w' = Lib.bytesWorld w 5 t := by
  have hemp : t.toList.isEmpty = false := by
    rw [← decide_eq_emptyBytes]
    exact decide_eq_false (fun h => by rw [h] at h2; cases h2)
  have hcv := Lib.run_convert_string_bytes (P := Tryd.prog) w 9 22 5 t (u := .string) Tryd.underlying9 Tryd.underlying22 Tryd.underlying5
  have hB : ∀ j, j < t.size → (Lib.bytesWorld w 5 t).cell? ⟨w.heap.size, j, none⟩ = some (.int .u8 (t.data.toList.getD j 0).toNat) := fun j hj => Lib.bytesWorld_cell w 5 t j hj
  obtain ⟨W1, hW1⟩ : ∃ W1, W1 = Lib.bytesWorld w 5 t := ⟨_, rfl⟩
  rw [← hW1] at hcv hB ⊢
  clear hW1
  obtain ⟨bs, hL⟩ : ∃ bs, bs = t.data.toList := ⟨_, rfl⟩
  have hLn : bs.length = t.size := by rw [hL, Lib.size_eq]
  rw [← hL] at hB ⊢
  clear hL
  have hmv : IntKind.u64.wrap (IntKind.u64.wrap 256 - 1) = 255 := by
    rw [IntKind.wrap_u64, IntKind.wrap_u64]
    decide
  go_enter Tryd.func25, Tryd.ntmps25
  go_wp2
  go_loop [12, 13, 101] (fun vu vn vi => ∃ (k acc : Nat) (a : Int), vu = .bool false ∧ vn = .int .u64 a ∧ vi = .int .i64 k ∧ k ≤ 2 ∧ Hid (a = (acc : Int) ∧ acc < 16 ^ k ∧ puF 0 bs = puF acc (bs.drop k)))
    (fun _ _ vi => 2 - (RowKit.intOf vi).toNat)
  case atStart => exact ⟨0, 0, 0, rfl, rfl, rfl, by omega, rfl, by simp, rfl⟩
  case round =>
    obtain ⟨k, acc, a, rfl, rfl, rfl, hk, hh⟩ := hrel
    obtain ⟨ha, hacc, hdec⟩ := hh.out
    clear hh
    by_cases hkn : k < 2
    · have hc := hB k (by omega)
      have ha16 : acc < 16 := by
        have : (16 : Nat) ^ k ≤ 16 ^ 1 := Nat.pow_le_pow_right (by omega) (by omega)
        omega
      have hpw : acc * 16 + 15 < 16 ^ (k + 1) := by rw [Nat.pow_succ]; omega
      have hdrop : bs.drop k = bs[k]'(by omega) :: bs.drop (k + 1) := List.drop_eq_getElem_cons (by omega)
      have hget : bs.getD k 0 = bs[k]'(by omega) := by simp [List.getD, List.getElem?_eq_getElem (show k < bs.length by omega)]
      rw [hdrop] at hdec
      rw [hget] at hc
      generalize bs[k]'(by omega) = c at hc hdec
      have hc256 : c.toNat < 256 := c.toNat_lt
      have hlow := fun W => lower_calls W c.toNat hc256
      clear hB hdrop hget
      have HD : Hid (puF 0 bs = if hxD c.toNat < 16 then puF (acc * 16 + hxD c.toNat) (bs.drop (k + 1)) else none) := hdec
      clear hdec
      have HL : Hid (hxD c.toNat = if 48 ≤ c.toNat ∧ c.toNat ≤ 57 then c.toNat - 48 else if 97 ≤ (c.toNat ||| 32) ∧ (c.toNat ||| 32) ≤ 122 then (c.toNat ||| 32) - 87 else 255) := rfl
      have hl256 : c.toNat ||| 32 < 256 := Nat.or_lt_two_pow (n := 8) hc256 (by omega)
      have h95 : c.toNat = 95 → c.toNat ||| 32 = 127 := fun h => by rw [h]; rfl
      generalize c.toNat ||| 32 = l at *
      generalize hxD c.toNat = d at *
      generalize c.toNat = n at *
      have a0 : 0 ≤ a := by omega
      have a1 : a ≤ 15 := by omega
      by_cases hu : n = 95
      · have hl7 := h95 hu
        subst hu
        subst hl7
        have HN : Hid (puF 0 bs = none) := by
          show _ = _
          rw [HD.out, if_neg (by rw [HL.out, if_neg (by omega), if_neg (by omega)]; omega)]
        clear HD HL hacc ha hpw ha16 h95
        go_wp2_with (go_at_call 28; refine (hlow _).mono ?_; rintro e w' ⟨rfl, rfl⟩)
        all_goals go_ret2
        all_goals exact ⟨by rw [HN.out]; rfl, rfl⟩
      have hun : ((n : Int) == 95) = false := by rw [beq_eq_false_iff_ne]; omega
      have hun2 : ¬ (n : Int) = 95 := by omega
      clear h95
      by_cases hdig : 48 ≤ n ∧ n ≤ 57
      · obtain ⟨hd0, hd1⟩ := hdig
        have ed : d = n - 48 := by rw [HL.out, if_pos ⟨hd0, hd1⟩]
        have HN : Hid (a * 16 + ((n : Int) - 48) = ((acc * 16 + d : Nat) : Int) ∧ acc * 16 + d < 16 ^ (k + 1) ∧ puF 0 bs = puF (acc * 16 + d) (bs.drop (k + 1))) := ⟨by omega, by omega, by rw [HD.out, if_pos (by omega)]⟩
        have iov : a * 16 + ((n : Int) - 48) ≤ 255 := by omega
        clear ed HD HL hacc ha hpw ha16 hlow
        go_wp2
        refine ⟨⟨k + 1, acc * 16 + d, a * 16 + ((n : Int) - 48), rfl, (by first | rfl | (congr 1; omega)), (by first | rfl | (congr 1; omega)), by omega, HN⟩, by simp [RowKit.intOf]; omega⟩
      by_cases hlet : 97 ≤ l ∧ l ≤ 122
      · obtain ⟨hl0, hl1⟩ := hlet
        have ed : d = l - 87 := by rw [HL.out, if_neg hdig, if_pos ⟨hl0, hl1⟩]
        by_cases hd16 : d < 16
        · have HN : Hid (a * 16 + ((l : Int) - 97 + 10) = ((acc * 16 + d : Nat) : Int) ∧ acc * 16 + d < 16 ^ (k + 1) ∧ puF 0 bs = puF (acc * 16 + d) (bs.drop (k + 1))) := ⟨by omega, by omega, by rw [HD.out, if_pos hd16]⟩
          have iov : a * 16 + ((l : Int) - 97 + 10) ≤ 255 := by omega
          have i16 : (l : Int) - 97 + 10 < 16 := by omega
          clear ed HD HL hacc ha hpw ha16 hd16
          go_wp2_with (go_at_call 28; refine (hlow _).mono ?_; rintro e w' ⟨rfl, rfl⟩)
          all_goals refine ⟨⟨k + 1, acc * 16 + d, a * 16 + ((l : Int) - 97 + 10), rfl, (by first | rfl | (congr 1; omega)), (by first | rfl | (congr 1; omega)), by omega, HN⟩, by simp [RowKit.intOf]; omega⟩
        · have HN : Hid (puF 0 bs = none) := by show _ = _; rw [HD.out, if_neg hd16]
          have i16 : 16 ≤ (l : Int) - 97 + 10 := by omega
          clear ed HD HL hacc ha hpw ha16 hd16
          go_wp2_with (go_at_call 28; refine (hlow _).mono ?_; rintro e w' ⟨rfl, rfl⟩)
          all_goals go_ret2
          all_goals exact ⟨by rw [HN.out]; rfl, rfl⟩
      · have HN : Hid (puF 0 bs = none) := by
          show _ = _
          rw [HD.out, if_neg (by rw [HL.out, if_neg hdig, if_neg hlet]; omega)]
        clear HD HL hacc ha hpw ha16
        go_wp2_with (go_at_call 28; refine (hlow _).mono ?_; rintro e w' ⟨rfl, rfl⟩)
        all_goals go_ret2
        all_goals exact ⟨by rw [HN.out]; rfl, rfl⟩
    · have hkk : k = 2 := by omega
      subst hkk
      subst ha
      have hF : puF acc (bs.drop 2) = some acc := by rw [List.drop_eq_nil_of_le (by omega)]; rfl
      rw [hF] at hdec
      clear hF
      have h20 : ((t.size : Nat) : Int) = 2 := by omega
      go_wp2
      go_ret2
      exact ⟨rfl, rfl⟩

end Go.Proofs.YtmbonljmghpcmaaDoor
