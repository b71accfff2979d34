/- Calls that are drawn, all of them. (made by tools/mkdraws.py) -/
import Derived.Test.YtacfkgfemmgpkaaGreatDoorWeak
import Derived.Test.YtacfkgfemmgpkaaGreatDoorDrawL
namespace Go.Proofs.YtacfkgfemmgpkaaGreatDoor
open Go.RowKit

set_option maxRecDepth 20000 in
set_option maxHeartbeats 8000000 in
theorem calls_e {S : Sc} {w0 w : World} {A : Nat} (h : En S w0 w A) (hA : A ≤ 1000) (n : Nat) (hn : n ≤ 100) :
    Calls Tryz.prog 14 #[.pointer (some ⟨S.p, 0, none⟩), .int .i64 n] w fun e w' => ∃ v : Value, e = .returned v ∧ Cs S w0 w' v 200000 200 := by
  suffices hk : Calls Tryz.prog 14 #[.pointer (some ⟨S.p, 0, none⟩), .int .i64 n] w fun e w' => ∃ v : Value, e = .returned v ∧ Cs S w w' v 200000 200 from hk.mono (fun e w' ⟨v, h1, h2⟩ => ⟨v, h1, Cs.up h h2⟩)
  have h0 := Cs.nil h.self
  clear h
  have lr1 := letter_run
  have zs : (⟨#[47]⟩ : ByteArray).size = 1 := rfl
  go_enter Tryz.func14, Tryz.ntmps14
  go_wp2_with fail
  generalize w.alloc (.cells #[] 29) = wA at *
  refine (next_e h0.self (by omega) 6 (by omega)).mono ?_
  rintro e w1 ⟨q, rfl, q0, q1, h1⟩
  replace q1 := q1 (by omega)
  have hC := h0.step h1
  generalize Value.slice (some ⟨w.heap.size, 0, none⟩) 0 0 = v0 at *
  clear h0 h1
  go_upto_if 13 with fail
  go_cut [5] (fun s5 wx => Cs S w wx s5 (A + 401) 40)
  case first =>
    by_cases hq : q = 0
    · subst hq
      go_wp2_with fail
      refine (linked_e hC.en (by omega)).mono ?_
      rintro e w2 ⟨v, rfl, h2⟩
      have HC5 : Hid (Cs S w w2 v (A + 401) 40) := h2.mono (by omega) (by omega)
      clear h2
      go_wp2
      go_meet
      exact HC5.out
    · have hqb : (q == 0) = false := by simpa using hq
      go_wp2
      go_meet
      exact hC.mono (by omega) (by omega)
  case rest =>
  clear hC
  have hC : Cs S w wc u5 (A + 401) 40 := hcut
  generalize wc = wx1 at *
  clear hcut
  generalize u5 = v3 at *
  go_upto_region 5 with fail
  go_cut [21] (fun s21 wx => (∃ b : Bool, s21 = .bool b) ∧ wx = wx1)
  case first =>
    by_cases hq : q = 1
    · subst hq
      go_wp2
      go_meet
      exact ⟨⟨_, rfl⟩, rfl⟩
    · have hqb : (q == 1) = false := by simpa using hq
      go_wp2
      go_meet
      exact ⟨⟨_, rfl⟩, rfl⟩
  case rest =>
  obtain ⟨⟨b, rfl⟩, hwc⟩ := hcut
  obtain rfl : wx1 = wc := hwc.symm
  go_upto_if 21 with fail
  go_cut [5] (fun s5 wx => Cs S w wx s5 (A + 801) 40)
  case first =>
    cases b
    · go_wp2
      go_meet
      exact hC.mono (by omega) (by omega)
    · go_wp2_with fail
      refine (opened_e hC.en (by omega)).mono ?_
      rintro e w2 ⟨v, rfl, h2⟩
      have HC5 : Hid (Cs S w w2 v (A + 801) 40) := h2.mono (by omega) (by omega)
      clear h2
      go_wp2
      go_meet
      exact HC5.out
  case rest =>
  clear hC
  have hC : Cs S w wc u5 (A + 801) 40 := hcut
  generalize wc = wx2 at *
  clear hcut
  generalize u5 = v4 at *
  go_upto_if 25 with fail
  go_cut [5] (fun s5 wx => Cs S w wx s5 (A + 1201) 40)
  case first =>
    by_cases hq : q = 3
    · subst hq
      go_wp2_with fail
      refine (same_e hC.en (by omega)).mono ?_
      rintro e w2 ⟨v, rfl, h2⟩
      have HC5 : Hid (Cs S w w2 v (A + 1201) 40) := h2.mono (by omega) (by omega)
      clear h2
      go_wp2
      go_meet
      exact HC5.out
    · have hqb : (q == 3) = false := by simpa using hq
      go_wp2
      go_meet
      exact hC.mono (by omega) (by omega)
  case rest =>
  clear hC
  have HC6 : Hid (Cs S w wc u5 (A + 1201) 40) := hcut
  generalize wc = wx3 at *
  clear hcut
  generalize u5 = v5 at *
  go_wp2
  go_loopw [5, 7, 8] (fun o x y wr => ∃ k : Nat, k ≤ n ∧ x = .int .i64 k ∧ Cs S w wr o (A + 1201 + 910 * k) (40 + k)) (fun _ x _ _ => n - (RowKit.intOf x).toNat)
  case atStart => exact ⟨0, Nat.zero_le _, rfl, HC6.out⟩
  case round =>
    obtain ⟨k, hk, rfl, hC⟩ := hrel
    have HC : Hid (Cs S w wr u5 (A + 1201 + 910 * k) (40 + k)) := hC
    clear hC HC6
    by_cases hlt : k < n
    case neg =>
      have hi : ¬ ((k : Int) < (n : Int)) := by omega
      go_wp2
      go_ret
      exact ⟨_, rfl, HC.out.mono (by omega) (by omega)⟩
    have hi : (k : Int) < (n : Int) := by omega
    by_cases h3 : k < 3
    · have h3i : (k : Int) < 3 := by omega
      go_wp2_with fail
      refine (chance_e HC.out.self (by omega) 4 (by omega)).mono ?_
      rintro e wy ⟨b, rfl, hh⟩
      have hC2 := HC.out.step hh
      clear hh HC
      cases b
      · have e1 : IntKind.u8.wrap (97 + (k : Int)) = 97 + (k : Int) := by rw [IntKind.wrap_u8]; omega
        have a1 : (⟨#[47]⟩ : ByteArray).size + (strOfNums [97 + (k : Int)]).size ≤ 10000 := by rw [letter_size, zs]; omega
        have hC3 := hC2.alloc (.cells #[.int .u8 (97 + (k : Int))] 5)
        go_wp2_with fail
        refine (next_e hC3.self (by omega) 2 (by omega)).mono ?_
        rintro e wk ⟨r, rfl, r0, r1, hh⟩
        replace r1 := r1 (by omega)
        have er : IntKind.i64.wrap (1 + r) = 1 + r := by rw [IntKind.wrap_i64]; omega
        have hC4 := hC3.step hh
        clear hh hC3 hC2
        go_wp2_with (at_builtin; refine wpList_cs1 rfl (.tmp 46) (.tmp 52) rfl rfl hC4 rfl rfl (by omega) ⟨by rw [ByteArray.size_append, letter_size, zs]; omega, by decide, by decide⟩ ?_)
        intro v7 w7 hC7
        have HC7 : Hid (Cs S w w7 v7 (A + 1201 + 910 * (k + 1)) (40 + (k + 1))) := hC7.mono (by omega) (by omega)
        clear hC7
        go_wp2
        go_roundw
        case rel => exact ⟨k + 1, by omega, by go_num, HC7.out⟩
        case measure => simp [RowKit.intOf]; omega
      · skip
        go_wp2_with fail
        refine (call_e hC2.self (by omega)).mono ?_
        rintro e wq ⟨s, rfl, so, hh⟩
        have hC4 := hC2.step hh
        clear hh
        go_wp2_with (at_builtin; refine wpList_cs1 rfl (.tmp 54) (.tmp 57) rfl rfl hC4 rfl rfl (by omega) so ?_)
        intro v7 w7 hC7
        have HC7 : Hid (Cs S w w7 v7 (A + 1201 + 910 * (k + 1)) (40 + (k + 1))) := hC7.mono (by omega) (by omega)
        clear hC7
        go_wp2
        go_roundw
        case rel => exact ⟨k + 1, by omega, by go_num, HC7.out⟩
        case measure => simp [RowKit.intOf]; omega
    · have h3i : ¬ ((k : Int) < 3) := by omega
      have hC2 := HC.out
      clear HC
      go_wp2_with fail
      refine (call_e hC2.self (by omega)).mono ?_
      rintro e wq ⟨s, rfl, so, hh⟩
      have hC4 := hC2.step hh
      clear hh
      go_wp2_with (at_builtin; refine wpList_cs1 rfl (.tmp 54) (.tmp 57) rfl rfl hC4 rfl rfl (by omega) so ?_)
      intro v7 w7 hC7
      have HC7 : Hid (Cs S w w7 v7 (A + 1201 + 910 * (k + 1)) (40 + (k + 1))) := hC7.mono (by omega) (by omega)
      clear hC7
      go_wp2
      go_roundw
      case rel => exact ⟨k + 1, by omega, by go_num, HC7.out⟩
      case measure => simp [RowKit.intOf]; omega

end Go.Proofs.YtacfkgfemmgpkaaGreatDoor
