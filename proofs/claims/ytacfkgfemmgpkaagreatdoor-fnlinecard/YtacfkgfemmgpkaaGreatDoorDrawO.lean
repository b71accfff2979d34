/- Calls on handles that are drawn. (made by tools/mkdrawo.py) -/
import Derived.Test.YtacfkgfemmgpkaaGreatDoorDrawCs
namespace Go.Proofs.YtacfkgfemmgpkaaGreatDoor
open Go.RowKit

/-- Two calls that a literal lays. -/
theorem Cs.two {S : Sc} {w0 w : World} {A : Nat} {k0 h0 o0 z0 k1 h1 o1 z1 : Int} {p0 t0 d0 p1 t1 d1 : ByteArray} (h : En S w0 w A) (q0 : p0.size ≤ 3000 ∧ t0.size ≤ 3000 ∧ d0.size ≤ 3000) (q1 : p1.size ≤ 3000 ∧ t1.size ≤ 3000 ∧ d1.size ≤ 3000) :
    Cs S w0 (w.alloc (.cells #[.int .i64 k0, .string p0, .string t0, .int .i64 h0, .int .i64 o0, .int .i64 z0, .string d0, .int .i64 k1, .string p1, .string t1, .int .i64 h1, .int .i64 o1, .int .i64 z1, .string d1] 29)) (.slice (some ⟨w.heap.size, 0, none⟩) 2 2) A 2 := by
  refine ⟨_, _, [⟨0, k0, p0, t0, h0, o0, z0, d0, []⟩, ⟨0, k1, p1, t1, h1, o1, z1, d1, []⟩], rfl, OwnC.low ?_ h.size, ?_, Nat.le_refl _, h.alloc _⟩
  · have := World.ownsRow_lit (base := w.heap.size) (e := 29) (size := 7) w #[.int .i64 k0, .string p0, .string t0, .int .i64 h0, .int .i64 o0, .int .i64 z0, .string d0, .int .i64 k1, .string p1, .string t1, .int .i64 h1, .int .i64 o1, .int .i64 z1, .string d1] 2 (Nat.le_refl _) (by unfold maxLen; omega) (by simp)
    simpa [OwnC, cellsC] using this
  · intro q hq
    simp only [List.mem_cons, List.not_mem_nil, or_false] at hq
    rcases hq with rfl | rfl
    · exact q0
    · exact q1

set_option maxRecDepth 20000 in
set_option maxHeartbeats 8000000 in
theorem opened_e {S : Sc} {w0 w : World} {A : Nat} (h : En S w0 w A) (hA : A ≤ 300000) :
    Calls Tryz.prog 23 #[.pointer (some ⟨S.p, 0, none⟩)] w fun e w' => ∃ v : Value, e = .returned v ∧ Cs S w0 w' v (A + 300) 40 := by
  suffices hk : Calls Tryz.prog 23 #[.pointer (some ⟨S.p, 0, none⟩)] w fun e w' => ∃ v : Value, e = .returned v ∧ Cs S w w' v (A + 300) 40 from hk.mono (fun e w' ⟨v, h1, h2⟩ => ⟨v, h1, Cs.up h h2⟩)
  have h0 := @Cs.two S w w A 1 0 0 0 14 0 0 0 ⟨#[47, 111]⟩ ⟨#[]⟩ ⟨#[]⟩ ⟨#[47, 111]⟩ ⟨#[]⟩ ⟨#[]⟩ h.self ⟨by decide, by decide, by decide⟩ ⟨by decide, by decide, by decide⟩
  clear h
  go_enter Tryz.func23, Tryz.ntmps23
  go_wp2_with fail
  generalize w.alloc (.cells #[.int .i64 1, .string ⟨#[47, 111]⟩, .string ⟨#[]⟩, .int .i64 0, .int .i64 0, .int .i64 0, .string ⟨#[]⟩, .int .i64 14, .string ⟨#[47, 111]⟩, .string ⟨#[]⟩, .int .i64 0, .int .i64 0, .int .i64 0, .string ⟨#[]⟩] 29) = wA at *
  refine (chance_e h0.self (by omega) 3 (by omega)).mono ?_
  rintro e w1 ⟨b, rfl, h1⟩
  have hC := h0.step h1
  generalize Value.slice (some ⟨w.heap.size, 0, none⟩) 2 2 = v0 at *
  clear h0 h1
  go_upto_if 12 with fail
  go_cut [3] (fun s3 wx => Cs S w wx s3 (A + 11) 3)
  case first =>
    cases b
    · go_wp2
      go_meet
      exact hC.mono (by omega) (by omega)
    · go_wp2_with fail
      refine (data_e hC.self (by omega)).mono ?_
      rintro e w2 ⟨d, rfl, d0, h2⟩
      have hC2 := hC.step h2
      go_wp2_with (at_builtin; refine wpList_cs1 rfl (.tmp 13) (.tmp 17) rfl rfl hC2 rfl rfl (by omega) ⟨by decide, by decide, d0⟩ ?_)
      intro v5 w5 hC5
      have HC5 : Hid (Cs S w w5 v5 (A + 11) 3) := hC5.mono (by omega) (by omega)
      clear hC5
      go_wp2
      go_meet
      exact HC5.out
  case rest =>
  clear hC
  have hC : Cs S w wc u3 (A + 11) 3 := hcut
  generalize wc = wx1 at *
  clear hcut
  generalize u3 = v3 at *
  go_wp2_with fail
  refine (chance_e hC.self (by omega) 8 (by omega)).mono ?_
  rintro e w1 ⟨b, rfl, h1⟩
  replace hC := hC.step h1
  clear h1
  go_upto_if 20 with fail
  go_cut [3] (fun s3 wx => Cs S w wx s3 (A + 12) 11)
  case first =>
    cases b
    · go_wp2
      go_meet
      exact hC.mono (by omega) (by omega)
    · have HC6 : Hid (Cs S w w1 v3 (A + 12) 3) := hC.mono (by omega) (by omega)
      clear hC
      go_wp2
      go_loopw [3, 4] (fun o x wr => ∃ k : Nat, k ≤ 8 ∧ x = .int .i64 k ∧ Cs S w wr o (A + 12) (3 + (8 - k))) (fun _ x _ => (RowKit.intOf x).toNat)
      case atStart => exact ⟨8, by omega, rfl, HC6.out.mono (Nat.le_refl _) (by omega)⟩
      case round =>
        obtain ⟨j, hj, rfl, hC⟩ := hrel
        have HC : Hid (Cs S w wr u3 (A + 12) (3 + (8 - j))) := hC
        clear hC HC6
        by_cases hlt : 0 < j
        · have hi : (0 : Int) < (j : Int) := by omega
          go_wp2_with (at_builtin; refine wpList_cs1 rfl (.tmp 25) (.tmp 27) rfl rfl HC.out rfl rfl (by omega) ⟨by decide, by decide, by decide⟩ ?_)
          intro v7 w7 hC7
          have HC7 : Hid (Cs S w w7 v7 (A + 12) (3 + (8 - (j - 1)))) := hC7.mono (Nat.le_refl _) (by omega)
          clear hC7
          go_wp2
          go_roundw
          case rel => exact ⟨j - 1, by omega, by go_num, HC7.out⟩
          case measure => simp [RowKit.intOf]; omega
        · have hi : ¬ ((0 : Int) < (j : Int)) := by omega
          go_wp2
          go_meet
          exact HC.out.mono (Nat.le_refl _) (by omega)
  case rest =>
  clear hC
  have hC : Cs S w wc u3 (A + 12) 11 := hcut
  generalize wc = wx2 at *
  clear hcut
  generalize u3 = v4 at *
  go_wp2_with fail
  refine (next_e hC.self (by omega) 8 (by omega)).mono ?_
  rintro e w6 ⟨m, rfl, m0, m1, h6⟩
  replace m1 := m1 (by omega)
  have HC6 : Hid (Cs S w w6 v4 (A + 13) 11) := hC.step h6
  clear h6 hC
  obtain ⟨n, hn⟩ : ∃ z : Nat, 2 + m = (z : Int) := ⟨(2 + m).toNat, by omega⟩
  have hn9 : n ≤ 9 := by omega
  go_wp2
  go_loopw [3, 5, 6, 7] (fun o x y z wr => ∃ j : Nat, j ≤ 9 ∧ x = .int .i64 j ∧ Cs S w wr o (A + 13 + 20 * (9 - j)) (11 + 2 * (9 - j))) (fun _ x _ _ _ => (RowKit.intOf x).toNat)
  case atStart => exact ⟨n, by omega, rfl, HC6.out.mono (by omega) (by omega)⟩
  case round =>
    obtain ⟨j, hj, rfl, hC⟩ := hrel
    have HC : Hid (Cs S w wr u3 (A + 13 + 20 * (9 - j)) (11 + 2 * (9 - j))) := hC
    clear hC HC6
    by_cases hlt : 0 < j
    case neg =>
      have hi : ¬ ((0 : Int) < (j : Int)) := by omega
      go_wp2
      go_ret
      exact ⟨_, rfl, HC.out.mono (by omega) (by omega)⟩
    have hi : (0 : Int) < (j : Int) := by omega
    go_wp2_with fail
    refine (next_e HC.out.self (by omega) 2 (by omega)).mono ?_
    rintro e w1 ⟨r, rfl, r0, r1, h1⟩
    replace r1 := r1 (by omega)
    have er : IntKind.i64.wrap (1 + r) = 1 + r := by rw [IntKind.wrap_i64]; omega
    go_wp2_with fail
    refine (next_e h1 (by omega) 12 (by omega)).mono ?_
    rintro e w2 ⟨q, rfl, q0, q1, h2⟩
    replace q1 := q1 (by omega)
    have hC2 := HC.out.step h2
    clear HC h1 h2
    by_cases e0 : q = 0
    · subst e0
      go_wp2_with (at_builtin; refine wpList_cs1 rfl (.tmp 44) (.tmp 46) rfl rfl hC2 rfl rfl (by omega) ⟨by decide, by decide, by decide⟩ ?_)
      intro v7 w7 hC7
      have HC7 : Hid (Cs S w w7 v7 (A + 13 + 20 * (9 - (j - 1))) (11 + 2 * (9 - (j - 1)))) := hC7.mono (by omega) (by omega)
      clear hC7
      go_wp2
      go_roundw
      case rel => exact ⟨j - 1, by omega, by go_num, HC7.out⟩
      case measure => simp [RowKit.intOf]; omega
    have f0 : (q == 0) = false := by simpa using e0
    by_cases e1 : q = 1
    · subst e1
      go_wp2_with (at_builtin; refine wpList_cs1 rfl (.tmp 44) (.tmp 46) rfl rfl hC2 rfl rfl (by omega) ⟨by decide, by decide, by decide⟩ ?_)
      intro v7 w7 hC7
      have HC7 : Hid (Cs S w w7 v7 (A + 13 + 20 * (9 - (j - 1))) (11 + 2 * (9 - (j - 1)))) := hC7.mono (by omega) (by omega)
      clear hC7
      go_wp2
      go_roundw
      case rel => exact ⟨j - 1, by omega, by go_num, HC7.out⟩
      case measure => simp [RowKit.intOf]; omega
    have f1 : (q == 1) = false := by simpa using e1
    by_cases e2 : q = 2
    · subst e2
      go_wp2_with (at_builtin; refine wpList_cs1 rfl (.tmp 50) (.tmp 52) rfl rfl hC2 rfl rfl (by omega) ⟨by decide, by decide, by decide⟩ ?_)
      intro v7 w7 hC7
      have HC7 : Hid (Cs S w w7 v7 (A + 13 + 20 * (9 - (j - 1))) (11 + 2 * (9 - (j - 1)))) := hC7.mono (by omega) (by omega)
      clear hC7
      go_wp2
      go_roundw
      case rel => exact ⟨j - 1, by omega, by go_num, HC7.out⟩
      case measure => simp [RowKit.intOf]; omega
    have f2 : (q == 2) = false := by simpa using e2
    by_cases e3 : q = 3
    · subst e3
      go_wp2_with fail
      refine (l12DrawOffset_e hC2.self (by omega)).mono ?_
      rintro e w3 ⟨x, rfl, h3⟩
      go_wp2_with fail
      refine (data_e h3 (by omega)).mono ?_
      rintro e w4 ⟨d, rfl, d0, h4⟩
      have hC4 := hC2.step h4
      go_wp2_with (at_builtin; refine wpList_cs1 rfl (.tmp 60) (.tmp 66) rfl rfl hC4 rfl rfl (by omega) ⟨by decide, by decide, d0⟩ ?_)
      intro v7 w7 hC7
      have HC7 : Hid (Cs S w w7 v7 (A + 13 + 20 * (9 - (j - 1))) (11 + 2 * (9 - (j - 1)))) := hC7.mono (by omega) (by omega)
      clear hC7
      go_wp2
      go_roundw
      case rel => exact ⟨j - 1, by omega, by go_num, HC7.out⟩
      case measure => simp [RowKit.intOf]; omega
    have f3 : (q == 3) = false := by simpa using e3
    by_cases e4 : q = 4
    · subst e4
      go_wp2_with fail
      refine (l12DrawOffset_e hC2.self (by omega)).mono ?_
      rintro e w3 ⟨x, rfl, h3⟩
      go_wp2_with fail
      refine (data_e h3 (by omega)).mono ?_
      rintro e w4 ⟨d, rfl, d0, h4⟩
      have hC4 := hC2.step h4
      go_wp2_with (at_builtin; refine wpList_cs1 rfl (.tmp 60) (.tmp 66) rfl rfl hC4 rfl rfl (by omega) ⟨by decide, by decide, d0⟩ ?_)
      intro v7 w7 hC7
      have HC7 : Hid (Cs S w w7 v7 (A + 13 + 20 * (9 - (j - 1))) (11 + 2 * (9 - (j - 1)))) := hC7.mono (by omega) (by omega)
      clear hC7
      go_wp2
      go_roundw
      case rel => exact ⟨j - 1, by omega, by go_num, HC7.out⟩
      case measure => simp [RowKit.intOf]; omega
    have f4 : (q == 4) = false := by simpa using e4
    by_cases e5 : q = 5
    · subst e5
      go_wp2_with fail
      refine (l12DrawOffset_e hC2.self (by omega)).mono ?_
      rintro e w3 ⟨x, rfl, h3⟩
      go_wp2_with fail
      refine (data_e h3 (by omega)).mono ?_
      rintro e w4 ⟨d, rfl, d0, h4⟩
      have hC4 := hC2.step h4
      go_wp2_with (at_builtin; refine wpList_cs1 rfl (.tmp 60) (.tmp 66) rfl rfl hC4 rfl rfl (by omega) ⟨by decide, by decide, d0⟩ ?_)
      intro v7 w7 hC7
      have HC7 : Hid (Cs S w w7 v7 (A + 13 + 20 * (9 - (j - 1))) (11 + 2 * (9 - (j - 1)))) := hC7.mono (by omega) (by omega)
      clear hC7
      go_wp2
      go_roundw
      case rel => exact ⟨j - 1, by omega, by go_num, HC7.out⟩
      case measure => simp [RowKit.intOf]; omega
    have f5 : (q == 5) = false := by simpa using e5
    by_cases e6 : q = 6
    · subst e6
      go_wp2_with fail
      refine (l12DrawOffset_e hC2.self (by omega)).mono ?_
      rintro e w3 ⟨x, rfl, h3⟩
      have hC4 := hC2.step h3
      go_wp2_with (at_builtin; refine wpList_cs1 rfl (.tmp 70) (.tmp 75) rfl rfl hC4 rfl rfl (by omega) ⟨by decide, by decide, by decide⟩ ?_)
      intro v7 w7 hC7
      have HC7 : Hid (Cs S w w7 v7 (A + 13 + 20 * (9 - (j - 1))) (11 + 2 * (9 - (j - 1)))) := hC7.mono (by omega) (by omega)
      clear hC7
      go_wp2
      go_roundw
      case rel => exact ⟨j - 1, by omega, by go_num, HC7.out⟩
      case measure => simp [RowKit.intOf]; omega
    have f6 : (q == 6) = false := by simpa using e6
    by_cases e7 : q = 7
    · subst e7
      go_wp2_with (at_builtin; refine wpList_cs2 rfl (.tmp 79) (.tmp 84) rfl rfl hC2 rfl rfl (by omega) ⟨by decide, by decide, by decide⟩ ⟨by decide, by decide, by decide⟩ ?_)
      intro v7 w7 hC7
      have HC7 : Hid (Cs S w w7 v7 (A + 13 + 20 * (9 - (j - 1))) (11 + 2 * (9 - (j - 1)))) := hC7.mono (by omega) (by omega)
      clear hC7
      go_wp2
      go_roundw
      case rel => exact ⟨j - 1, by omega, by go_num, HC7.out⟩
      case measure => simp [RowKit.intOf]; omega
    have f7 : (q == 7) = false := by simpa using e7
    by_cases e8 : q = 8
    · subst e8
      go_wp2_with (at_builtin; refine wpList_cs1 rfl (.tmp 88) (.tmp 91) rfl rfl hC2 rfl rfl (by omega) ⟨by decide, by decide, by decide⟩ ?_)
      intro v7 w7 hC7
      have HC7 : Hid (Cs S w w7 v7 (A + 13 + 20 * (9 - (j - 1))) (11 + 2 * (9 - (j - 1)))) := hC7.mono (by omega) (by omega)
      clear hC7
      go_wp2
      go_roundw
      case rel => exact ⟨j - 1, by omega, by go_num, HC7.out⟩
      case measure => simp [RowKit.intOf]; omega
    have f8 : (q == 8) = false := by simpa using e8
    by_cases e9 : q = 9
    · subst e9
      go_wp2_with (at_builtin; refine wpList_cs1 rfl (.tmp 95) (.tmp 97) rfl rfl hC2 rfl rfl (by omega) ⟨by decide, by decide, by decide⟩ ?_)
      intro v7 w7 hC7
      have HC7 : Hid (Cs S w w7 v7 (A + 13 + 20 * (9 - (j - 1))) (11 + 2 * (9 - (j - 1)))) := hC7.mono (by omega) (by omega)
      clear hC7
      go_wp2
      go_roundw
      case rel => exact ⟨j - 1, by omega, by go_num, HC7.out⟩
      case measure => simp [RowKit.intOf]; omega
    have f9 : (q == 9) = false := by simpa using e9
    by_cases e10 : q = 10
    · subst e10
      go_wp2_with (at_builtin; refine wpList_cs2 rfl (.tmp 101) (.tmp 104) rfl rfl hC2 rfl rfl (by omega) ⟨by decide, by decide, by decide⟩ ⟨by decide, by decide, by decide⟩ ?_)
      intro v7 w7 hC7
      have HC7 : Hid (Cs S w w7 v7 (A + 13 + 20 * (9 - (j - 1))) (11 + 2 * (9 - (j - 1)))) := hC7.mono (by omega) (by omega)
      clear hC7
      go_wp2
      go_roundw
      case rel => exact ⟨j - 1, by omega, by go_num, HC7.out⟩
      case measure => simp [RowKit.intOf]; omega
    have f10 : (q == 10) = false := by simpa using e10
    by_cases e11 : q = 11
    · subst e11
      go_wp2_with (at_builtin; refine wpList_cs1 rfl (.tmp 108) (.tmp 110) rfl rfl hC2 rfl rfl (by omega) ⟨by decide, by decide, by decide⟩ ?_)
      intro v7 w7 hC7
      have HC7 : Hid (Cs S w w7 v7 (A + 13 + 20 * (9 - (j - 1))) (11 + 2 * (9 - (j - 1)))) := hC7.mono (by omega) (by omega)
      clear hC7
      go_wp2
      go_roundw
      case rel => exact ⟨j - 1, by omega, by go_num, HC7.out⟩
      case measure => simp [RowKit.intOf]; omega
    have f11 : (q == 11) = false := by simpa using e11
    omega

end Go.Proofs.YtacfkgfemmgpkaaGreatDoor
