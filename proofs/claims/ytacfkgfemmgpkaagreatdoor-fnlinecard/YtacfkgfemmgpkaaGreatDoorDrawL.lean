/- Calls through links that are drawn. (made by tools/mkdrawl.py) -/
import Derived.Test.YtacfkgfemmgpkaaGreatDoorDrawCs
import Derived.Test.YtacfkgfemmgpkaaGreatDoorBytSeen
import Derived.Test.YtacfkgfemmgpkaaGreatDoorWeak
import Derived.Deep.RegionWith
namespace Go.Proofs.YtacfkgfemmgpkaaGreatDoor
open Go.RowKit

set_option maxRecDepth 20000 in
set_option maxHeartbeats 8000000 in
theorem linked_e {S : Sc} {w0 w : World} {A : Nat} (h : En S w0 w A) (hA : A ≤ 300000) :
    Calls Tryz.prog 22 #[.pointer (some ⟨S.p, 0, none⟩)] w fun e w' => ∃ v : Value, e = .returned v ∧ Cs S w0 w' v (A + 100) 40 := by
  suffices hk : Calls Tryz.prog 22 #[.pointer (some ⟨S.p, 0, none⟩)] w fun e w' => ∃ v : Value, e = .returned v ∧ Cs S w w' v (A + 100) 40 from hk.mono (fun e w' ⟨v, h1, h2⟩ => ⟨v, h1, Cs.up h h2⟩)
  have h0 := Cs.nil h.self
  clear h
  have lr1 := letter_run
  have lr2 := letter_run2
  have hmx : Tryz.prog.follows .mixedOrders = true := by kernel_rfl
  have zl : (⟨#[47, 108]⟩ : ByteArray).size = 2 := rfl
  have zh : (⟨#[47, 104]⟩ : ByteArray).size = 2 := rfl
  go_enter Tryz.func22, Tryz.ntmps22
  go_wp2_with fail
  generalize w.alloc (.cells #[] 29) = wA at *
  refine (next_e h0.self (by omega) 10 (by omega)).mono ?_
  rintro e w1 ⟨r, rfl, r0, r1, h1⟩
  replace r1 := r1 (by omega)
  have hC := h0.step h1
  generalize Value.slice (some ⟨w.heap.size, 0, none⟩) 0 0 = v0 at *
  obtain ⟨n, hn⟩ : ∃ n : Nat, 1 + r = (n : Int) := ⟨(1 + r).toNat, by omega⟩
  have hn1 : n ≤ 10 := by omega
  have HC0 : Hid (Cs S w w1 v0 (A + 1) 0) := hC
  clear h0 h1 hC r0 r1
  go_wp2
  go_loopw [3, 6] (fun o x wr => ∃ k : Nat, k ≤ n ∧ x = .int .i64 k ∧ Cs S w wr o (A + 1) k) (fun _ x _ => n - (RowKit.intOf x).toNat)
  case atStart => exact ⟨0, Nat.zero_le _, rfl, HC0.out⟩
  case round =>
    obtain ⟨k, hk, rfl, hC⟩ := hrel
    have HC : Hid (Cs S w wr u3 (A + 1) k) := hC
    clear hC HC0
    by_cases hlt : k < n
    · have hi : (k : Int) < (n : Int) := by omega
      have e1 : IntKind.u8.wrap (97 + (k : Int)) = 97 + (k : Int) := by rw [IntKind.wrap_u8]; omega
      have e2 : IntKind.u8.wrap (97 + (k : Int) + 1) = 97 + (k : Int) + 1 := by rw [IntKind.wrap_u8]; omega
      have a1 : (⟨#[47, 108]⟩ : ByteArray).size + (strOfNums [97 + (k : Int)]).size ≤ 10000 := by rw [letter_size, zl]; omega
      have a2 : (⟨#[47, 108]⟩ : ByteArray).size + (strOfNums [97 + (k : Int) + 1]).size ≤ 10000 := by rw [letter_size, zl]; omega
      go_wp2_with (at_builtin; refine wpList_cs1 rfl (.tmp 20) (.tmp 37) rfl rfl ((HC.out.alloc _).alloc _) rfl (by simp) (by omega) ⟨by rw [ByteArray.size_append, letter_size, zl]; omega, by rw [ByteArray.size_append, letter_size, zl]; omega, by decide⟩ ?_)
      intro v5 w5 hC5
      have HC5 : Hid (Cs S w w5 v5 (A + 1) (k + 1)) := hC5
      clear hC5
      go_wp2
      go_roundw
      case rel => exact ⟨k + 1, by omega, by go_num, HC5.out⟩
      case measure => simp [RowKit.intOf]; omega
    · obtain rfl : k = n := by omega
      have hi : ¬ ((k : Int) < (k : Int)) := by omega
      have e1 : IntKind.u8.wrap (97 + (k : Int)) = 97 + (k : Int) := by rw [IntKind.wrap_u8]; omega
      have a1 : (⟨#[47, 108]⟩ : ByteArray).size + (strOfNums [97 + (k : Int)]).size ≤ 10000 := by rw [letter_size, zl]; omega
      have HCa := HC.out.alloc (.cells #[.int .u8 (97 + (k : Int))] 5)
      go_wp2_with fail
      refine (next_e HCa.self (by omega) 3 (by omega)).mono ?_
      rintro e w2 ⟨q, rfl, q0, q1, h2⟩
      replace q1 := q1 (by omega)
      have hC2 := HCa.step h2
      clear HCa h2 HC
      obtain ⟨en, hen⟩ : ∃ en : ByteArray, (⟨#[47, 108]⟩ : ByteArray) ++ strOfNums [97 + (k : Int)] = en := ⟨_, rfl⟩
      have zen : en.size ≤ 3 := by rw [← hen, ByteArray.size_append, letter_size, zl]; omega
      rw [hen]
      clear hen
      go_upto_if 49 with fail
      go_cut [3] (fun s3 wx => Cs S w wx s3 (A + 2) 11)
      case first =>
        by_cases hq : q = 0
        · subst hq
          go_wp2_with (at_builtin; refine wpList_cs1 rfl (.tmp 50) (.tmp 53) rfl rfl hC2 rfl rfl (by omega) ⟨by omega, by decide, by decide⟩ ?_)
          intro v5 w5 hC5
          have HC5 : Hid (Cs S w w5 v5 (A + 2) 11) := hC5.mono (by omega) (by omega)
          clear hC5
          go_wp2
          go_meet
          exact HC5.out
        · have hqb : (q == 0) = false := by simpa using hq
          go_wp2
          go_meet
          exact hC2.mono (by omega) (by omega)
      case rest =>
      clear hC2
      have hC2 : Cs S w wc u3 (A + 2) 11 := hcut
      generalize wc = wx1 at *
      clear hcut
      generalize u3 = v3 at *
      go_upto_if 56 with fail
      go_cut [3] (fun s3 wx => Cs S w wx s3 (A + 2) 14)
      case first =>
        by_cases hq : q = 1
        · subst hq
          go_wp2_with (at_builtin; refine wpList_cs3 rfl (.tmp 57) (.tmp 63) rfl rfl hC2 rfl rfl (by omega) ⟨by omega, by decide, by decide⟩ ⟨by decide, by decide, by decide⟩ ⟨by omega, by decide, by decide⟩ ?_)
          intro v5 w5 hC5
          have HC5 : Hid (Cs S w w5 v5 (A + 2) 14) := hC5
          clear hC5
          go_wp2
          go_meet
          exact HC5.out
        · have hqb : (q == 1) = false := by simpa using hq
          go_wp2
          go_meet
          exact hC2.mono (by omega) (by omega)
      case rest =>
      clear hC2
      have hC2 : Cs S w wc u3 (A + 2) 14 := hcut
      generalize wc = wx2 at *
      clear hcut
      generalize u3 = v4 at *
      go_upto_if 66 with fail
      go_cut [3] (fun s3 wx => Cs S w wx s3 (A + 3) 30)
      case first =>
        by_cases hq : q = 2
        · subst hq
          go_wp2_with (at_builtin; refine wpList_cs2 rfl (.tmp 67) (.tmp 71) rfl rfl hC2 rfl rfl (by omega) ⟨by omega, by decide, by decide⟩ ⟨by decide, by decide, by decide⟩ ?_)
          intro v5 w5 hC5
          go_wp2_with fail
          refine (next_e hC5.self (by omega) 10 (by omega)).mono ?_
          rintro e w6 ⟨m, rfl, m0, m1, h6⟩
          replace m1 := m1 (by omega)
          have HC6 : Hid (Cs S w w6 v5 (A + 3) 16) := hC5.step h6
          clear hC5 h6 hC2
          obtain ⟨m, rfl⟩ : ∃ z : Nat, m = (z : Int) := ⟨m.toNat, by omega⟩
          go_wp2
          go_loopw [3, 9] (fun o x wr => ∃ k : Nat, k ≤ 9 ∧ x = .int .i64 k ∧ Cs S w wr o (A + 3) (16 + (9 - k))) (fun _ x _ => (RowKit.intOf x).toNat)
          case atStart => exact ⟨m, by omega, rfl, HC6.out.mono (Nat.le_refl _) (by omega)⟩
          case round =>
            obtain ⟨j, hj, rfl, hC⟩ := hrel
            have HC : Hid (Cs S w wr u3 (A + 3) (16 + (9 - j))) := hC
            clear hC HC6
            by_cases hlt : 0 < j
            · have hi : (0 : Int) < (j : Int) := by omega
              have e1 : IntKind.u8.wrap (97 + (j : Int)) = 97 + (j : Int) := by rw [IntKind.wrap_u8]; omega
              have a1 : (⟨#[47, 104]⟩ : ByteArray).size + (strOfNums [97 + (j : Int)]).size ≤ 10000 := by rw [letter_size, zh]; omega
              go_wp2_with (at_builtin; refine wpList_cs1 rfl (.tmp 79) (.tmp 88) rfl rfl (HC.out.alloc _) rfl (by simp) (by omega) ⟨by omega, by rw [ByteArray.size_append, letter_size, zh]; omega, by decide⟩ ?_)
              intro v7 w7 hC7
              have HC7 : Hid (Cs S w w7 v7 (A + 3) (16 + (9 - (j - 1)))) := hC7.mono (Nat.le_refl _) (by omega)
              clear hC7
              go_wp2
              go_roundw
              case rel => exact ⟨j - 1, by omega, by go_num, HC7.out⟩
              case measure => simp [RowKit.intOf]; omega
            · have hi : ¬ ((0 : Int) < (j : Int)) := by omega
              go_wp2
              go_meet
              exact HC.out.mono (Nat.le_refl _) (by omega)
        · have hqb : (q == 2) = false := by simpa using hq
          go_wp2
          go_meet
          exact hC2.mono (by omega) (by omega)
      case rest =>
      clear hC2
      have hC2 : Cs S w wc u3 (A + 3) 30 := hcut
      generalize wc = wx3 at *
      clear hcut
      generalize u3 = v6 at *
      go_wp2_with fail
      refine (next_e hC2.self (by omega) 6 (by omega)).mono ?_
      rintro e w6 ⟨m, rfl, m0, m1, h6⟩
      replace m1 := m1 (by omega)
      have HC6 : Hid (Cs S w w6 v6 (A + 4) 30) := hC2.step h6
      clear h6 hC2
      obtain ⟨m, rfl⟩ : ∃ z : Nat, m = (z : Int) := ⟨m.toNat, by omega⟩
      go_wp2
      go_loopw [3, 10] (fun o x wr => ∃ j : Nat, j ≤ 5 ∧ x = .int .i64 j ∧ Cs S w wr o (A + 4 + 3 * (5 - j)) (30 + (5 - j))) (fun _ x _ => (RowKit.intOf x).toNat)
      case atStart => exact ⟨m, by omega, rfl, HC6.out.mono (by omega) (by omega)⟩
      case round =>
        obtain ⟨j, hj, rfl, hC⟩ := hrel
        have HC : Hid (Cs S w wr u3 (A + 4 + 3 * (5 - j)) (30 + (5 - j))) := hC
        clear hC HC6
        by_cases hlt : 0 < j
        · have hi : (0 : Int) < (j : Int) := by omega
          have hE0 : En S wr wr.drew (A + 4 + 3 * (5 - j)) := HC.out.self.keep (Chg.drew (Chg.refl 0 0 wr))
          have ek : IntKind.i64.wrap ((k : Int) + 1) = (k : Int) + 1 := by rw [IntKind.wrap_i64]; omega
          go_wp2_with fail
          refine held_region (fun _ => True) hmx ?_
          generalize wr.drew = wd at *
          refine held_take 0 (u3) rfl (by kernel_rfl) (by kernel_rfl) (by kernel_rfl) (fun _ _ _ h => h) (.inl ⟨by kernel_rfl, fun w' hw' => by go_simp⟩) trivial ?_
          go_simp
          refine held_take 1 (.pointer (some ⟨S.p, 0, none⟩)) rfl (by kernel_rfl) (by kernel_rfl) (by kernel_rfl) (fun _ _ _ h => h) (.inl ⟨by kernel_rfl, fun w' hw' => by go_simp⟩) trivial ?_
          go_simp
          refine held_take 4 (.string ⟨#[47, 108]⟩) rfl (by kernel_rfl) (by kernel_rfl) (by kernel_rfl) (fun _ _ _ h => h) (.inl ⟨by kernel_rfl, fun w' hw' => by go_simp⟩) trivial ?_
          go_simp
          refine held_take 5 (.pointer (some ⟨S.p, 0, none⟩)) rfl (by kernel_rfl) (by kernel_rfl) (by kernel_rfl) (fun _ _ _ h => h) (.inl ⟨by kernel_rfl, fun w' hw' => by go_simp⟩) trivial ?_
          go_simp
          refine held_take 6 (.int .i64 k) rfl (by kernel_rfl) (by kernel_rfl) (by kernel_rfl) (fun _ _ _ h => h) (.inl ⟨by kernel_rfl, fun w' hw' => by go_simp⟩) trivial ?_
          go_simp
          refine held_take 7 (.int .i64 ((k : Int) + 1)) rfl (by kernel_rfl) (by kernel_rfl) (by kernel_rfl) (fun _ _ _ h => h) (.inl ⟨by kernel_rfl, fun w' hw' => by go_simp⟩) trivial ?_
          go_simp
          refine held_take 14 (.pointer (some ⟨S.p, 0, none⟩)) rfl (by kernel_rfl) (by kernel_rfl) (by kernel_rfl) (fun _ _ _ h => h) (.inl ⟨by kernel_rfl, fun w' hw' => by go_simp⟩) trivial ?_
          go_simp
          refine held_one 2 rfl rfl (by kernel_rfl) ?_
          refine wp_enter 13 #[.pointer (some ⟨S.p, 0, none⟩), .int .i64 21] (by first | kernel_rfl | go_simp) (next_e hE0 (by omega) 21 (by omega)) ?_
          rintro e wa ⟨ra, rfl, ra0, ra1, hE1⟩
          replace ra1 := ra1 (by omega)
          have raw : IntKind.i64.wrap (1 + ra) = 1 + ra := by rw [IntKind.wrap_i64]; omega
          have rax : IntKind.i64.wrap (97 + ra) = 97 + ra := by rw [IntKind.wrap_i64]; omega
          have ray : IntKind.u8.wrap (97 + ra) = 97 + ra := by rw [IntKind.wrap_u8]; omega
          refine ⟨_, rfl, trivial, ?_⟩
          go_simp
          refine held_take 3 (.int .i64 (1 + ra)) rfl (by kernel_rfl) (by kernel_rfl) (by kernel_rfl) (fun _ _ _ h => h) (.inl ⟨by kernel_rfl, fun w' hw' => by go_simp⟩) trivial ?_
          go_simp
          refine held_one 8 rfl rfl (by kernel_rfl) ?_
          refine wp_enter 13 #[.pointer (some ⟨S.p, 0, none⟩), .int .i64 ((k : Int) + 1)] (by first | kernel_rfl | go_simp) (next_e hE1 (by omega) ((k : Int) + 1) (by omega)) ?_
          rintro e wb ⟨rb, rfl, rb0, rb1, hE2⟩
          replace rb1 := rb1 (by omega)
          have rbw : IntKind.i64.wrap (1 + rb) = 1 + rb := by rw [IntKind.wrap_i64]; omega
          have rbx : IntKind.i64.wrap (97 + rb) = 97 + rb := by rw [IntKind.wrap_i64]; omega
          have rby : IntKind.u8.wrap (97 + rb) = 97 + rb := by rw [IntKind.wrap_u8]; omega
          refine ⟨_, rfl, trivial, ?_⟩
          go_simp
          refine held_take 9 (.int .i64 (97 + rb)) rfl (by kernel_rfl) (by kernel_rfl) (by kernel_rfl) (fun _ _ _ h => h) (.inl ⟨by kernel_rfl, fun w' hw' => by go_simp⟩) trivial ?_
          go_simp
          refine held_take 10 (.int .u8 (97 + rb)) rfl (by kernel_rfl) (by kernel_rfl) (by kernel_rfl) (fun _ _ _ h => h) (.inl ⟨by kernel_rfl, fun w' hw' => by go_simp⟩) trivial ?_
          go_simp
          have a1 : (⟨#[47, 108]⟩ : ByteArray).size + (strOfNums [97 + rb]).size ≤ 10000 := by rw [letter_size, zl]; omega
          have a1c : 2 + (strOfNums [97 + rb]).size ≤ 9223372036854775807 := by rw [letter_size]; omega
          have HC2 : Hid (Cs S w wb u3 (A + 4 + 3 * (5 - j) + 2) (30 + (5 - j))) := HC.out.step hE2
          refine held_two 11 15 rfl rfl rfl rfl (by kernel_rfl) ?_ ?_
          · have VB : View (wb.alloc (.cells #[.int .u8 (97 + rb)] 5)) wb.heap.size (wb.heap.size + 1) .u8 (.slice (some ⟨wb.heap.size, 0, none⟩) 1 1) [97 + rb] := row_view (w := wb.alloc (.cells #[.int .u8 (97 + rb)] 5)) (b := wb.heap.size) (xs := [97 + rb]) (t := 5) (heap_new wb _) 0 1 1 (by simp) (by simp) (Nat.le_refl _)
            have hbt := hE2.top
            have hbs := hE2.size
            go_simp
            refine held_two 12 15 rfl rfl rfl rfl (by kernel_rfl) ?_ ?_
            · go_simp
              refine held_take 13 (.string (⟨#[47, 108]⟩ ++ strOfNums [97 + rb])) rfl (by kernel_rfl) (by kernel_rfl) (by kernel_rfl) (fun _ _ _ h => h) (.inl ⟨by kernel_rfl, fun w' hw' => by go_simp⟩) trivial ?_
              go_simp
              refine held_one 15 rfl rfl (by kernel_rfl) ?_
              refine wp_enter 13 #[.pointer (some ⟨S.p, 0, none⟩), .int .i64 9] (by first | kernel_rfl | go_simp) (next_e (hE2.alloc _) (by omega) 9 (by omega)) ?_
              rintro e wc ⟨rc, rfl, rc0, rc1, hE3⟩
              refine ⟨_, rfl, trivial, ?_⟩
              go_simp
              refine held_take 16 (.agg #[.int .i64 (1 + ra), .string (⟨#[47, 108]⟩ ++ strOfNums [97 + rb]), .string ⟨#[47, 108, 97, 47, 122]⟩, .int .i64 0, .int .i64 0, .int .i64 rc, .string ⟨#[]⟩]) rfl (by kernel_rfl) (by kernel_rfl) (by kernel_rfl) (fun _ _ _ h => h) (.inl ⟨by kernel_rfl, fun w' hw' => by go_simp⟩) trivial ?_
              go_simp
              refine held_one 17 rfl rfl (by kernel_rfl) ?_
              go_simp
              refine held_one 18 rfl rfl (by kernel_rfl) ?_
              refine wp_cs1 (.tmp 96) (.tmp 113) rfl rfl (HC.out.step hE3) rfl (by simp) (by omega) ⟨by rw [ByteArray.size_append, letter_size, zl]; omega, by decide, by decide⟩ ?_
              intro v7 w7 hC7
              have HC7 : Hid (Cs S w w7 v7 (A + 4 + 3 * (5 - (j - 1))) (30 + (5 - (j - 1)))) := hC7.mono (by omega) (by omega)
              clear hC7
              refine ⟨trivial, ?_⟩
              refine held_one 19 rfl rfl (by kernel_rfl) ?_
              go_simp
              refine held_done (by kernel_rfl) (NoPanic.normal ?_)
              go_wp2
              go_roundw
              case rel => exact ⟨j - 1, by omega, by go_num, HC7.out⟩
              case measure => simp [RowKit.intOf]; omega
            · have hEa : En S (wb.alloc (.cells #[.int .u8 (97 + rb)] 5)) (wb.alloc (.cells #[.int .u8 (97 + rb)] 5)) _ := (hE2.alloc _).self
              refine wp_enter 13 #[.pointer (some ⟨S.p, 0, none⟩), .int .i64 9] (by first | kernel_rfl | go_simp) (next_e hEa (by omega) 9 (by omega)) ?_
              rintro e wc ⟨rc, rfl, rc0, rc1, hE3a⟩
              have hE3 := (hE2.alloc _).join hE3a
              have X := (VB.chg hE3a.chg (by omega)).str
              refine ⟨_, rfl, trivial, ?_⟩
              go_simp
              refine held_one 12 rfl rfl (by kernel_rfl) ?_
              go_simp
              refine held_take 13 (.string (⟨#[47, 108]⟩ ++ strOfNums [97 + rb])) rfl (by kernel_rfl) (by kernel_rfl) (by kernel_rfl) (fun _ _ _ h => h) (.inl ⟨by kernel_rfl, fun w' hw' => by go_simp⟩) trivial ?_
              go_simp
              refine held_take 16 (.agg #[.int .i64 (1 + ra), .string (⟨#[47, 108]⟩ ++ strOfNums [97 + rb]), .string ⟨#[47, 108, 97, 47, 122]⟩, .int .i64 0, .int .i64 0, .int .i64 rc, .string ⟨#[]⟩]) rfl (by kernel_rfl) (by kernel_rfl) (by kernel_rfl) (fun _ _ _ h => h) (.inl ⟨by kernel_rfl, fun w' hw' => by go_simp⟩) trivial ?_
              go_simp
              refine held_one 17 rfl rfl (by kernel_rfl) ?_
              go_simp
              refine held_one 18 rfl rfl (by kernel_rfl) ?_
              refine wp_cs1 (.tmp 96) (.tmp 113) rfl rfl (HC.out.step hE3) rfl (by simp) (by omega) ⟨by rw [ByteArray.size_append, letter_size, zl]; omega, by decide, by decide⟩ ?_
              intro v7 w7 hC7
              have HC7 : Hid (Cs S w w7 v7 (A + 4 + 3 * (5 - (j - 1))) (30 + (5 - (j - 1)))) := hC7.mono (by omega) (by omega)
              clear hC7
              refine ⟨trivial, ?_⟩
              refine held_one 19 rfl rfl (by kernel_rfl) ?_
              go_simp
              refine held_done (by kernel_rfl) (NoPanic.normal ?_)
              go_wp2
              go_roundw
              case rel => exact ⟨j - 1, by omega, by go_num, HC7.out⟩
              case measure => simp [RowKit.intOf]; omega
          · skip
            refine wp_enter 13 #[.pointer (some ⟨S.p, 0, none⟩), .int .i64 9] (by first | kernel_rfl | go_simp) (next_e hE2 (by omega) 9 (by omega)) ?_
            rintro e wc ⟨rc, rfl, rc0, rc1, hE3⟩
            refine ⟨_, rfl, trivial, ?_⟩
            go_simp
            refine held_one 11 rfl rfl (by kernel_rfl) ?_
            go_simp
            refine held_one 12 rfl rfl (by kernel_rfl) ?_
            go_simp
            refine held_take 13 (.string (⟨#[47, 108]⟩ ++ strOfNums [97 + rb])) rfl (by kernel_rfl) (by kernel_rfl) (by kernel_rfl) (fun _ _ _ h => h) (.inl ⟨by kernel_rfl, fun w' hw' => by go_simp⟩) trivial ?_
            go_simp
            refine held_take 16 (.agg #[.int .i64 (1 + ra), .string (⟨#[47, 108]⟩ ++ strOfNums [97 + rb]), .string ⟨#[47, 108, 97, 47, 122]⟩, .int .i64 0, .int .i64 0, .int .i64 rc, .string ⟨#[]⟩]) rfl (by kernel_rfl) (by kernel_rfl) (by kernel_rfl) (fun _ _ _ h => h) (.inl ⟨by kernel_rfl, fun w' hw' => by go_simp⟩) trivial ?_
            go_simp
            refine held_one 17 rfl rfl (by kernel_rfl) ?_
            go_simp
            refine held_one 18 rfl rfl (by kernel_rfl) ?_
            refine wp_cs1 (.tmp 96) (.tmp 113) rfl rfl ((HC.out.step hE3).alloc _) rfl (by simp) (by omega) ⟨by rw [ByteArray.size_append, letter_size, zl]; omega, by decide, by decide⟩ ?_
            intro v7 w7 hC7
            have HC7 : Hid (Cs S w w7 v7 (A + 4 + 3 * (5 - (j - 1))) (30 + (5 - (j - 1)))) := hC7.mono (by omega) (by omega)
            clear hC7
            refine ⟨trivial, ?_⟩
            refine held_one 19 rfl rfl (by kernel_rfl) ?_
            go_simp
            refine held_done (by kernel_rfl) (NoPanic.normal ?_)
            go_wp2
            go_roundw
            case rel => exact ⟨j - 1, by omega, by go_num, HC7.out⟩
            case measure => simp [RowKit.intOf]; omega
        · have hi : ¬ ((0 : Int) < (j : Int)) := by omega
          go_wp2
          go_ret
          exact ⟨_, rfl, HC.out.mono (by omega) (by omega)⟩

end Go.Proofs.YtacfkgfemmgpkaaGreatDoor
