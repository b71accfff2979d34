/- The model's DrawSplitPath: a text of bounded size. -/
import Derived.Test.YtlepbhekcpdddaaPathDraw
namespace Go.Proofs.Ytlepbhekcpdddaa
open Go.RowKit

/-- How long a text is. -/
def txLen : Value → Nat
  | .string t => t.size
  | _ => 0

theorem ext_sz (s : ByteArray) (a b : Nat) : (s.extract a b).size ≤ s.size := by rw [ByteArray.size_extract]; omega

set_option maxRecDepth 20000 in
set_option maxHeartbeats 8000000 in
theorem l10DrawPath_calls (w : World) (p at' sz : Nat) {lo hi : Nat} {cv : Value} {code : List Int} (hB : Byt code) (hcl : code.length ≤ 1048576) (hat : at' ≤ 1000)
    (hs : SrcAt w p cv at' sz) (hc : View w lo hi .u8 cv code) (hp : p < lo ∨ hi ≤ p) :
    Calls Try.prog 11 #[.pointer (some ⟨p, 0, none⟩)] w fun e w' => ∃ (t : ByteArray) (m : Nat), e = .returned (.string t) ∧ t.size ≤ 1000 ∧ SrcAt w' p cv m sz ∧ Chg p (p + 1) w w' := by
  have HN : Hid (∀ (W : World) (m : Nat) (n : Int), n ≤ 1000 → m ≤ 1000000 → SrcAt W p cv m sz → Chg p (p + 1) w W → Calls Try.prog 20 #[.pointer (some ⟨p, 0, none⟩), .int .i64 n] W fun e w' => ∃ x : Int, e = .returned (.int .i64 x) ∧ 0 ≤ x ∧ (1 ≤ n → x < n) ∧ SrcAt w' p cv (m + 1) sz ∧ Chg p (p + 1) w w') := by
    intro W m n hn hm hs hW
    refine (l1Next_calls W p m sz n (by omega) hB hcl (by omega) hs (hc.chg hW (by omega)) hp).mono ?_
    rintro e w' ⟨rfl, hs', hc'⟩
    exact ⟨_, rfl, (nxt_range code m n).1, (nxt_range code m n).2, hs', hW.trans hc'⟩
  have HM : Hid (∀ (W : World) (m : Nat), m ≤ 1000000 → SrcAt W p cv m sz → Chg p (p + 1) w W → Calls Try.prog 21 #[.pointer (some ⟨p, 0, none⟩)] W fun e w' => ∃ (t : ByteArray) (m' : Nat), e = .returned (.string t) ∧ t.size ≤ 13 ∧ m' ≤ m + 2 ∧ SrcAt w' p cv m' sz ∧ Chg p (p + 1) w w') := by
    intro W m hm hs hW
    refine (l10DrawName_calls W p m sz hB hcl (by omega) hs (hc.chg hW (by omega)) hp).mono ?_
    rintro e w' ⟨t, m', rfl, h1, h2, hs', hc'⟩
    exact ⟨t, m', rfl, h1, h2, hs', hW.trans hc'⟩
  have HO : Hid (∀ (W : World) (m : Nat), m ≤ 1000000 → SrcAt W p cv m sz → Chg p (p + 1) w W → Calls Try.prog 10 #[.pointer (some ⟨p, 0, none⟩)] W fun e w' => ∃ (t : ByteArray) (m' : Nat), e = .returned (.string t) ∧ t.size ≤ 16 ∧ m' ≤ m + 1 ∧ SrcAt w' p cv m' sz ∧ Chg p (p + 1) w w') := by
    intro W m hm hs hW
    refine (l10DrawOdd_calls W p m sz hB hcl (by omega) hs (hc.chg hW (by omega)) hp).mono ?_
    rintro e w' ⟨t, m', rfl, h1, h2, hs', hc'⟩
    exact ⟨t, m', rfl, h1, h2, hs', hW.trans hc'⟩
  have z47 : (⟨#[47]⟩ : ByteArray).size = 1 := rfl
  have hN := HN.out w at' 3 (by omega) (by omega) hs (Chg.refl _ _ w)
  clear hB hcl hs hc hp
  go_enter Try.func11, Try.ntmps11
  go_wp2_with fail
  refine hN.mono ?_
  rintro e w1 ⟨x, rfl, hx0, hx1, s1, c1⟩
  have hx1 := hx1 (by omega)
  have hN := HN.out w1 (at' + 1) 50 (by omega) (by omega) s1 c1
  clear s1 c1
  go_wp2_with fail
  refine hN.mono ?_
  rintro e w2 ⟨k, rfl, hk0, hk1, s2, c2⟩
  have hk1 := hk1 (by omega)
  clear hN
  by_cases e0 : k = 0
  · subst e0
    have hN := HN.out w2 (at' + 1 + 1) 2 (by omega) (by omega) s2 c2
    clear s2 c2
    go_wp2_with fail
    refine hN.mono ?_
    rintro e w3 ⟨y, rfl, hy0, hy1, s3, c3⟩
    have hy1 := hy1 (by omega)
    have S0 : Hid (SrcAt w3 p cv (at' + 1 + 1 + 1) sz) := s3
    have C0 : Hid (Chg p (p + 1) w w3) := c3
    clear hN s3 c3
    obtain ⟨N, hN', hN1, hN2⟩ : ∃ N : Nat, (16 + y) = N ∧ 1 ≤ N ∧ N ≤ 17 := ⟨((16 + y)).toNat, by omega, by omega, by omega⟩
    go_wp2_with fail
    go_loopw [3, 6] (fun s3 s6 wr => ∃ (i m : Nat) (t : ByteArray), i ≤ N ∧ s6 = .int .i64 i ∧ s3 = .string t ∧ t.size ≤ 14 * i ∧ i ≤ t.size ∧ m ≤ at' + 3 + 2 * i ∧ SrcAt wr p cv m sz ∧ Chg p (p + 1) w wr) (fun _ s6 _ => N - (intOf s6).toNat)
    case atStart => exact ⟨0, at' + 1 + 1 + 1, _, Nat.zero_le _, rfl, rfl, Nat.le_refl _, Nat.le_refl _, by omega, S0.out, C0.out⟩
    case round =>
      obtain ⟨i, m, t, hi, rfl, rfl, ht1, ht2, hm, sr, cr⟩ := hrel
      by_cases hlt : i < N
      · have hi' : (i : Int) < (16 + y) := by omega
        have hN := HM.out wr m (by omega) sr cr
        have ha : t.size + (⟨#[47]⟩ : ByteArray).size ≤ 10000 := by rw [z47]; omega
        clear sr cr S0 C0
        go_wp2_with fail
        refine hN.mono ?_
        rintro e w5 ⟨u, m5, rfl, hu, hm5, s5, c5⟩
        have S5 : Hid (SrcAt w5 p cv m5 sz) := s5
        have C5 : Hid (Chg p (p + 1) w w5) := c5
        have hz : (t ++ (⟨#[47]⟩ : ByteArray)).size = t.size + 1 := by rw [ByteArray.size_append, z47]
        have Hz2 : Hid ((t ++ (⟨#[47]⟩ : ByteArray) ++ u).size = t.size + 1 + u.size) := by show _ = _; rw [ByteArray.size_append, hz]
        have hb : (t ++ (⟨#[47]⟩ : ByteArray)).size + u.size ≤ 10000 := by omega
        have hb2 : t.size + (⟨#[47]⟩ : ByteArray).size + u.size ≤ 10000 := by rw [z47]; omega
        clear hN s5 c5
        go_wp2
        go_roundw
        case rel => exact ⟨i + 1, m5, _, by omega, by go_num, rfl, by rw [Hz2.out]; omega, by rw [Hz2.out]; omega, by omega, S5.out, C5.out⟩
        case measure => simp [intOf]; omega
      · obtain rfl : i = N := by omega
        have hi' : ¬ (i : Int) < (16 + y) := by omega
        have SR : Hid (SrcAt wr p cv m sz) := sr
        have CR : Hid (Chg p (p + 1) w wr) := cr
        clear sr cr S0 C0
        go_wp2
        go_ret
        exact ⟨_, rfl, by omega, ⟨m, SR.out⟩, CR.out⟩
  have f0 : (k == 0) = false := by simpa using e0
  have S0 : Hid (SrcAt w2 p cv (at' + 1 + 1) sz) := s2
  have C0 : Hid (Chg p (p + 1) w w2) := c2
  clear s2 c2
  obtain ⟨N, hN', hN1, hN2⟩ : ∃ N : Nat, (1 + x) = N ∧ 1 ≤ N ∧ N ≤ 17 := ⟨((1 + x)).toNat, by omega, by omega, by omega⟩
  go_wp2_with fail
  go_loopw [3, 6] (fun s3 s6 wr => ∃ (i m : Nat) (t : ByteArray), i ≤ N ∧ s6 = .int .i64 i ∧ s3 = .string t ∧ t.size ≤ 14 * i ∧ i ≤ t.size ∧ m ≤ at' + 3 + 2 * i ∧ SrcAt wr p cv m sz ∧ Chg p (p + 1) w wr) (fun _ s6 _ => N - (intOf s6).toNat)
  case atStart => exact ⟨0, at' + 1 + 1, _, Nat.zero_le _, rfl, rfl, Nat.le_refl _, Nat.le_refl _, by omega, S0.out, C0.out⟩
  case round =>
    obtain ⟨i, m, t, hi, rfl, rfl, ht1, ht2, hm, sr, cr⟩ := hrel
    by_cases hlt : i < N
    · have hi' : (i : Int) < (1 + x) := by omega
      have hN := HM.out wr m (by omega) sr cr
      have ha : t.size + (⟨#[47]⟩ : ByteArray).size ≤ 10000 := by rw [z47]; omega
      clear sr cr S0 C0
      go_wp2_with fail
      refine hN.mono ?_
      rintro e w5 ⟨u, m5, rfl, hu, hm5, s5, c5⟩
      have S5 : Hid (SrcAt w5 p cv m5 sz) := s5
      have C5 : Hid (Chg p (p + 1) w w5) := c5
      have hz : (t ++ (⟨#[47]⟩ : ByteArray)).size = t.size + 1 := by rw [ByteArray.size_append, z47]
      have Hz2 : Hid ((t ++ (⟨#[47]⟩ : ByteArray) ++ u).size = t.size + 1 + u.size) := by show _ = _; rw [ByteArray.size_append, hz]
      have hb : (t ++ (⟨#[47]⟩ : ByteArray)).size + u.size ≤ 10000 := by omega
      have hb2 : t.size + (⟨#[47]⟩ : ByteArray).size + u.size ≤ 10000 := by rw [z47]; omega
      clear hN s5 c5
      go_wp2
      go_roundw
      case rel => exact ⟨i + 1, m5, _, by omega, by go_num, rfl, by rw [Hz2.out]; omega, by rw [Hz2.out]; omega, by omega, S5.out, C5.out⟩
      case measure => simp [intOf]; omega
    · obtain rfl : i = N := by omega
      have hi' : ¬ (i : Int) < (1 + x) := by omega
      have SR : Hid (SrcAt wr p cv m sz) := sr
      have CR : Hid (Chg p (p + 1) w wr) := cr
      clear sr cr S0 C0
      by_cases k1 : k = 1
      · subst k1
        go_wp2
        go_ret
        exact ⟨_, rfl, by decide, ⟨m, SR.out⟩, CR.out⟩
      have f1 : (k == 1) = false := by simpa using k1
      by_cases k2 : k = 2
      · subst k2
        have ha : t.size + (⟨#[47]⟩ : ByteArray).size ≤ 10000 := by rw [z47]; omega
        have Hz : Hid ((t ++ (⟨#[47]⟩ : ByteArray)).size = t.size + 1) := by show _ = _; rw [ByteArray.size_append, z47]
        go_wp2
        go_ret
        exact ⟨_, rfl, by rw [Hz.out]; omega, ⟨m, SR.out⟩, CR.out⟩
      have f2 : (k == 2) = false := by simpa using k2
      by_cases k3 : k = 3
      · subst k3
        have hl1 : 1 ≤ t.size := by omega
        go_wp2
        go_ret
        exact ⟨_, rfl, Nat.le_trans (ext_sz _ _ _) (by omega), ⟨m, SR.out⟩, CR.out⟩
      have f3 : (k == 3) = false := by simpa using k3
      by_cases k4 : k = 4
      · subst k4
        have hN := HO.out wr m (by omega) SR.out CR.out
        have ha : t.size + (⟨#[47]⟩ : ByteArray).size ≤ 10000 := by rw [z47]; omega
        clear SR CR
        go_wp2_with fail
        refine hN.mono ?_
        rintro e w5 ⟨u, m5, rfl, hu, hm5, s5, c5⟩
        have S5 : Hid (SrcAt w5 p cv m5 sz) := s5
        have C5 : Hid (Chg p (p + 1) w w5) := c5
        have hz : (t ++ (⟨#[47]⟩ : ByteArray)).size = t.size + 1 := by rw [ByteArray.size_append, z47]
        have Hz2 : Hid ((t ++ (⟨#[47]⟩ : ByteArray) ++ u).size = t.size + 1 + u.size) := by show _ = _; rw [ByteArray.size_append, hz]
        have hb : (t ++ (⟨#[47]⟩ : ByteArray)).size + u.size ≤ 10000 := by omega
        have hb2 : t.size + (⟨#[47]⟩ : ByteArray).size + u.size ≤ 10000 := by rw [z47]; omega
        clear hN s5 c5
        go_wp2
        go_ret
        exact ⟨_, m5, rfl, by rw [Hz2.out]; omega, S5.out, C5.out⟩
      have f4 : (k == 4) = false := by simpa using k4
      by_cases k5 : k = 5
      · subst k5
        have hN := HO.out wr m (by omega) SR.out CR.out
        clear SR CR
        go_wp2_with fail
        refine hN.mono ?_
        rintro e w5 ⟨u, m5, rfl, hu, hm5, s5, c5⟩
        have S5 : Hid (SrcAt w5 p cv m5 sz) := s5
        have C5 : Hid (Chg p (p + 1) w w5) := c5
        have ha : (⟨#[47]⟩ : ByteArray).size + u.size ≤ 10000 := by rw [z47]; omega
        have hz : ((⟨#[47]⟩ : ByteArray) ++ u).size = 1 + u.size := by rw [ByteArray.size_append, z47]
        have Hz2 : Hid (((⟨#[47]⟩ : ByteArray) ++ u ++ t).size = 1 + u.size + t.size) := by show _ = _; rw [ByteArray.size_append, hz]
        have hb : ((⟨#[47]⟩ : ByteArray) ++ u).size + t.size ≤ 10000 := by omega
        have hb2 : (⟨#[47]⟩ : ByteArray).size + u.size + t.size ≤ 10000 := by rw [z47]; omega
        clear hN s5 c5
        go_wp2
        go_ret
        exact ⟨_, m5, rfl, by rw [Hz2.out]; omega, S5.out, C5.out⟩
      have f5 : (k == 5) = false := by simpa using k5
      by_cases k6 : k = 6
      · subst k6
        go_wp2_with fail
        go_loopw [3] (fun s3 wq => ∃ (mq : Nat) (t : ByteArray), s3 = .string t ∧ t.size ≤ 300 ∧ mq ≤ 5000 + t.size ∧ SrcAt wq p cv mq sz ∧ Chg p (p + 1) w wq) (fun s3 _ => 300 - txLen s3)
        case atStart => exact ⟨m, _, rfl, by omega, by omega, SR.out, CR.out⟩
        case round =>
          obtain ⟨mq, t, rfl, ht, hmq, sq, cq⟩ := hrel
          have hN := HN.out wr mq 2 (by omega) (by omega) sq cq
          clear sq cq SR CR
          go_wp2_with fail
          refine hN.mono ?_
          rintro e w6 ⟨y, rfl, hy0, hy1, s6, c6⟩
          have hy1 := hy1 (by omega)
          have S6 : Hid (SrcAt w6 p cv (mq + 1) sz) := s6
          have C6 : Hid (Chg p (p + 1) w w6) := c6
          clear hN s6 c6
          by_cases hq : (t.size : Int) < 240 + y
          · have zl : (⟨#[120]⟩ : ByteArray).size = 1 := rfl
            have ha : t.size + (⟨#[120]⟩ : ByteArray).size ≤ 10000 := by rw [zl]; omega
            have Hz : Hid ((t ++ (⟨#[120]⟩ : ByteArray)).size = t.size + 1) := by show _ = _; rw [ByteArray.size_append, zl]
            clear zl
            go_wp2
            go_roundw
            case rel => exact ⟨mq + 1, _, rfl, by rw [Hz.out]; omega, by rw [Hz.out]; omega, S6.out, C6.out⟩
            case measure => simp only [txLen]; rw [Hz.out]; omega
          · go_wp2
            go_ret
            exact ⟨_, mq + 1, rfl, by omega, S6.out, C6.out⟩
      have f6 : (k == 6) = false := by simpa using k6
      by_cases k7 : k = 7
      · subst k7
        go_wp2_with fail
        go_loopw [3] (fun s3 wq => ∃ t : ByteArray, s3 = .string t ∧ t.size ≤ 240 ∧ wq = wr) (fun s3 _ => 300 - txLen s3)
        case atStart => exact ⟨_, rfl, by decide, rfl⟩
        case round =>
          obtain ⟨t, rfl, ht, rfl⟩ := hrel
          by_cases hq : t.size < 226
          · have hq' : (t.size : Int) < 226 := by omega
            have zl : (⟨#[47, 97, 98, 99, 100, 101, 102, 103, 104, 105, 106, 107, 108, 109]⟩ : ByteArray).size = 14 := rfl
            have ha : t.size + (⟨#[47, 97, 98, 99, 100, 101, 102, 103, 104, 105, 106, 107, 108, 109]⟩ : ByteArray).size ≤ 10000 := by rw [zl]; omega
            have Hz : Hid ((t ++ (⟨#[47, 97, 98, 99, 100, 101, 102, 103, 104, 105, 106, 107, 108, 109]⟩ : ByteArray)).size = t.size + 14) := by show _ = _; rw [ByteArray.size_append, zl]
            clear zl
            go_wp2
            go_roundw
            case rel => exact ⟨_, rfl, by rw [Hz.out]; omega, trivial⟩
            case measure => simp only [txLen]; rw [Hz.out]; omega
          · have hq' : ¬ (t.size : Int) < 226 := by omega
            go_wp2_with fail
            go_loopw [3] (fun s3 wq => ∃ (mq : Nat) (t : ByteArray), s3 = .string t ∧ t.size ≤ 300 ∧ mq ≤ 5000 + t.size ∧ SrcAt wq p cv mq sz ∧ Chg p (p + 1) w wq) (fun s3 _ => 300 - txLen s3)
            case atStart => exact ⟨m, _, rfl, by omega, by omega, SR.out, CR.out⟩
            case round =>
              obtain ⟨mq, t, rfl, ht, hmq, sq, cq⟩ := hrel
              have hN := HN.out wr mq 2 (by omega) (by omega) sq cq
              clear sq cq SR CR
              go_wp2_with fail
              refine hN.mono ?_
              rintro e w6 ⟨y, rfl, hy0, hy1, s6, c6⟩
              have hy1 := hy1 (by omega)
              have S6 : Hid (SrcAt w6 p cv (mq + 1) sz) := s6
              have C6 : Hid (Chg p (p + 1) w w6) := c6
              clear hN s6 c6
              by_cases hq : (t.size : Int) < 240 + y
              · have zl : (⟨#[47]⟩ : ByteArray).size = 1 := rfl
                have ha : t.size + (⟨#[47]⟩ : ByteArray).size ≤ 10000 := by rw [zl]; omega
                have Hz : Hid ((t ++ (⟨#[47]⟩ : ByteArray)).size = t.size + 1) := by show _ = _; rw [ByteArray.size_append, zl]
                clear zl
                go_wp2
                go_roundw
                case rel => exact ⟨mq + 1, _, rfl, by rw [Hz.out]; omega, by rw [Hz.out]; omega, S6.out, C6.out⟩
                case measure => simp only [txLen]; rw [Hz.out]; omega
              · go_wp2
                go_ret
                exact ⟨_, mq + 1, rfl, by omega, S6.out, C6.out⟩
      have f7 : (k == 7) = false := by simpa using k7
      go_wp2
      go_ret
      exact ⟨_, rfl, by omega, ⟨m, SR.out⟩, CR.out⟩

end Go.Proofs.Ytlepbhekcpdddaa
