/- Several short texts in one: PathDraw, PathDrawE. -/
import Derived.Test.YtacfkgfemmgpkaaGreatDoorNameSpec
import Derived.Deep.DeepCutAuto
namespace Go.Proofs.YtacfkgfemmgpkaaGreatDoor
open Go.RowKit

theorem byte_own (W : World) (base : Nat) (a : Int) (hb : base ≤ W.heap.size) : OwnB (W.alloc (.cells #[.int .u8 a] 5)) base 5 (.slice (some ⟨W.heap.size, 0, none⟩) 1 1) [a] := by
  have := World.ownsRow_lit (base := base) (e := 5) (size := 1) W #[.int .u8 a] 1 hb (by unfold maxLen; omega) rfl
  unfold OwnB
  simpa using this

set_option maxRecDepth 20000 in
set_option maxHeartbeats 2000000 in
theorem l10DrawName_calls (w : World) (p at' sz : Nat) {lo hi : Nat} {cv : Value} {code : List Int} (hB : Byt code) (hcl : code.length ≤ 1048576) (hat : at' ≤ 1000000000)
    (hs : SrcAt w p cv at' sz) (hc : View w lo hi .u8 cv code) (hp : p < lo ∨ hi ≤ p) :
    Calls Tryz.prog 52 #[.pointer (some ⟨p, 0, none⟩)] w fun e w' => ∃ (t : ByteArray) (m : Nat), e = .returned (.string t) ∧ t.size ≤ 13 ∧ m ≤ at' + 2 ∧ SrcAt w' p cv m sz ∧ Chg p (p + 1) w w' := by
  have hN := l1Next_calls w p at' sz 40 (by omega) hB hcl (by omega) hs hc hp
  have hpl : p < w.heap.size := (Array.getElem?_eq_some_iff.1 hs).1
  go_enter Tryz.func52, Tryz.ntmps52
  go_wp2_with fail
  refine hN.mono ?_
  rintro e w1 ⟨rfl, s1, c1⟩
  have HC1 : Hid (Chg p (p + 1) w w1) := c1
  have HS1 : Hid (SrcAt w1 p cv (at' + 1) sz) := s1
  have hr := nxt_range code at' 40
  generalize nxt code at' 40 = k at *
  clear hN
  by_cases e0 : k = 0
  · subst e0
    go_wp2
    go_ret
    exact ⟨_, at' + 1, rfl, by decide, by omega, HS1.out, HC1.out⟩
  by_cases e1 : k = 1
  · subst e1
    go_wp2
    go_ret
    exact ⟨_, at' + 1, rfl, by decide, by omega, HS1.out, HC1.out⟩
  have b0 : (k == 0) = false := by simpa using e0
  have b1 : (k == 1) = false := by simpa using e1
  have hN := l1Next_calls w1 p (at' + 1) sz 5 (by omega) hB hcl (by omega) s1 (hc.chg c1 (by omega)) hp
  clear s1 c1 hr
  go_wp2_with fail
  refine hN.mono ?_
  rintro e w2 ⟨rfl, s2, c2⟩
  have hr := nxt_range code (at' + 1) 5
  generalize nxt code (at' + 1) 5 = x at *
  have hx := hr.2 (by omega)
  have hx0 := hr.1
  have C3 : Chg 0 0 w2 (w2.alloc (.cells #[.int .u8 (97 + x)] 5)) := Chg.alloc (Chg.refl 0 0 w2) _
  have HC3 : Hid (Chg p (p + 1) w (w2.alloc (.cells #[.int .u8 (97 + x)] 5))) := Chg.alloc (HC1.out.trans c2) _
  have HS3 : Hid (SrcAt (w2.alloc (.cells #[.int .u8 (97 + x)] 5)) p cv (at' + 1 + 1) sz) := s2.chg C3 (by omega)
  have X := ((byte_own w2 0 (97 + x) (by omega)).view (hi := w2.heap.size + 1) (by show 1 ≤ _; omega) (by intro g hg; simp [Value.ownBlock] at hg; omega)).str
  have q1 : IntKind.i64.wrap (97 + x) = 97 + x := by rw [IntKind.wrap_i64]; omega
  have q2 : IntKind.u8.wrap (97 + x) = 97 + x := by rw [IntKind.wrap_u8]; omega
  clear hN s2 c2 C3 hr
  go_wp2
  go_ret
  exact ⟨_, at' + 2, rfl, by rw [strOfNums_size]; show 1 ≤ 13; omega, by omega, HS3.out, HC3.out⟩

theorem new_heap (w : World) (A : Array Value) (t : TypeId) : (w.alloc (.cells A t)).heap[w.heap.size]? = some (.cells A t (0, 0)) := heap_new w _

def oddA : Array Value := #[.string ⟨#[]⟩, .string ⟨#[46]⟩, .string ⟨#[46, 46]⟩, .string ⟨#[46, 46, 46]⟩, .string ⟨#[97, 98, 99, 100, 101, 102, 103, 104, 105, 106, 107, 108, 109, 110]⟩, .string ⟨#[97, 32, 98]⟩, .string ⟨#[97, 127]⟩, .string ⟨#[97, 47, 98]⟩, .string ⟨#[0]⟩, .string ⟨#[97, 98, 99, 100, 101, 102, 103, 104, 105, 106, 107, 108, 109, 110, 111, 255]⟩, .string ⟨#[45]⟩, .string ⟨#[37]⟩]
theorem oddA_at : ∀ i, i < 12 → ∃ t : ByteArray, oddA[i]? = some (.string t) ∧ t.size ≤ 16 := by
  intro i hi
  match i, hi with
  | 0, _ => exact ⟨_, rfl, by decide⟩
  | 1, _ => exact ⟨_, rfl, by decide⟩
  | 2, _ => exact ⟨_, rfl, by decide⟩
  | 3, _ => exact ⟨_, rfl, by decide⟩
  | 4, _ => exact ⟨_, rfl, by decide⟩
  | 5, _ => exact ⟨_, rfl, by decide⟩
  | 6, _ => exact ⟨_, rfl, by decide⟩
  | 7, _ => exact ⟨_, rfl, by decide⟩
  | 8, _ => exact ⟨_, rfl, by decide⟩
  | 9, _ => exact ⟨_, rfl, by decide⟩
  | 10, _ => exact ⟨_, rfl, by decide⟩
  | 11, _ => exact ⟨_, rfl, by decide⟩
  | n + 12, h => omega

set_option maxRecDepth 20000 in
set_option maxHeartbeats 2000000 in
theorem l10DrawOdd_calls (w : World) (p at' sz : Nat) {lo hi : Nat} {cv : Value} {code : List Int} (hB : Byt code) (hcl : code.length ≤ 1048576) (hat : at' ≤ 1000000000)
    (hs : SrcAt w p cv at' sz) (hc : View w lo hi .u8 cv code) (hp : p < lo ∨ hi ≤ p) :
    Calls Tryz.prog 53 #[.pointer (some ⟨p, 0, none⟩)] w fun e w' => ∃ (t : ByteArray) (m : Nat), e = .returned (.string t) ∧ t.size ≤ 16 ∧ m ≤ at' + 1 ∧ SrcAt w' p cv m sz ∧ Chg p (p + 1) w w' := by
  have hpl : p < w.heap.size := (Array.getElem?_eq_some_iff.1 hs).1
  go_enter Tryz.func53, Tryz.ntmps53
  go_wp2_with fail
  have CA : Chg 0 0 w (w.alloc (.cells oddA 9)) := Chg.alloc (Chg.refl 0 0 w) _
  have HA : Hid (∀ i : Nat, (w.alloc (.cells oddA 9)).cell? ⟨w.heap.size, i, none⟩ = oddA[i]?) := fun i => by have := new_heap w oddA 9; simp only [World.cell?, this]; simp
  have HC0 : Hid (Chg p (p + 1) w (w.alloc (.cells oddA 9))) := Chg.alloc (Chg.refl _ _ w) _
  have hN := l1Next_calls (w.alloc (.cells oddA 9)) p at' sz 12 (by omega) hB hcl (by omega) (hs.chg CA (by omega)) (hc.chg CA (by omega)) hp
  refine hN.mono ?_
  rintro e w1 ⟨rfl, s1, c1⟩
  have HC1 : Hid (Chg p (p + 1) w w1) := HC0.out.trans c1
  have HS1 : Hid (SrcAt w1 p cv (at' + 1) sz) := s1
  have hr := nxt_range code at' 12
  generalize nxt code at' 12 = x at *
  obtain ⟨i, rfl⟩ : ∃ i : Nat, x = i := ⟨x.toNat, by omega⟩
  have hi' := hr.2 (by omega)
  obtain ⟨t, ht, hts⟩ := oddA_at i (by omega)
  have hcell := c1.cell ((HA.out i).trans ht) (by show w.heap.size < p ∨ p + 1 ≤ w.heap.size; omega)
  clear hN s1 c1 hr ht HA HC0 CA
  go_wp2
  go_ret
  exact ⟨_, at' + 1, rfl, hts, by omega, HS1.out, HC1.out⟩

end Go.Proofs.YtacfkgfemmgpkaaGreatDoor

namespace Go.Proofs.YtacfkgfemmgpkaaGreatDoor
open Go.RowKit

/-- How long a text is. -/
def txLen : Value → Nat
  | .string t => t.size
  | _ => 0

theorem ext_sz (s : ByteArray) (a b : Nat) : (s.extract a b).size ≤ s.size := by rw [ByteArray.size_extract]; omega

set_option maxRecDepth 20000 in
set_option maxHeartbeats 8000000 in
theorem l10DrawPath_callsE (w : World) (p at' sz : Nat) {lo hi : Nat} {cv : Value} {code : List Int} (hB : Byt code) (hcl : code.length ≤ 1048576) (hat : at' ≤ 500000)
    (hs : SrcAt w p cv at' sz) (hc : View w lo hi .u8 cv code) (hp : p < lo ∨ hi ≤ p) :
    Calls Tryz.prog 43 #[.pointer (some ⟨p, 0, none⟩)] w fun e w' => ∃ t : ByteArray, e = .returned (.string t) ∧ t.size ≤ 1000 ∧ (∃ m, m ≤ at' + 400 ∧ SrcAt w' p cv m sz) ∧ Chg p (p + 1) w w' := by
  have HN : Hid (∀ (W : World) (m : Nat) (n : Int), n ≤ 1000 → m ≤ 1000000 → SrcAt W p cv m sz → Chg p (p + 1) w W → Calls Tryz.prog 13 #[.pointer (some ⟨p, 0, none⟩), .int .i64 n] W fun e w' => ∃ x : Int, e = .returned (.int .i64 x) ∧ 0 ≤ x ∧ (1 ≤ n → x < n) ∧ SrcAt w' p cv (m + 1) sz ∧ Chg p (p + 1) w w') := by
    intro W m n hn hm hs hW
    refine (l1Next_calls W p m sz n (by omega) hB hcl (by omega) hs (hc.chg hW (by omega)) hp).mono ?_
    rintro e w' ⟨rfl, hs', hc'⟩
    exact ⟨_, rfl, (nxt_range code m n).1, (nxt_range code m n).2, hs', hW.trans hc'⟩
  have HM : Hid (∀ (W : World) (m : Nat), m ≤ 1000000 → SrcAt W p cv m sz → Chg p (p + 1) w W → Calls Tryz.prog 52 #[.pointer (some ⟨p, 0, none⟩)] W fun e w' => ∃ (t : ByteArray) (m' : Nat), e = .returned (.string t) ∧ t.size ≤ 13 ∧ m' ≤ m + 2 ∧ SrcAt w' p cv m' sz ∧ Chg p (p + 1) w w') := by
    intro W m hm hs hW
    refine (l10DrawName_calls W p m sz hB hcl (by omega) hs (hc.chg hW (by omega)) hp).mono ?_
    rintro e w' ⟨t, m', rfl, h1, h2, hs', hc'⟩
    exact ⟨t, m', rfl, h1, h2, hs', hW.trans hc'⟩
  have HO : Hid (∀ (W : World) (m : Nat), m ≤ 1000000 → SrcAt W p cv m sz → Chg p (p + 1) w W → Calls Tryz.prog 53 #[.pointer (some ⟨p, 0, none⟩)] W fun e w' => ∃ (t : ByteArray) (m' : Nat), e = .returned (.string t) ∧ t.size ≤ 16 ∧ m' ≤ m + 1 ∧ SrcAt w' p cv m' sz ∧ Chg p (p + 1) w w') := by
    intro W m hm hs hW
    refine (l10DrawOdd_calls W p m sz hB hcl (by omega) hs (hc.chg hW (by omega)) hp).mono ?_
    rintro e w' ⟨t, m', rfl, h1, h2, hs', hc'⟩
    exact ⟨t, m', rfl, h1, h2, hs', hW.trans hc'⟩
  have z47 : (⟨#[47]⟩ : ByteArray).size = 1 := rfl
  have hN := HN.out w at' 3 (by omega) (by omega) hs (Chg.refl _ _ w)
  clear hB hcl hs hc hp
  go_enter Tryz.func43, Tryz.ntmps43
  go_wp2_with fail
  refine hN.mono ?_
  rintro e w1 ⟨x, rfl, hx0, hx1, s1, c1⟩
  have hx1 := hx1 (by omega)
  have hN := HN.out w1 (at' + 1) 50 (by omega) (by omega) s1 c1
  clear s1 c1
  go_wp2_with fail
  refine hN.mono ?_
  rintro e w2 ⟨k, rfl, hk0, hk1, s2, c2⟩
  have hk1 := hk1 (by omega)
  clear hN
  by_cases e0 : k = 0
  · subst e0
    have hN := HN.out w2 (at' + 1 + 1) 2 (by omega) (by omega) s2 c2
    clear s2 c2
    go_wp2_with fail
    refine hN.mono ?_
    rintro e w3 ⟨y, rfl, hy0, hy1, s3, c3⟩
    have hy1 := hy1 (by omega)
    have S0 : Hid (SrcAt w3 p cv (at' + 1 + 1 + 1) sz) := s3
    have C0 : Hid (Chg p (p + 1) w w3) := c3
    clear hN s3 c3
    obtain ⟨N, hN', hN1, hN2⟩ : ∃ N : Nat, (16 + y) = N ∧ 1 ≤ N ∧ N ≤ 17 := ⟨((16 + y)).toNat, by omega, by omega, by omega⟩
    go_wp2_with fail
    go_loopw [3, 6] (fun s3 s6 wr => ∃ (i m : Nat) (t : ByteArray), i ≤ N ∧ s6 = .int .i64 i ∧ s3 = .string t ∧ t.size ≤ 14 * i ∧ i ≤ t.size ∧ m ≤ at' + 3 + 2 * i ∧ SrcAt wr p cv m sz ∧ Chg p (p + 1) w wr) (fun _ s6 _ => N - (intOf s6).toNat)
    case atStart => exact ⟨0, at' + 1 + 1 + 1, _, Nat.zero_le _, rfl, rfl, Nat.le_refl _, Nat.le_refl _, by omega, S0.out, C0.out⟩
    case round =>
      obtain ⟨i, m, t, hi, rfl, rfl, ht1, ht2, hm, sr, cr⟩ := hrel
      by_cases hlt : i < N
      · have hi' : (i : Int) < (16 + y) := by omega
        have hN := HM.out wr m (by omega) sr cr
        have ha : t.size + (⟨#[47]⟩ : ByteArray).size ≤ 10000 := by rw [z47]; omega
        clear sr cr S0 C0
        go_wp2_with fail
        refine hN.mono ?_
        rintro e w5 ⟨u, m5, rfl, hu, hm5, s5, c5⟩
        have S5 : Hid (SrcAt w5 p cv m5 sz) := s5
        have C5 : Hid (Chg p (p + 1) w w5) := c5
        have hz : (t ++ (⟨#[47]⟩ : ByteArray)).size = t.size + 1 := by rw [ByteArray.size_append, z47]
        have Hz2 : Hid ((t ++ (⟨#[47]⟩ : ByteArray) ++ u).size = t.size + 1 + u.size) := by show _ = _; rw [ByteArray.size_append, hz]
        have hb : (t ++ (⟨#[47]⟩ : ByteArray)).size + u.size ≤ 10000 := by omega
        have hb2 : t.size + (⟨#[47]⟩ : ByteArray).size + u.size ≤ 10000 := by rw [z47]; omega
        clear hN s5 c5
        go_wp2
        go_roundw
        case rel => exact ⟨i + 1, m5, _, by omega, by go_num, rfl, by rw [Hz2.out]; omega, by rw [Hz2.out]; omega, by omega, S5.out, C5.out⟩
        case measure => simp [intOf]; omega
      · obtain rfl : i = N := by omega
        have hi' : ¬ (i : Int) < (16 + y) := by omega
        have SR : Hid (SrcAt wr p cv m sz) := sr
        have CR : Hid (Chg p (p + 1) w wr) := cr
        clear sr cr S0 C0
        go_wp2
        go_ret
        exact ⟨_, rfl, by omega, ⟨m, by omega, SR.out⟩, CR.out⟩
  have f0 : (k == 0) = false := by simpa using e0
  have S0 : Hid (SrcAt w2 p cv (at' + 1 + 1) sz) := s2
  have C0 : Hid (Chg p (p + 1) w w2) := c2
  clear s2 c2
  obtain ⟨N, hN', hN1, hN2⟩ : ∃ N : Nat, (1 + x) = N ∧ 1 ≤ N ∧ N ≤ 17 := ⟨((1 + x)).toNat, by omega, by omega, by omega⟩
  go_wp2_with fail
  go_loopw [3, 6] (fun s3 s6 wr => ∃ (i m : Nat) (t : ByteArray), i ≤ N ∧ s6 = .int .i64 i ∧ s3 = .string t ∧ t.size ≤ 14 * i ∧ i ≤ t.size ∧ m ≤ at' + 3 + 2 * i ∧ SrcAt wr p cv m sz ∧ Chg p (p + 1) w wr) (fun _ s6 _ => N - (intOf s6).toNat)
  case atStart => exact ⟨0, at' + 1 + 1, _, Nat.zero_le _, rfl, rfl, Nat.le_refl _, Nat.le_refl _, by omega, S0.out, C0.out⟩
  case round =>
    obtain ⟨i, m, t, hi, rfl, rfl, ht1, ht2, hm, sr, cr⟩ := hrel
    by_cases hlt : i < N
    · have hi' : (i : Int) < (1 + x) := by omega
      have hN := HM.out wr m (by omega) sr cr
      have ha : t.size + (⟨#[47]⟩ : ByteArray).size ≤ 10000 := by rw [z47]; omega
      clear sr cr S0 C0
      go_wp2_with fail
      refine hN.mono ?_
      rintro e w5 ⟨u, m5, rfl, hu, hm5, s5, c5⟩
      have S5 : Hid (SrcAt w5 p cv m5 sz) := s5
      have C5 : Hid (Chg p (p + 1) w w5) := c5
      have hz : (t ++ (⟨#[47]⟩ : ByteArray)).size = t.size + 1 := by rw [ByteArray.size_append, z47]
      have Hz2 : Hid ((t ++ (⟨#[47]⟩ : ByteArray) ++ u).size = t.size + 1 + u.size) := by show _ = _; rw [ByteArray.size_append, hz]
      have hb : (t ++ (⟨#[47]⟩ : ByteArray)).size + u.size ≤ 10000 := by omega
      have hb2 : t.size + (⟨#[47]⟩ : ByteArray).size + u.size ≤ 10000 := by rw [z47]; omega
      clear hN s5 c5
      go_wp2
      go_roundw
      case rel => exact ⟨i + 1, m5, _, by omega, by go_num, rfl, by rw [Hz2.out]; omega, by rw [Hz2.out]; omega, by omega, S5.out, C5.out⟩
      case measure => simp [intOf]; omega
    · obtain rfl : i = N := by omega
      have hi' : ¬ (i : Int) < (1 + x) := by omega
      have SR : Hid (SrcAt wr p cv m sz) := sr
      have CR : Hid (Chg p (p + 1) w wr) := cr
      clear sr cr S0 C0
      by_cases k1 : k = 1
      · subst k1
        go_wp2
        go_ret
        exact ⟨_, rfl, by decide, ⟨m, by omega, SR.out⟩, CR.out⟩
      have f1 : (k == 1) = false := by simpa using k1
      by_cases k2 : k = 2
      · subst k2
        have ha : t.size + (⟨#[47]⟩ : ByteArray).size ≤ 10000 := by rw [z47]; omega
        have Hz : Hid ((t ++ (⟨#[47]⟩ : ByteArray)).size = t.size + 1) := by show _ = _; rw [ByteArray.size_append, z47]
        go_wp2
        go_ret
        exact ⟨_, rfl, by rw [Hz.out]; omega, ⟨m, by omega, SR.out⟩, CR.out⟩
      have f2 : (k == 2) = false := by simpa using k2
      by_cases k3 : k = 3
      · subst k3
        have hl1 : 1 ≤ t.size := by omega
        go_wp2
        go_ret
        exact ⟨_, rfl, Nat.le_trans (ext_sz _ _ _) (by omega), ⟨m, by omega, SR.out⟩, CR.out⟩
      have f3 : (k == 3) = false := by simpa using k3
      by_cases k4 : k = 4
      · subst k4
        have hN := HO.out wr m (by omega) SR.out CR.out
        have ha : t.size + (⟨#[47]⟩ : ByteArray).size ≤ 10000 := by rw [z47]; omega
        clear SR CR
        go_wp2_with fail
        refine hN.mono ?_
        rintro e w5 ⟨u, m5, rfl, hu, hm5, s5, c5⟩
        have S5 : Hid (SrcAt w5 p cv m5 sz) := s5
        have C5 : Hid (Chg p (p + 1) w w5) := c5
        have hz : (t ++ (⟨#[47]⟩ : ByteArray)).size = t.size + 1 := by rw [ByteArray.size_append, z47]
        have Hz2 : Hid ((t ++ (⟨#[47]⟩ : ByteArray) ++ u).size = t.size + 1 + u.size) := by show _ = _; rw [ByteArray.size_append, hz]
        have hb : (t ++ (⟨#[47]⟩ : ByteArray)).size + u.size ≤ 10000 := by omega
        have hb2 : t.size + (⟨#[47]⟩ : ByteArray).size + u.size ≤ 10000 := by rw [z47]; omega
        clear hN s5 c5
        go_wp2
        go_ret
        exact ⟨_, rfl, by rw [Hz2.out]; omega, ⟨m5, by omega, S5.out⟩, C5.out⟩
      have f4 : (k == 4) = false := by simpa using k4
      by_cases k5 : k = 5
      · subst k5
        have hN := HO.out wr m (by omega) SR.out CR.out
        clear SR CR
        go_wp2_with fail
        refine hN.mono ?_
        rintro e w5 ⟨u, m5, rfl, hu, hm5, s5, c5⟩
        have S5 : Hid (SrcAt w5 p cv m5 sz) := s5
        have C5 : Hid (Chg p (p + 1) w w5) := c5
        have ha : (⟨#[47]⟩ : ByteArray).size + u.size ≤ 10000 := by rw [z47]; omega
        have hz : ((⟨#[47]⟩ : ByteArray) ++ u).size = 1 + u.size := by rw [ByteArray.size_append, z47]
        have Hz2 : Hid (((⟨#[47]⟩ : ByteArray) ++ u ++ t).size = 1 + u.size + t.size) := by show _ = _; rw [ByteArray.size_append, hz]
        have hb : ((⟨#[47]⟩ : ByteArray) ++ u).size + t.size ≤ 10000 := by omega
        have hb2 : (⟨#[47]⟩ : ByteArray).size + u.size + t.size ≤ 10000 := by rw [z47]; omega
        clear hN s5 c5
        go_wp2
        go_ret
        exact ⟨_, rfl, by rw [Hz2.out]; omega, ⟨m5, by omega, S5.out⟩, C5.out⟩
      have f5 : (k == 5) = false := by simpa using k5
      by_cases k6 : k = 6
      · subst k6
        go_wp2_with fail
        go_loopw [3] (fun s3 wq => ∃ (mq : Nat) (t : ByteArray), s3 = .string t ∧ t.size ≤ 300 ∧ mq ≤ at' + 40 + t.size ∧ SrcAt wq p cv mq sz ∧ Chg p (p + 1) w wq) (fun s3 _ => 300 - txLen s3)
        case atStart => exact ⟨m, _, rfl, by omega, by omega, SR.out, CR.out⟩
        case round =>
          obtain ⟨mq, t, rfl, ht, hmq, sq, cq⟩ := hrel
          have hN := HN.out wr mq 2 (by omega) (by omega) sq cq
          clear sq cq SR CR
          go_wp2_with fail
          refine hN.mono ?_
          rintro e w6 ⟨y, rfl, hy0, hy1, s6, c6⟩
          have hy1 := hy1 (by omega)
          have S6 : Hid (SrcAt w6 p cv (mq + 1) sz) := s6
          have C6 : Hid (Chg p (p + 1) w w6) := c6
          clear hN s6 c6
          by_cases hq : (t.size : Int) < 240 + y
          · have zl : (⟨#[120]⟩ : ByteArray).size = 1 := rfl
            have ha : t.size + (⟨#[120]⟩ : ByteArray).size ≤ 10000 := by rw [zl]; omega
            have Hz : Hid ((t ++ (⟨#[120]⟩ : ByteArray)).size = t.size + 1) := by show _ = _; rw [ByteArray.size_append, zl]
            clear zl
            go_wp2
            go_roundw
            case rel => exact ⟨mq + 1, _, rfl, by rw [Hz.out]; omega, by rw [Hz.out]; omega, S6.out, C6.out⟩
            case measure => simp only [txLen]; rw [Hz.out]; omega
          · go_wp2
            go_ret
            exact ⟨_, rfl, by omega, ⟨mq + 1, by omega, S6.out⟩, C6.out⟩
      have f6 : (k == 6) = false := by simpa using k6
      by_cases k7 : k = 7
      · subst k7
        go_wp2_with fail
        go_loopw [3] (fun s3 wq => ∃ t : ByteArray, s3 = .string t ∧ t.size ≤ 240 ∧ wq = wr) (fun s3 _ => 300 - txLen s3)
        case atStart => exact ⟨_, rfl, by decide, rfl⟩
        case round =>
          obtain ⟨t, rfl, ht, rfl⟩ := hrel
          by_cases hq : t.size < 226
          · have hq' : (t.size : Int) < 226 := by omega
            have zl : (⟨#[47, 97, 98, 99, 100, 101, 102, 103, 104, 105, 106, 107, 108, 109]⟩ : ByteArray).size = 14 := rfl
            have ha : t.size + (⟨#[47, 97, 98, 99, 100, 101, 102, 103, 104, 105, 106, 107, 108, 109]⟩ : ByteArray).size ≤ 10000 := by rw [zl]; omega
            have Hz : Hid ((t ++ (⟨#[47, 97, 98, 99, 100, 101, 102, 103, 104, 105, 106, 107, 108, 109]⟩ : ByteArray)).size = t.size + 14) := by show _ = _; rw [ByteArray.size_append, zl]
            clear zl
            go_wp2
            go_roundw
            case rel => exact ⟨_, rfl, by rw [Hz.out]; omega, trivial⟩
            case measure => simp only [txLen]; rw [Hz.out]; omega
          · have hq' : ¬ (t.size : Int) < 226 := by omega
            go_wp2_with fail
            go_loopw [3] (fun s3 wq => ∃ (mq : Nat) (t : ByteArray), s3 = .string t ∧ t.size ≤ 300 ∧ mq ≤ at' + 40 + t.size ∧ SrcAt wq p cv mq sz ∧ Chg p (p + 1) w wq) (fun s3 _ => 300 - txLen s3)
            case atStart => exact ⟨m, _, rfl, by omega, by omega, SR.out, CR.out⟩
            case round =>
              obtain ⟨mq, t, rfl, ht, hmq, sq, cq⟩ := hrel
              have hN := HN.out wr mq 2 (by omega) (by omega) sq cq
              clear sq cq SR CR
              go_wp2_with fail
              refine hN.mono ?_
              rintro e w6 ⟨y, rfl, hy0, hy1, s6, c6⟩
              have hy1 := hy1 (by omega)
              have S6 : Hid (SrcAt w6 p cv (mq + 1) sz) := s6
              have C6 : Hid (Chg p (p + 1) w w6) := c6
              clear hN s6 c6
              by_cases hq : (t.size : Int) < 240 + y
              · have zl : (⟨#[47]⟩ : ByteArray).size = 1 := rfl
                have ha : t.size + (⟨#[47]⟩ : ByteArray).size ≤ 10000 := by rw [zl]; omega
                have Hz : Hid ((t ++ (⟨#[47]⟩ : ByteArray)).size = t.size + 1) := by show _ = _; rw [ByteArray.size_append, zl]
                clear zl
                go_wp2
                go_roundw
                case rel => exact ⟨mq + 1, _, rfl, by rw [Hz.out]; omega, by rw [Hz.out]; omega, S6.out, C6.out⟩
                case measure => simp only [txLen]; rw [Hz.out]; omega
              · go_wp2
                go_ret
                exact ⟨_, rfl, by omega, ⟨mq + 1, by omega, S6.out⟩, C6.out⟩
      have f7 : (k == 7) = false := by simpa using k7
      go_wp2
      go_ret
      exact ⟨_, rfl, by omega, ⟨m, by omega, SR.out⟩, CR.out⟩

end Go.Proofs.YtacfkgfemmgpkaaGreatDoor
