/- The words of a line: l14Word, l14Lone of the model. (made by tools/mkwords.py) -/
import Derived.Test.YteaeikmgkmpkiaaGreatDoorTextL
import Derived.Test.YteaeikmgkmpkiaaGreatDoorMapText
import Derived.Lib.IndexBytes
import Derived.Test.YteaeikmgkmpkiaaGreatDoorNumImpl
namespace Go.Proofs.YteaeikmgkmpkiaaGreatDoor
open Go.RowKit

theorem tl_yes {x : ByteArray} {l : List UInt8} (h : x = ⟨l.toArray⟩) : (x.toList == l) = true := by
  rw [h, Lib.toList_data]; simp
theorem tl_no {x : ByteArray} {l : List UInt8} (h : x ≠ ⟨l.toArray⟩) : (x.toList == l) = false := by
  cases hb : (x.toList == l) with
  | false => rfl
  | true =>
    exfalso
    apply h
    rw [Lib.toList_data] at hb
    have h2 : x.data.toList = l := by simpa using hb
    rw [← h2]
theorem tl_no2 {x y : ByteArray} (h : y ≠ x) : (y.toList == x.toList) = false := tl_no (fun e => h (by rw [e, Lib.toList_data]))
theorem tl_yes2 (x : ByteArray) : (x.toList == x.toList) = true := by simp

noncomputable def wordN (w : ByteArray) : Int := if w = ⟨#[99, 114, 101, 97, 116, 101]⟩ then 1 else if w = ⟨#[109, 107, 100, 105, 114]⟩ then 2 else if w = ⟨#[117, 110, 108, 105, 110, 107]⟩ then 3 else if w = ⟨#[114, 109, 100, 105, 114]⟩ then 4 else if w = ⟨#[111, 112, 101, 110]⟩ then 14 else if w = ⟨#[115, 116, 97, 116]⟩ then 18 else if w = ⟨#[108, 115, 116, 97, 116]⟩ then 19 else if w = ⟨#[108, 105, 115, 116]⟩ then 20 else if w = ⟨#[114, 101, 97, 100, 108, 105, 110, 107]⟩ then 21 else 0

set_option maxRecDepth 20000 in
set_option maxHeartbeats 4000000 in
theorem l14Word_calls (w : World) (x : ByteArray) : Calls Tryz.prog 14 #[.string x] w fun e w' => e = .returned (.int .i64 (wordN x)) ∧ w' = w := by
  obtain ⟨R, HR⟩ : ∃ R, Hid (R = wordN x) := ⟨_, rfl⟩
  rw [← HR.out]
  go_enter Tryz.func14, Tryz.ntmps14
  by_cases h0 : x = ⟨#[99, 114, 101, 97, 116, 101]⟩
  · have HK : Hid (R = 1) := by show _ = _; rw [HR.out]; unfold wordN; rw [if_pos h0]
    have b0 : (x.toList == [99, 114, 101, 97, 116, 101]) = true := tl_yes h0
    clear h0
    go_wp2
    go_ret
    exact ⟨by rw [HK.out]; rfl, rfl⟩
  have b0 : (x.toList == [99, 114, 101, 97, 116, 101]) = false := tl_no h0
  by_cases h1 : x = ⟨#[109, 107, 100, 105, 114]⟩
  · have HK : Hid (R = 2) := by show _ = _; rw [HR.out]; unfold wordN; rw [if_neg h0, if_pos h1]
    have b1 : (x.toList == [109, 107, 100, 105, 114]) = true := tl_yes h1
    clear h0 h1
    go_wp2
    go_ret
    exact ⟨by rw [HK.out]; rfl, rfl⟩
  have b1 : (x.toList == [109, 107, 100, 105, 114]) = false := tl_no h1
  by_cases h2 : x = ⟨#[117, 110, 108, 105, 110, 107]⟩
  · have HK : Hid (R = 3) := by show _ = _; rw [HR.out]; unfold wordN; rw [if_neg h0, if_neg h1, if_pos h2]
    have b2 : (x.toList == [117, 110, 108, 105, 110, 107]) = true := tl_yes h2
    clear h0 h1 h2
    go_wp2
    go_ret
    exact ⟨by rw [HK.out]; rfl, rfl⟩
  have b2 : (x.toList == [117, 110, 108, 105, 110, 107]) = false := tl_no h2
  by_cases h3 : x = ⟨#[114, 109, 100, 105, 114]⟩
  · have HK : Hid (R = 4) := by show _ = _; rw [HR.out]; unfold wordN; rw [if_neg h0, if_neg h1, if_neg h2, if_pos h3]
    have b3 : (x.toList == [114, 109, 100, 105, 114]) = true := tl_yes h3
    clear h0 h1 h2 h3
    go_wp2
    go_ret
    exact ⟨by rw [HK.out]; rfl, rfl⟩
  have b3 : (x.toList == [114, 109, 100, 105, 114]) = false := tl_no h3
  by_cases h4 : x = ⟨#[111, 112, 101, 110]⟩
  · have HK : Hid (R = 14) := by show _ = _; rw [HR.out]; unfold wordN; rw [if_neg h0, if_neg h1, if_neg h2, if_neg h3, if_pos h4]
    have b4 : (x.toList == [111, 112, 101, 110]) = true := tl_yes h4
    clear h0 h1 h2 h3 h4
    go_wp2
    go_ret
    exact ⟨by rw [HK.out]; rfl, rfl⟩
  have b4 : (x.toList == [111, 112, 101, 110]) = false := tl_no h4
  by_cases h5 : x = ⟨#[115, 116, 97, 116]⟩
  · have HK : Hid (R = 18) := by show _ = _; rw [HR.out]; unfold wordN; rw [if_neg h0, if_neg h1, if_neg h2, if_neg h3, if_neg h4, if_pos h5]
    have b5 : (x.toList == [115, 116, 97, 116]) = true := tl_yes h5
    clear h0 h1 h2 h3 h4 h5
    go_wp2
    go_ret
    exact ⟨by rw [HK.out]; rfl, rfl⟩
  have b5 : (x.toList == [115, 116, 97, 116]) = false := tl_no h5
  by_cases h6 : x = ⟨#[108, 115, 116, 97, 116]⟩
  · have HK : Hid (R = 19) := by show _ = _; rw [HR.out]; unfold wordN; rw [if_neg h0, if_neg h1, if_neg h2, if_neg h3, if_neg h4, if_neg h5, if_pos h6]
    have b6 : (x.toList == [108, 115, 116, 97, 116]) = true := tl_yes h6
    clear h0 h1 h2 h3 h4 h5 h6
    go_wp2
    go_ret
    exact ⟨by rw [HK.out]; rfl, rfl⟩
  have b6 : (x.toList == [108, 115, 116, 97, 116]) = false := tl_no h6
  by_cases h7 : x = ⟨#[108, 105, 115, 116]⟩
  · have HK : Hid (R = 20) := by show _ = _; rw [HR.out]; unfold wordN; rw [if_neg h0, if_neg h1, if_neg h2, if_neg h3, if_neg h4, if_neg h5, if_neg h6, if_pos h7]
    have b7 : (x.toList == [108, 105, 115, 116]) = true := tl_yes h7
    clear h0 h1 h2 h3 h4 h5 h6 h7
    go_wp2
    go_ret
    exact ⟨by rw [HK.out]; rfl, rfl⟩
  have b7 : (x.toList == [108, 105, 115, 116]) = false := tl_no h7
  by_cases h8 : x = ⟨#[114, 101, 97, 100, 108, 105, 110, 107]⟩
  · have HK : Hid (R = 21) := by show _ = _; rw [HR.out]; unfold wordN; rw [if_neg h0, if_neg h1, if_neg h2, if_neg h3, if_neg h4, if_neg h5, if_neg h6, if_neg h7, if_pos h8]
    have b8 : (x.toList == [114, 101, 97, 100, 108, 105, 110, 107]) = true := tl_yes h8
    clear h0 h1 h2 h3 h4 h5 h6 h7 h8
    go_wp2
    go_ret
    exact ⟨by rw [HK.out]; rfl, rfl⟩
  have b8 : (x.toList == [114, 101, 97, 100, 108, 105, 110, 107]) = false := tl_no h8
  have HK : Hid (R = 0) := by show _ = _; rw [HR.out]; unfold wordN; rw [if_neg h0, if_neg h1, if_neg h2, if_neg h3, if_neg h4, if_neg h5, if_neg h6, if_neg h7, if_neg h8]
  clear h0 h1 h2 h3 h4 h5 h6 h7 h8
  go_wp2
  go_ret
  exact ⟨by rw [HK.out]; rfl, rfl⟩

def loneW : List ByteArray := [⟨#[115, 121, 110, 99]⟩, ⟨#[99, 104, 101, 99, 107, 112, 111, 105, 110, 116]⟩, ⟨#[115, 112, 97, 99, 101]⟩, ⟨#[108, 111, 103]⟩]
noncomputable def loneF (x : ByteArray) : Nat → List ByteArray → Int
  | _, [] => 0
  | i, a :: r => if a = x then 22 + (i : Int) else loneF x (i + 1) r
noncomputable def loneN (x : ByteArray) : Int := loneF x 0 loneW
theorem lone_drop (k : Nat) (h : k < 4) : loneW.drop k = loneW.getD k noText :: loneW.drop (k + 1) := by
  match k, h with
  | 0, _ => rfl
  | 1, _ => rfl
  | 2, _ => rfl
  | 3, _ => rfl

set_option maxRecDepth 20000 in
set_option maxHeartbeats 4000000 in
theorem l14Lone_calls (w : World) (x : ByteArray) : Calls Tryz.prog 13 #[.string x] w fun e w' => e = .returned (.int .i64 (loneN x)) ∧ Chg 0 0 w w' := by
  obtain ⟨R, HR⟩ : ∃ R, Hid (R = loneN x) := ⟨_, rfl⟩
  rw [← HR.out]
  have HC : Hid (Chg 0 0 w (w.alloc (.cells #[.string ⟨#[115, 121, 110, 99]⟩, .string ⟨#[99, 104, 101, 99, 107, 112, 111, 105, 110, 116]⟩, .string ⟨#[115, 112, 97, 99, 101]⟩, .string ⟨#[108, 111, 103]⟩] 9))) := Chg.alloc (Chg.refl 0 0 w) _
  have HH : Hid ((w.alloc (.cells #[.string ⟨#[115, 121, 110, 99]⟩, .string ⟨#[99, 104, 101, 99, 107, 112, 111, 105, 110, 116]⟩, .string ⟨#[115, 112, 97, 99, 101]⟩, .string ⟨#[108, 111, 103]⟩] 9)).heap[w.heap.size]? = some (.cells (loneW.map Value.string).toArray 9 (0, 0))) := heap_new w _
  go_enter Tryz.func13, Tryz.ntmps13
  go_wp2_with fail
  generalize w.alloc (.cells #[.string ⟨#[115, 121, 110, 99]⟩, .string ⟨#[99, 104, 101, 99, 107, 112, 111, 105, 110, 116]⟩, .string ⟨#[115, 112, 97, 99, 101]⟩, .string ⟨#[108, 111, 103]⟩] 9) = w1 at *
  go_loopw [4] (fun i wr => wr = w1 ∧ ∃ k : Nat, k ≤ 4 ∧ i = .int .i64 k ∧ R = loneF x k (loneW.drop k)) (fun i _ => 4 - (intOf i).toNat)
  case atStart => exact ⟨rfl, 0, by omega, rfl, HR.out⟩
  case round =>
    obtain ⟨rfl, k, hk, rfl, hR⟩ := hrel
    by_cases hlt : k < 4
    · have hi : (k : Int) < 4 := by omega
      have hc : wr.cell? ⟨w.heap.size, k, none⟩ = some (.string (loneW.getD k noText)) := by
        rw [Lib.cell_of_heap HH.out]
        have hl : k < loneW.length := hlt
        simp [List.getD_eq_getElem?_getD, hl]
      have HS : Hid (R = if loneW.getD k noText = x then 22 + (k : Int) else loneF x (k + 1) (loneW.drop (k + 1))) := by
        show _ = _
        rw [hR, lone_drop k hlt]; rfl
      generalize loneW.getD k noText = y at *
      clear hR
      by_cases he : y = x
      · have hb : (y.toList == x.toList) = true := by rw [he]; exact tl_yes2 x
        have HK : Hid (R = 22 + (k : Int)) := by show _ = _; rw [HS.out, if_pos he]
        clear he HS
        go_wp2
        go_ret
        exact ⟨by rw [HK.out]; rfl, HC.out⟩
      · have hb : (y.toList == x.toList) = false := tl_no2 he
        have HK : Hid (R = loneF x (k + 1) (loneW.drop (k + 1))) := by show _ = _; rw [HS.out, if_neg he]
        clear he HS
        go_wp2
        go_roundw
        case rel => exact ⟨trivial, k + 1, by omega, by go_num, HK.out⟩
        case measure => simp [intOf]; omega
    · obtain rfl : k = 4 := by omega
      have HK : Hid (R = 0) := by show _ = _; rw [hR]; rfl
      clear hR
      go_wp2
      go_ret
      exact ⟨by rw [HK.out]; rfl, HC.out⟩

end Go.Proofs.YteaeikmgkmpkiaaGreatDoor
