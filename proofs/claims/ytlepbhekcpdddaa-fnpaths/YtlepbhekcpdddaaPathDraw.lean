/- The model's DrawSplitPath: a text. -/
import Derived.Test.YtlepbhekcpdddaaDraw
import Derived.Test.YtlepbhekcpdddaaViewStr
import Derived.Test.YtlepbhekcpdddaaNameSpec
import Derived.Deep.DeepCutAuto
namespace Go.Proofs.Ytlepbhekcpdddaa
open Go.RowKit

theorem byte_own (W : World) (base : Nat) (a : Int) (hb : base ≤ W.heap.size) : OwnB (W.alloc (.cells #[.int .u8 a] 5)) base 5 (.slice (some ⟨W.heap.size, 0, none⟩) 1 1) [a] := by
  have := World.ownsRow_lit (base := base) (e := 5) (size := 1) W #[.int .u8 a] 1 hb (by unfold maxLen; omega) rfl
  unfold OwnB
  simpa using this

set_option maxRecDepth 20000 in
set_option maxHeartbeats 2000000 in
theorem l10DrawName_calls (w : World) (p at' sz : Nat) {lo hi : Nat} {cv : Value} {code : List Int} (hB : Byt code) (hcl : code.length ≤ 1048576) (hat : at' ≤ 1000000000)
    (hs : SrcAt w p cv at' sz) (hc : View w lo hi .u8 cv code) (hp : p < lo ∨ hi ≤ p) :
    Calls Try.prog 21 #[.pointer (some ⟨p, 0, none⟩)] w fun e w' => ∃ (t : ByteArray) (m : Nat), e = .returned (.string t) ∧ t.size ≤ 13 ∧ m ≤ at' + 2 ∧ SrcAt w' p cv m sz ∧ Chg p (p + 1) w w' := by
  have hN := l1Next_calls w p at' sz 40 (by omega) hB hcl (by omega) hs hc hp
  have hpl : p < w.heap.size := (Array.getElem?_eq_some_iff.1 hs).1
  go_enter Try.func21, Try.ntmps21
  go_wp2_with fail
  refine hN.mono ?_
  rintro e w1 ⟨rfl, s1, c1⟩
  have HC1 : Hid (Chg p (p + 1) w w1) := c1
  have HS1 : Hid (SrcAt w1 p cv (at' + 1) sz) := s1
  have hr := nxt_range code at' 40
  generalize nxt code at' 40 = k at *
  clear hN
  by_cases e0 : k = 0
  · subst e0
    go_wp2
    go_ret
    exact ⟨_, at' + 1, rfl, by decide, by omega, HS1.out, HC1.out⟩
  by_cases e1 : k = 1
  · subst e1
    go_wp2
    go_ret
    exact ⟨_, at' + 1, rfl, by decide, by omega, HS1.out, HC1.out⟩
  have b0 : (k == 0) = false := by simpa using e0
  have b1 : (k == 1) = false := by simpa using e1
  have hN := l1Next_calls w1 p (at' + 1) sz 5 (by omega) hB hcl (by omega) s1 (hc.chg c1 (by omega)) hp
  clear s1 c1 hr
  go_wp2_with fail
  refine hN.mono ?_
  rintro e w2 ⟨rfl, s2, c2⟩
  have hr := nxt_range code (at' + 1) 5
  generalize nxt code (at' + 1) 5 = x at *
  have hx := hr.2 (by omega)
  have hx0 := hr.1
  have C3 : Chg 0 0 w2 (w2.alloc (.cells #[.int .u8 (97 + x)] 5)) := Chg.alloc (Chg.refl 0 0 w2) _
  have HC3 : Hid (Chg p (p + 1) w (w2.alloc (.cells #[.int .u8 (97 + x)] 5))) := Chg.alloc (HC1.out.trans c2) _
  have HS3 : Hid (SrcAt (w2.alloc (.cells #[.int .u8 (97 + x)] 5)) p cv (at' + 1 + 1) sz) := s2.chg C3 (by omega)
  have X := ((byte_own w2 0 (97 + x) (by omega)).view (hi := w2.heap.size + 1) (by show 1 ≤ _; omega) (by intro g hg; simp [Value.ownBlock] at hg; omega)).str
  have q1 : IntKind.i64.wrap (97 + x) = 97 + x := by rw [IntKind.wrap_i64]; omega
  have q2 : IntKind.u8.wrap (97 + x) = 97 + x := by rw [IntKind.wrap_u8]; omega
  clear hN s2 c2 C3 hr
  go_wp2
  go_ret
  exact ⟨_, at' + 2, rfl, by rw [strOfNums_size]; show 1 ≤ 13; omega, by omega, HS3.out, HC3.out⟩

theorem new_heap (w : World) (A : Array Value) (t : TypeId) : (w.alloc (.cells A t)).heap[w.heap.size]? = some (.cells A t (0, 0)) := heap_new w _

def oddA : Array Value := #[.string ⟨#[]⟩, .string ⟨#[46]⟩, .string ⟨#[46, 46]⟩, .string ⟨#[46, 46, 46]⟩, .string ⟨#[97, 98, 99, 100, 101, 102, 103, 104, 105, 106, 107, 108, 109, 110]⟩, .string ⟨#[97, 32, 98]⟩, .string ⟨#[97, 127]⟩, .string ⟨#[97, 47, 98]⟩, .string ⟨#[0]⟩, .string ⟨#[97, 98, 99, 100, 101, 102, 103, 104, 105, 106, 107, 108, 109, 110, 111, 255]⟩, .string ⟨#[45]⟩, .string ⟨#[37]⟩]
theorem oddA_at : ∀ i, i < 12 → ∃ t : ByteArray, oddA[i]? = some (.string t) ∧ t.size ≤ 16 := by
  intro i hi
  match i, hi with
  | 0, _ => exact ⟨_, rfl, by decide⟩
  | 1, _ => exact ⟨_, rfl, by decide⟩
  | 2, _ => exact ⟨_, rfl, by decide⟩
  | 3, _ => exact ⟨_, rfl, by decide⟩
  | 4, _ => exact ⟨_, rfl, by decide⟩
  | 5, _ => exact ⟨_, rfl, by decide⟩
  | 6, _ => exact ⟨_, rfl, by decide⟩
  | 7, _ => exact ⟨_, rfl, by decide⟩
  | 8, _ => exact ⟨_, rfl, by decide⟩
  | 9, _ => exact ⟨_, rfl, by decide⟩
  | 10, _ => exact ⟨_, rfl, by decide⟩
  | 11, _ => exact ⟨_, rfl, by decide⟩
  | n + 12, h => omega

set_option maxRecDepth 20000 in
set_option maxHeartbeats 2000000 in
theorem l10DrawOdd_calls (w : World) (p at' sz : Nat) {lo hi : Nat} {cv : Value} {code : List Int} (hB : Byt code) (hcl : code.length ≤ 1048576) (hat : at' ≤ 1000000000)
    (hs : SrcAt w p cv at' sz) (hc : View w lo hi .u8 cv code) (hp : p < lo ∨ hi ≤ p) :
    Calls Try.prog 10 #[.pointer (some ⟨p, 0, none⟩)] w fun e w' => ∃ (t : ByteArray) (m : Nat), e = .returned (.string t) ∧ t.size ≤ 16 ∧ m ≤ at' + 1 ∧ SrcAt w' p cv m sz ∧ Chg p (p + 1) w w' := by
  have hpl : p < w.heap.size := (Array.getElem?_eq_some_iff.1 hs).1
  go_enter Try.func10, Try.ntmps10
  go_wp2_with fail
  have CA : Chg 0 0 w (w.alloc (.cells oddA 9)) := Chg.alloc (Chg.refl 0 0 w) _
  have HA : Hid (∀ i : Nat, (w.alloc (.cells oddA 9)).cell? ⟨w.heap.size, i, none⟩ = oddA[i]?) := fun i => by have := new_heap w oddA 9; simp only [World.cell?, this]; simp
  have HC0 : Hid (Chg p (p + 1) w (w.alloc (.cells oddA 9))) := Chg.alloc (Chg.refl _ _ w) _
  have hN := l1Next_calls (w.alloc (.cells oddA 9)) p at' sz 12 (by omega) hB hcl (by omega) (hs.chg CA (by omega)) (hc.chg CA (by omega)) hp
  refine hN.mono ?_
  rintro e w1 ⟨rfl, s1, c1⟩
  have HC1 : Hid (Chg p (p + 1) w w1) := HC0.out.trans c1
  have HS1 : Hid (SrcAt w1 p cv (at' + 1) sz) := s1
  have hr := nxt_range code at' 12
  generalize nxt code at' 12 = x at *
  obtain ⟨i, rfl⟩ : ∃ i : Nat, x = i := ⟨x.toNat, by omega⟩
  have hi' := hr.2 (by omega)
  obtain ⟨t, ht, hts⟩ := oddA_at i (by omega)
  have hcell := c1.cell ((HA.out i).trans ht) (by show w.heap.size < p ∨ p + 1 ≤ w.heap.size; omega)
  clear hN s1 c1 hr ht HA HC0 CA
  go_wp2
  go_ret
  exact ⟨_, at' + 1, rfl, hts, by omega, HS1.out, HC1.out⟩

end Go.Proofs.Ytlepbhekcpdddaa
