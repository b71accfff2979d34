/- Maps of bits of the program: bitsOf, size, has, maskOf, get. -/
import Derived.Test.YtgmpggloonkfnaaBitSpec
import Derived.BigQuiet
namespace Go.Proofs.Ytgmpggloonkfnaa
open Go.RowKit

/-- The bits that some bytes have: none, where there are too many of them. -/
def mapL (xs : List Int) : List Int := if xs.length ≤ 2048 then xs else []
theorem mapL_len (xs : List Int) : (mapL xs).length ≤ 2048 := by unfold mapL; split <;> simp_all
theorem mapL_byt {xs : List Int} (h : Byt xs) : Byt (mapL xs) := by unfold mapL; split; exact h; intro x hx; cases hx
theorem bitG_map (xs : List Int) (i : Int) : bitG (mapL xs) i = bitG xs i := by
  unfold mapL
  split
  · rfl
  · rename_i h
    rw [bitG_out (fun h' => h h'.1), bitG_out]
    intro h'; have := h'.2; simp at this; omega

set_option maxRecDepth 20000 in
set_option maxHeartbeats 400000 in
theorem bitsOf_calls (w : World) {lo hi : Nat} {a : Value} {xs : List Int} (hl : xs.length ≤ 1048576) (h1 : View w lo hi .u8 a xs) :
    Calls Try.prog 15 #[a] w fun e w' => (∃ v, e = .returned v ∧ View w lo hi .u8 v (mapL xs)) ∧ w' = w := by
  have HV : Hid (View w lo hi .u8 a xs) := h1
  obtain ⟨ao, cap, rfl, _, _, _⟩ := h1
  by_cases h : xs.length ≤ 2048
  · have Hm : Hid (mapL xs = xs) := if_pos h
    have e1 : ¬ (2048 : Int) < (xs.length : Int) := by omega
    go_enter Try.func15, Try.ntmps15
    go_wp2
    go_ret
    exact ⟨⟨_, rfl, by rw [Hm.out]; exact HV.out⟩, rfl⟩
  · have Hm : Hid (mapL xs = []) := if_neg h
    have e1 : (2048 : Int) < (xs.length : Int) := by omega
    go_enter Try.func15, Try.ntmps15
    go_wp2
    go_ret
    exact ⟨⟨_, rfl, by rw [Hm.out]; exact View.nil _ _ _ _⟩, rfl⟩

set_option maxRecDepth 20000 in
set_option maxHeartbeats 400000 in
theorem size_calls (w : World) (ao : Option Addr) (n cap : Nat) (hl : n ≤ 2048) :
    Calls Try.prog 27 #[.slice ao n cap] w fun e w' => e = .returned (.int .i64 (8 * (n : Int))) ∧ w' = w := by
  go_enter Try.func27, Try.ntmps27
  go_wp2
  go_ret
  exact ⟨by go_num, rfl⟩

set_option maxRecDepth 20000 in
set_option maxHeartbeats 400000 in
theorem has_calls (w : World) (ao : Option Addr) (n cap : Nat) (i : Int) (hl : n ≤ 2048) :
    Calls Try.prog 18 #[.slice ao n cap, .int .i64 i] w fun e w' => e = .returned (.bool (decide (0 ≤ i ∧ i < 8 * (n : Int)))) ∧ w' = w := by
  by_cases h0 : 0 ≤ i
  · by_cases h1 : i < 8 * (n : Int)
    · rw [decide_eq_true ⟨h0, h1⟩]
      go_enter Try.func18, Try.ntmps18
      go_wp2_with fail
      refine (size_calls w ao n cap hl).mono ?_
      rintro e w1 ⟨rfl, rfl⟩
      go_wp2
      go_ret
      exact ⟨rfl, rfl⟩
    · rw [decide_eq_false (fun h => h1 h.2)]
      go_enter Try.func18, Try.ntmps18
      go_wp2_with fail
      refine (size_calls w ao n cap hl).mono ?_
      rintro e w1 ⟨rfl, rfl⟩
      go_wp2
      go_ret
      exact ⟨by rw [← decide_eq_false (Int.not_lt.mpr h1)]; rfl, rfl⟩
  · rw [decide_eq_false (fun h => h0 h.1)]
    go_enter Try.func18, Try.ntmps18
    go_wp2
    go_ret
    exact ⟨rfl, rfl⟩

set_option maxRecDepth 20000 in
set_option maxHeartbeats 400000 in
theorem maskOf_calls (w : World) (m : Nat) :
    Calls Try.prog 28 #[.int .i64 m] w fun e w' => e = .returned (.int .u8 ((2 ^ (m % 8) : Nat) : Int)) ∧ w' = w := by
  have hr : m % 8 < 8 := by omega
  obtain ⟨r, Hr⟩ : ∃ r : Nat, Hid (m % 8 = r) := ⟨_, rfl⟩
  have hmr : ((m : Int) % 8) = (r : Int) := by have := Hr.out; omega
  rw [Hr.out] at hr ⊢
  clear Hr
  have hr' : r = 0 ∨ r = 1 ∨ r = 2 ∨ r = 3 ∨ r = 4 ∨ r = 5 ∨ r = 6 ∨ r = 7 := by omega
  clear hr
  rcases hr' with rfl | rfl | rfl | rfl | rfl | rfl | rfl | rfl
  all_goals
    go_enter Try.func28, Try.ntmps28
    go_wp2
    go_ret
    exact ⟨rfl, rfl⟩

theorem and_mask_all : ∀ y : Fin 256, ∀ r : Fin 8, (bits BinOp.and IntKind.u8 ((y.val : Nat) : Int) ((2 ^ r.val : Nat) : Int) != 0) = decide (y.val / 2 ^ r.val % 2 = 1) := by decide +kernel
theorem and_mask {y r : Nat} (hy : y < 256) (hr : r < 8) : (bits BinOp.and IntKind.u8 (y : Int) (2 ^ r) != 0) = decide (y / 2 ^ r % 2 = 1) := by
  have h := and_mask_all ⟨y, hy⟩ ⟨r, hr⟩
  rw [show (2 : Int) ^ r = ((2 ^ r : Nat) : Int) by simp]
  exact h

set_option maxRecDepth 20000 in
set_option maxHeartbeats 400000 in
theorem get_some (w : World) (xs : List Int) (m : Nat) (b off cap : Nat) (hB : Byt xs) (hl : xs.length ≤ 2048) (hm : m < 8 * xs.length)
    (h1 : ∀ i, i < xs.length → w.cell? ⟨b, off + i, none⟩ = some (.int .u8 (xs.getD i 0))) :
    Calls Try.prog 19 #[.slice (some ⟨b, off, none⟩) xs.length cap, .int .i64 m] w fun e w' => e = .returned (.bool (bitN xs m)) ∧ Chg 0 0 w w' := by
  have c1 := h1 (m / 8) (by omega)
  have hb := hB.getD (m / 8)
  have Hfin : Hid (∀ y : Nat, xs.getD (m / 8) 0 = y → bitN xs m = decide (y / 2 ^ (m % 8) % 2 = 1)) := by intro y hy; unfold bitN; rw [hy]; rfl
  obtain ⟨y, hy⟩ : ∃ y : Nat, xs.getD (m / 8) 0 = y := ⟨(xs.getD (m / 8) 0).toNat, by omega⟩
  have HF : Hid (bitN xs m = decide (y / 2 ^ (m % 8) % 2 = 1)) := Hfin.out y hy
  rw [hy] at c1 hb
  have hq : ((m / 8 : Nat) : Int) < (xs.length : Int) := by omega
  have hr : m % 8 < 8 := by omega
  have hM := fun w => maskOf_calls w m
  obtain ⟨r, Hr⟩ : ∃ r : Nat, Hid (m % 8 = r) := ⟨_, rfl⟩
  rw [Hr.out] at HF hr hM
  clear h1 hy Hfin hB Hr
  go_enter Try.func19, Try.ntmps19
  go_wp2
  go_quiet (first | (go_at_call 28; exact Calls.quiet_of_same (hM _)))
  go_wp2
  go_ret
  refine ⟨?_, Chg.drewN (Chg.refl _ _ _) _⟩
  show Ending.returned (Value.bool (bits BinOp.and IntKind.u8 (y : Int) (2 ^ r) != 0)) = _
  rw [HF.out, and_mask (by omega) hr]

end Go.Proofs.Ytgmpggloonkfnaa
