/- Maps of bits of the program: bitsOf, size, has, maskOf, get. -/
import Derived.Test.YtgilnboiipehgaaBitSpec
import Derived.BigQuiet
namespace Go.Proofs.Ytgilnboiipehgaa
open Go.RowKit

/-- The bits that some bytes have: none, where there are too many of them. -/
def mapL (xs : List Int) : List Int := if xs.length ≤ 2048 then xs else []
theorem mapL_len (xs : List Int) : (mapL xs).length ≤ 2048 := by unfold mapL; split <;> simp_all
theorem mapL_byt {xs : List Int} (h : Byt xs) : Byt (mapL xs) := by unfold mapL; split; exact h; intro x hx; cases hx
theorem bitG_map (xs : List Int) (i : Int) : bitG (mapL xs) i = bitG xs i := by
  unfold mapL
  split
  · rfl
  · rename_i h
    rw [bitG_out (fun h' => h h'.1), bitG_out]
    intro h'; have := h'.2; simp at this; omega

set_option maxRecDepth 20000 in
set_option maxHeartbeats 400000 in
theorem bitsOf_calls (w : World) {lo hi : Nat} {a : Value} {xs : List Int} (hl : xs.length ≤ 1048576) (h1 : View w lo hi .u8 a xs) :
    Calls Try.prog 14 #[a] w fun e w' => (∃ v, e = .returned v ∧ View w lo hi .u8 v (mapL xs)) ∧ w' = w := by
  have HV : Hid (View w lo hi .u8 a xs) := h1
  obtain ⟨ao, cap, rfl, _, _, _⟩ := h1
  by_cases h : xs.length ≤ 2048
  · have Hm : Hid (mapL xs = xs) := if_pos h
    have e1 : ¬ (2048 : Int) < (xs.length : Int) := by omega
    go_enter Try.func14, Try.ntmps14
    go_wp2
    go_ret
    exact ⟨⟨_, rfl, by rw [Hm.out]; exact HV.out⟩, rfl⟩
  · have Hm : Hid (mapL xs = []) := if_neg h
    have e1 : (2048 : Int) < (xs.length : Int) := by omega
    go_enter Try.func14, Try.ntmps14
    go_wp2
    go_ret
    exact ⟨⟨_, rfl, by rw [Hm.out]; exact View.nil _ _ _ _⟩, rfl⟩

set_option maxRecDepth 20000 in
set_option maxHeartbeats 400000 in
theorem size_calls (w : World) (ao : Option Addr) (n cap : Nat) (hl : n ≤ 2048) :
    Calls Try.prog 20 #[.slice ao n cap] w fun e w' => e = .returned (.int .i64 (8 * (n : Int))) ∧ w' = w := by
  go_enter Try.func20, Try.ntmps20
  go_wp2
  go_ret
  exact ⟨by go_num, rfl⟩

theorem and_mask_all : ∀ y : Fin 256, ∀ r : Fin 8, (bits BinOp.and IntKind.u8 ((y.val : Nat) : Int) ((2 ^ r.val : Nat) : Int) != 0) = decide (y.val / 2 ^ r.val % 2 = 1) := by decide +kernel
theorem and_mask {y r : Nat} (hy : y < 256) (hr : r < 8) : (bits BinOp.and IntKind.u8 (y : Int) (2 ^ r) != 0) = decide (y / 2 ^ r % 2 = 1) := by
  have h := and_mask_all ⟨y, hy⟩ ⟨r, hr⟩
  rw [show (2 : Int) ^ r = ((2 ^ r : Nat) : Int) by simp]
  exact h

end Go.Proofs.Ytgilnboiipehgaa
