/- Several short texts in one: ViewPart, ImplBM, ImplPut1, ImplNext. -/
import Derived.Test.YtmfkgnifkkkkiaaDoorMem
import Derived.Test.YtmfkgnifkkkkiaaDoorBitSpec
import Derived.BigQuiet
import Derived.Test.YtmfkgnifkkkkiaaDoorFlat
import Derived.Test.YtmfkgnifkkkkiaaDoorWeak
import Derived.Test.YtmfkgnifkkkkiaaDoorEncRow
import Derived.Lib.BitFns
namespace Go.Proofs.YtmfkgnifkkkkiaaDoor
open Go.RowKit

/-- A part of a slice of numbers. -/
theorem View.part {w : World} {lo hi b off cap l n : Nat} {k : IntKind} {xs : List Int} (h : View w lo hi k (.slice (some ⟨b, off, none⟩) xs.length cap) xs) (hl : l + n ≤ xs.length) (hn : 0 < n) (c : Nat) (hc : n ≤ c) :
    View w lo hi k (.slice (some ⟨b, off + l, none⟩) n c) ((xs.drop l).take n) := by
  have hlen : ((xs.drop l).take n).length = n := by rw [List.length_take, List.length_drop]; omega
  obtain ⟨ao, cap', e, h0, _, h1⟩ := h
  simp only [Value.slice.injEq] at e
  obtain ⟨e1, _, _⟩ := e
  rcases h1 with h1 | ⟨b', off', e2, h2, h3, h4⟩
  · rw [h1] at hl; simp at hl; omega
  · rw [← e1] at e2
    cases e2
    refine ⟨_, c, by rw [hlen], by rw [hlen]; omega, ⟨by rw [hlen]; exact hc, by simp⟩, Or.inr ⟨b, off + l, rfl, h2, h3, fun i hi => ?_⟩⟩
    rw [hlen] at hi
    rw [Nat.add_assoc, h4 (l + i) (by omega)]
    simp only [List.getD_eq_getElem?_getD, List.getElem?_take, List.getElem?_drop]
    rw [if_pos hi]

end Go.Proofs.YtmfkgnifkkkkiaaDoor

namespace Go.Proofs.YtmfkgnifkkkkiaaDoor
open Go.RowKit

/-- The bits that some bytes have: none, where there are too many of them. -/
def mapL (xs : List Int) : List Int := if xs.length ≤ 2048 then xs else []
theorem mapL_len (xs : List Int) : (mapL xs).length ≤ 2048 := by unfold mapL; split <;> simp_all
theorem mapL_byt {xs : List Int} (h : Byt xs) : Byt (mapL xs) := by unfold mapL; split; exact h; intro x hx; cases hx
theorem bitG_map (xs : List Int) (i : Int) : bitG (mapL xs) i = bitG xs i := by
  unfold mapL
  split
  · rfl
  · rename_i h
    rw [bitG_out (fun h' => h h'.1), bitG_out]
    intro h'; have := h'.2; simp at this; omega

set_option maxRecDepth 20000 in
set_option maxHeartbeats 400000 in
theorem size_calls (w : World) (ao : Option Addr) (n cap : Nat) (hl : n ≤ 2048) :
    Calls Tryd.prog 54 #[.slice ao n cap] w fun e w' => e = .returned (.int .i64 (8 * (n : Int))) ∧ w' = w := by
  go_enter Tryd.func54, Tryd.ntmps54
  go_wp2
  go_ret
  exact ⟨by go_num, rfl⟩

set_option maxRecDepth 20000 in
set_option maxHeartbeats 400000 in
theorem maskOf_calls (w : World) (m : Nat) :
    Calls Tryd.prog 65 #[.int .i64 m] w fun e w' => e = .returned (.int .u8 ((2 ^ (m % 8) : Nat) : Int)) ∧ w' = w := by
  have hr : m % 8 < 8 := by omega
  obtain ⟨r, Hr⟩ : ∃ r : Nat, Hid (m % 8 = r) := ⟨_, rfl⟩
  have hmr : ((m : Int) % 8) = (r : Int) := by have := Hr.out; omega
  rw [Hr.out] at hr ⊢
  clear Hr
  have hr' : r = 0 ∨ r = 1 ∨ r = 2 ∨ r = 3 ∨ r = 4 ∨ r = 5 ∨ r = 6 ∨ r = 7 := by omega
  clear hr
  rcases hr' with rfl | rfl | rfl | rfl | rfl | rfl | rfl | rfl
  all_goals
    go_enter Tryd.func65, Tryd.ntmps65
    go_wp2
    go_ret
    exact ⟨rfl, rfl⟩

theorem and_mask_all : ∀ y : Fin 256, ∀ r : Fin 8, (bits BinOp.and IntKind.u8 ((y.val : Nat) : Int) ((2 ^ r.val : Nat) : Int) != 0) = decide (y.val / 2 ^ r.val % 2 = 1) := by decide +kernel
theorem and_mask {y r : Nat} (hy : y < 256) (hr : r < 8) : (bits BinOp.and IntKind.u8 (y : Int) (2 ^ r) != 0) = decide (y / 2 ^ r % 2 = 1) := by
  have h := and_mask_all ⟨y, hy⟩ ⟨r, hr⟩
  rw [show (2 : Int) ^ r = ((2 ^ r : Nat) : Int) by simp]
  exact h

end Go.Proofs.YtmfkgnifkkkkiaaDoor

namespace Go.Proofs.YtmfkgnifkkkkiaaDoor
open Go.RowKit

theorem or_mask_all : ∀ y : Fin 256, ∀ r : Fin 8, bits BinOp.or IntKind.u8 ((y.val : Nat) : Int) ((2 ^ r.val : Nat) : Int) = putBit ((y.val : Nat) : Int) r.val true := by decide +kernel
theorem andNot_mask_all : ∀ y : Fin 256, ∀ r : Fin 8, bits BinOp.andNot IntKind.u8 ((y.val : Nat) : Int) ((2 ^ r.val : Nat) : Int) = putBit ((y.val : Nat) : Int) r.val false := by decide +kernel
theorem or_mask {y r : Nat} (hy : y < 256) (hr : r < 8) : bits BinOp.or IntKind.u8 (y : Int) (2 ^ r) = putBit y r true := by
  have h := or_mask_all ⟨y, hy⟩ ⟨r, hr⟩
  rw [show (2 : Int) ^ r = ((2 ^ r : Nat) : Int) by simp]
  exact h
theorem andNot_mask {y r : Nat} (hy : y < 256) (hr : r < 8) : bits BinOp.andNot IntKind.u8 (y : Int) (2 ^ r) = putBit y r false := by
  have h := andNot_mask_all ⟨y, hy⟩ ⟨r, hr⟩
  rw [show (2 : Int) ^ r = ((2 ^ r : Nat) : Int) by simp]
  exact h

set_option maxRecDepth 20000 in
set_option maxHeartbeats 1000000 in
theorem bput_on (w : World) (xs : List Int) (m base g cap : Nat) (hB : Byt xs) (hl : xs.length ≤ 2048) (hm : m < 8 * xs.length)
    (hO : OwnB w base 5 (.slice (some ⟨g, 0, none⟩) xs.length cap) xs) :
    Calls Tryd.prog 52 #[.slice (some ⟨g, 0, none⟩) xs.length cap, .int .i64 m, .bool true] w fun e w' => e = .returned (.tuple #[]) ∧ OwnB w' base 5 (.slice (some ⟨g, 0, none⟩) xs.length cap) (xs.set (m / 8) (putBit (xs.getD (m / 8) 0) (m % 8) true)) ∧ Chg g (g + 1) w w' := by
  have hb := hB.getD (m / 8)
  obtain ⟨y, hy⟩ : ∃ y : Nat, xs.getD (m / 8) 0 = y := ⟨(xs.getD (m / 8) 0).toNat, by omega⟩
  have HY : Hid (xs.getD (m / 8) 0 = y) := hy
  rw [hy] at hb ⊢
  have hq : ((m / 8 : Nat) : Int) < (xs.length : Int) := by omega
  have hr : m % 8 < 8 := by omega
  have hM := fun w => maskOf_calls w m
  obtain ⟨r, Hr⟩ : ∃ r : Nat, Hid (m % 8 = r) := ⟨_, rfl⟩
  rw [Hr.out] at hr hM
  have hO' : OwnB w.drew base 5 (.slice (some ⟨g, 0, none⟩) xs.length cap) xs := hO.chg (Chg.drew (Chg.refl 0 0 w)) (by intro g _; omega)
  have HC : Hid (Chg g (g + 1) w w.drew) := Chg.drew (Chg.refl _ _ w)
  have C1 : w.drew.cell? ⟨g, m / 8, none⟩ = some (.int .u8 y) := by
    have := World.ownsRow.cellAt hO' (m / 8) (by omega)
    rw [this, List.getElem?_map]
    have e : xs[m / 8]? = some (y : Int) := by
      have := HY.out
      rw [List.getD_eq_getElem?_getD] at this
      rw [List.getElem?_eq_getElem (by omega)] at this ⊢
      exact congrArg some this
    rw [e]; rfl
  have C2 : w.drew.frozen? ⟨g, m / 8, none⟩ = false := World.ownsRow.frozenAt hO' (m / 8)
  have Hbit : Hid (bits BinOp.or IntKind.u8 (y : Int) (2 ^ r) = putBit y r true) := or_mask (by omega) hr
  have HS : Hid (∀ (z : Int), OwnB (w.drew.setCell ⟨g, m / 8, none⟩ (.int .u8 z)) base 5 (.slice (some ⟨g, 0, none⟩) xs.length cap) (xs.set (m / 8) z)) := fun z => OwnB.putAt hO' rfl (m / 8) z
  have HCS : Hid (∀ (z : Int), Chg g (g + 1) w (w.drew.setCell ⟨g, m / 8, none⟩ (.int .u8 z))) := fun z => Chg.setCell HC.out (Or.inl ⟨Nat.le_refl _, Nat.lt_succ_self _⟩) _
  have hk : (m : Int) / 8 = ((m / 8 : Nat) : Int) := by omega
  have Hk : Hid (m / 8 < 2048) := by show _ < _; omega
  generalize m / 8 = k at *
  have hk2 := Hk.out
  have hkw : IntKind.i64.wrap (k : Int) = (k : Int) := by rw [IntKind.wrap_i64]; omega
  clear hy hO hO' hB
  go_enter Tryd.func52, Tryd.ntmps52
  go_wp2
  refine held_region (fun _ => True) (by kernel_rfl) ?_
  generalize w.drew = wd at *
  refine held_take 0 (.slice (some ⟨g, 0, none⟩) xs.length cap) rfl (by kernel_rfl) (by kernel_rfl) (by kernel_rfl) (fun _ _ _ h => h) (.inl ⟨by kernel_rfl, fun w' hw' => by go_simp⟩) trivial ?_
  go_simp
  refine held_take 1 (.int .i64 m) rfl (by kernel_rfl) (by kernel_rfl) (by kernel_rfl) (fun _ _ _ h => h) (.inl ⟨by kernel_rfl, fun w' hw' => by go_simp⟩) trivial ?_
  go_simp
  refine held_take 2 (.int .i64 k) rfl (by kernel_rfl) (by kernel_rfl) (by kernel_rfl) (fun _ _ _ h => h) (.inl ⟨by kernel_rfl, fun w' hw' => by go_simp⟩) trivial ?_
  go_simp
  refine held_take 3 (.pointer (some ⟨g, k, none⟩)) rfl (by kernel_rfl) (by kernel_rfl) (by kernel_rfl) (fun _ _ _ h => h) (.inl ⟨by kernel_rfl, fun w' hw' => by go_simp⟩) trivial ?_
  go_simp
  refine held_take 5 (.int .i64 m) rfl (by kernel_rfl) (by kernel_rfl) (by kernel_rfl) (fun _ _ _ h => h) (.inl ⟨by kernel_rfl, fun w' hw' => by go_simp⟩) trivial ?_
  go_simp
  refine held_two 4 6 rfl rfl rfl rfl (by kernel_rfl) ?_ ?_
  · go_simp
    refine held_one 6 rfl rfl (by kernel_rfl) ?_
    refine wp_enter 65 #[.int .i64 m] (by first | kernel_rfl | go_simp) (hM _) ?_
    rintro e w2 ⟨rfl, rfl⟩
    refine ⟨_, rfl, trivial, ?_⟩
    go_simp
    refine held_one 7 rfl rfl (by kernel_rfl) ?_
    go_simp
    rw [Hbit.out]
    refine held_one 8 rfl rfl (by kernel_rfl) ?_
    go_simp
    refine held_one 9 rfl rfl (by kernel_rfl) ?_
    go_simp
    refine held_done (by kernel_rfl) (NoPanic.normal ?_)
    go_wp2
    go_end0
    exact ⟨rfl, by rw [Hr.out]; exact HS.out _, HCS.out _⟩
  · refine wp_enter 65 #[.int .i64 m] (by first | kernel_rfl | go_simp) (hM _) ?_
    rintro e w2 ⟨rfl, rfl⟩
    refine ⟨_, rfl, trivial, ?_⟩
    go_simp
    refine held_one 4 rfl rfl (by kernel_rfl) ?_
    go_simp
    refine held_one 7 rfl rfl (by kernel_rfl) ?_
    go_simp
    rw [Hbit.out]
    refine held_one 8 rfl rfl (by kernel_rfl) ?_
    go_simp
    refine held_one 9 rfl rfl (by kernel_rfl) ?_
    go_simp
    refine held_done (by kernel_rfl) (NoPanic.normal ?_)
    go_wp2
    go_end0
    exact ⟨rfl, by rw [Hr.out]; exact HS.out _, HCS.out _⟩

set_option maxRecDepth 20000 in
set_option maxHeartbeats 1000000 in
theorem bput_off (w : World) (xs : List Int) (m base g cap : Nat) (hB : Byt xs) (hl : xs.length ≤ 2048) (hm : m < 8 * xs.length)
    (hO : OwnB w base 5 (.slice (some ⟨g, 0, none⟩) xs.length cap) xs) :
    Calls Tryd.prog 52 #[.slice (some ⟨g, 0, none⟩) xs.length cap, .int .i64 m, .bool false] w fun e w' => e = .returned (.tuple #[]) ∧ OwnB w' base 5 (.slice (some ⟨g, 0, none⟩) xs.length cap) (xs.set (m / 8) (putBit (xs.getD (m / 8) 0) (m % 8) false)) ∧ Chg g (g + 1) w w' := by
  have hb := hB.getD (m / 8)
  obtain ⟨y, hy⟩ : ∃ y : Nat, xs.getD (m / 8) 0 = y := ⟨(xs.getD (m / 8) 0).toNat, by omega⟩
  have HY : Hid (xs.getD (m / 8) 0 = y) := hy
  rw [hy] at hb ⊢
  have hq : ((m / 8 : Nat) : Int) < (xs.length : Int) := by omega
  have hr : m % 8 < 8 := by omega
  have hM := fun w => maskOf_calls w m
  obtain ⟨r, Hr⟩ : ∃ r : Nat, Hid (m % 8 = r) := ⟨_, rfl⟩
  rw [Hr.out] at hr hM
  have hO' : OwnB w.drew base 5 (.slice (some ⟨g, 0, none⟩) xs.length cap) xs := hO.chg (Chg.drew (Chg.refl 0 0 w)) (by intro g _; omega)
  have HC : Hid (Chg g (g + 1) w w.drew) := Chg.drew (Chg.refl _ _ w)
  have C1 : w.drew.cell? ⟨g, m / 8, none⟩ = some (.int .u8 y) := by
    have := World.ownsRow.cellAt hO' (m / 8) (by omega)
    rw [this, List.getElem?_map]
    have e : xs[m / 8]? = some (y : Int) := by
      have := HY.out
      rw [List.getD_eq_getElem?_getD] at this
      rw [List.getElem?_eq_getElem (by omega)] at this ⊢
      exact congrArg some this
    rw [e]; rfl
  have C2 : w.drew.frozen? ⟨g, m / 8, none⟩ = false := World.ownsRow.frozenAt hO' (m / 8)
  have Hbit : Hid (bits BinOp.andNot IntKind.u8 (y : Int) (2 ^ r) = putBit y r false) := andNot_mask (by omega) hr
  have HS : Hid (∀ (z : Int), OwnB (w.drew.setCell ⟨g, m / 8, none⟩ (.int .u8 z)) base 5 (.slice (some ⟨g, 0, none⟩) xs.length cap) (xs.set (m / 8) z)) := fun z => OwnB.putAt hO' rfl (m / 8) z
  have HCS : Hid (∀ (z : Int), Chg g (g + 1) w (w.drew.setCell ⟨g, m / 8, none⟩ (.int .u8 z))) := fun z => Chg.setCell HC.out (Or.inl ⟨Nat.le_refl _, Nat.lt_succ_self _⟩) _
  have hk : (m : Int) / 8 = ((m / 8 : Nat) : Int) := by omega
  have Hk : Hid (m / 8 < 2048) := by show _ < _; omega
  generalize m / 8 = k at *
  have hk2 := Hk.out
  have hkw : IntKind.i64.wrap (k : Int) = (k : Int) := by rw [IntKind.wrap_i64]; omega
  clear hy hO hO' hB
  go_enter Tryd.func52, Tryd.ntmps52
  go_wp2
  refine held_region (fun _ => True) (by kernel_rfl) ?_
  generalize w.drew = wd at *
  refine held_take 0 (.slice (some ⟨g, 0, none⟩) xs.length cap) rfl (by kernel_rfl) (by kernel_rfl) (by kernel_rfl) (fun _ _ _ h => h) (.inl ⟨by kernel_rfl, fun w' hw' => by go_simp⟩) trivial ?_
  go_simp
  refine held_take 1 (.int .i64 m) rfl (by kernel_rfl) (by kernel_rfl) (by kernel_rfl) (fun _ _ _ h => h) (.inl ⟨by kernel_rfl, fun w' hw' => by go_simp⟩) trivial ?_
  go_simp
  refine held_take 2 (.int .i64 k) rfl (by kernel_rfl) (by kernel_rfl) (by kernel_rfl) (fun _ _ _ h => h) (.inl ⟨by kernel_rfl, fun w' hw' => by go_simp⟩) trivial ?_
  go_simp
  refine held_take 3 (.pointer (some ⟨g, k, none⟩)) rfl (by kernel_rfl) (by kernel_rfl) (by kernel_rfl) (fun _ _ _ h => h) (.inl ⟨by kernel_rfl, fun w' hw' => by go_simp⟩) trivial ?_
  go_simp
  refine held_take 5 (.int .i64 m) rfl (by kernel_rfl) (by kernel_rfl) (by kernel_rfl) (fun _ _ _ h => h) (.inl ⟨by kernel_rfl, fun w' hw' => by go_simp⟩) trivial ?_
  go_simp
  refine held_two 4 6 rfl rfl rfl rfl (by kernel_rfl) ?_ ?_
  · go_simp
    refine held_one 6 rfl rfl (by kernel_rfl) ?_
    refine wp_enter 65 #[.int .i64 m] (by first | kernel_rfl | go_simp) (hM _) ?_
    rintro e w2 ⟨rfl, rfl⟩
    refine ⟨_, rfl, trivial, ?_⟩
    go_simp
    refine held_one 7 rfl rfl (by kernel_rfl) ?_
    go_simp
    rw [Hbit.out]
    refine held_one 8 rfl rfl (by kernel_rfl) ?_
    go_simp
    refine held_one 9 rfl rfl (by kernel_rfl) ?_
    go_simp
    refine held_done (by kernel_rfl) (NoPanic.normal ?_)
    go_wp2
    go_end0
    exact ⟨rfl, by rw [Hr.out]; exact HS.out _, HCS.out _⟩
  · refine wp_enter 65 #[.int .i64 m] (by first | kernel_rfl | go_simp) (hM _) ?_
    rintro e w2 ⟨rfl, rfl⟩
    refine ⟨_, rfl, trivial, ?_⟩
    go_simp
    refine held_one 4 rfl rfl (by kernel_rfl) ?_
    go_simp
    refine held_one 7 rfl rfl (by kernel_rfl) ?_
    go_simp
    rw [Hbit.out]
    refine held_one 8 rfl rfl (by kernel_rfl) ?_
    go_simp
    refine held_one 9 rfl rfl (by kernel_rfl) ?_
    go_simp
    refine held_done (by kernel_rfl) (NoPanic.normal ?_)
    go_wp2
    go_end0
    exact ⟨rfl, by rw [Hr.out]; exact HS.out _, HCS.out _⟩

theorem put_calls (w : World) (xs : List Int) (m base g cap : Nat) (on : Bool) (hB : Byt xs) (hl : xs.length ≤ 2048) (hm : m < 8 * xs.length)
    (hO : OwnB w base 5 (.slice (some ⟨g, 0, none⟩) xs.length cap) xs) :
    Calls Tryd.prog 52 #[.slice (some ⟨g, 0, none⟩) xs.length cap, .int .i64 m, .bool on] w fun e w' => e = .returned (.tuple #[]) ∧ OwnB w' base 5 (.slice (some ⟨g, 0, none⟩) xs.length cap) (xs.set (m / 8) (putBit (xs.getD (m / 8) 0) (m % 8) on)) ∧ Chg g (g + 1) w w' := by
  cases on
  · exact bput_off w xs m base g cap hB hl hm hO
  · exact bput_on w xs m base g cap hB hl hm hO

end Go.Proofs.YtmfkgnifkkkkiaaDoor

namespace Go.Proofs.YtmfkgnifkkkkiaaDoor
open Go.RowKit

/-- The bounds, cut to the bits. -/
def cutA (n : Nat) (f : Int) : Nat := (min (max f 0) (8 * (n : Int))).toNat
def cutE (n : Nat) (f t : Int) : Nat := (min (max t (cutA n f)) (8 * (n : Int))).toNat

theorem tup2' {a a' b b' : Int} (h1 : a = a') (h2 : b = b') : Ending.returned (.tuple #[.int .i64 a, .int .i64 b]) = .returned (.tuple #[.int .i64 a', .int .i64 b']) := by rw [h1, h2]

set_option maxRecDepth 20000 in
set_option maxHeartbeats 400000 in
theorem bwithin_calls (w : World) (ao : Option Addr) (n cap : Nat) (f t : Int) (hl : n ≤ 2048) :
    Calls Tryd.prog 66 #[.slice ao n cap, .int .i64 f, .int .i64 t] w fun e w' => e = .returned (.tuple #[.int .i64 (cutA n f), .int .i64 (cutE n f t)]) ∧ w' = w := by
  have hS := fun w => size_calls w ao n cap hl
  go_enter Tryd.func66, Tryd.ntmps66
  go_wp2_with (go_at_call 54; refine (hS _).mono ?_; rintro e w1 ⟨rfl, rfl⟩)
  all_goals
    go_ret2
    refine ⟨tup2' ?_ ?_, rfl⟩
  all_goals
    simp only [cutA, cutE]
    omega

/-- The first place from i on that is as asked; n ahead are looked at. -/
def nxtB (ys : List Int) (on : Bool) : Nat → Nat → Nat
  | i, 0 => i
  | i, n + 1 => if bitN ys i = on then i else nxtB ys on (i + 1) n

theorem nxtB_hit {ys : List Int} {on : Bool} {i n : Nat} (h : bitN ys i = on) : nxtB ys on i n = i := by
  cases n with
  | zero => rfl
  | succ n => unfold nxtB; rw [if_pos h]
theorem nxtB_skip {ys : List Int} {on : Bool} : ∀ (m i n : Nat), (∀ k, k < m → bitN ys (i + k) ≠ on) → nxtB ys on i (m + n) = nxtB ys on (i + m) n
  | 0, i, n, _ => by rw [Nat.zero_add]; rfl
  | m + 1, i, n, h => by
    have h0 : bitN ys i ≠ on := h 0 (by omega)
    rw [show m + 1 + n = (m + n) + 1 by omega, show nxtB ys on i (m + n + 1) = nxtB ys on (i + 1) (m + n) from by show (if _ then _ else _) = _; rw [if_neg h0], nxtB_skip m (i + 1) n (fun k hk => by have := h (k + 1) (by omega); rwa [show i + (k + 1) = i + 1 + k by omega] at this)]
    rw [show i + 1 + m = i + (m + 1) by omega]
theorem nxtB_bounds {ys : List Int} {on : Bool} : ∀ (n i : Nat), i ≤ nxtB ys on i n ∧ nxtB ys on i n ≤ i + n
  | 0, i => ⟨Nat.le_refl _, Nat.le_refl _⟩
  | n + 1, i => by
    unfold nxtB
    split
    · omega
    · have := nxtB_bounds (ys := ys) (on := on) n (i + 1); omega
theorem nxtB_ahead {ys : List Int} {on : Bool} : ∀ (n i k : Nat), i ≤ k → k < nxtB ys on i n → bitN ys k ≠ on
  | 0, i, k, h1, h2 => by have : nxtB ys on i 0 = i := rfl; omega
  | n + 1, i, k, h1, h2 => by
    unfold nxtB at h2
    by_cases h : bitN ys i = on
    · rw [if_pos h] at h2; omega
    · rw [if_neg h] at h2
      by_cases e : k = i
      · rw [e]; exact h
      · exact nxtB_ahead n (i + 1) k (by omega) h2
theorem nxtB_at {ys : List Int} {on : Bool} : ∀ (n i : Nat), nxtB ys on i n < i + n → bitN ys (nxtB ys on i n) = on
  | 0, i, h => by have : nxtB ys on i 0 = i := rfl; omega
  | n + 1, i, h => by
    unfold nxtB at h ⊢
    by_cases h' : bitN ys i = on
    · rw [if_pos h']; exact h'
    · rw [if_neg h'] at h ⊢
      exact nxtB_at n (i + 1) (by omega)

/-- What 'next' tells from i on. -/
def nextAt (ys : List Int) (on : Bool) (E i : Nat) : Nat := if i < E then nxtB ys on i (E - i) else E

/-- A byte from bit r on. -/
def zB (y r : Nat) (on : Bool) : Nat := (if on then y else 255 - y) / 2 ^ r
theorem zB_facts : ∀ y : Fin 256, ∀ r : Fin 8, ∀ on : Bool, (zB y.val r.val on = 0 → ∀ q : Fin 8, r ≤ q → decide (y.val / 2 ^ q.val % 2 = 1) ≠ on) ∧
    (zB y.val r.val on ≠ 0 → r.val + Lib.trailingZeros8 (zB y.val r.val on) < 8 ∧ decide (y.val / 2 ^ (r.val + Lib.trailingZeros8 (zB y.val r.val on)) % 2 = 1) = on ∧
      ∀ q : Fin 8, r ≤ q → q.val < r.val + Lib.trailingZeros8 (zB y.val r.val on) → decide (y.val / 2 ^ q.val % 2 = 1) ≠ on) := by decide +kernel
theorem zB_lt {y r : Nat} (on : Bool) (hy : y < 256) : zB y r on < 256 := by
  unfold zB
  refine Nat.lt_of_le_of_lt (Nat.div_le_self _ _) ?_
  split <;> omega

theorem nextAt_zero {ys : List Int} {on : Bool} {E i y : Nat} (hy : ys.getD (i / 8) 0 = y) (hy2 : y < 256) (hi : i < E) (hz : zB y (i % 8) on = 0) : nextAt ys on E i = nextAt ys on E (i + (8 - i % 8)) := by
  have hr : i % 8 < 8 := by omega
  have H := (zB_facts ⟨y, hy2⟩ ⟨i % 8, hr⟩ on).1 hz
  have hB : ∀ k, k < 8 - i % 8 → bitN ys (i + k) ≠ on := by
    intro k hk
    have := H ⟨i % 8 + k, by omega⟩ (by show i % 8 ≤ i % 8 + k; omega)
    unfold bitN
    rw [show (i + k) / 8 = i / 8 by omega, show (i + k) % 8 = i % 8 + k by omega, hy]
    exact this
  unfold nextAt
  rw [if_pos hi]
  by_cases h2 : i + (8 - i % 8) < E
  · rw [if_pos h2, show E - i = (8 - i % 8) + (E - (i + (8 - i % 8))) by omega, nxtB_skip _ _ _ hB]
  · rw [if_neg h2, show E - i = (E - i) + 0 by omega, nxtB_skip _ _ _ (fun k hk => hB k (by omega))]
    show i + (E - i) = E
    omega

theorem nextAt_hit {ys : List Int} {on : Bool} {E i y : Nat} (hy : ys.getD (i / 8) 0 = y) (hy2 : y < 256) (hi : i < E) (hz : zB y (i % 8) on ≠ 0) : nextAt ys on E i = min (i + Lib.trailingZeros8 (zB y (i % 8) on)) E := by
  have hr : i % 8 < 8 := by omega
  obtain ⟨h1, h2, h3⟩ := (zB_facts ⟨y, hy2⟩ ⟨i % 8, hr⟩ on).2 hz
  generalize Lib.trailingZeros8 (zB y (i % 8) on) = d at *
  simp only at h1 h2 h3
  have hB : ∀ k, k < d → bitN ys (i + k) ≠ on := by
    intro k hk
    have := h3 ⟨i % 8 + k, by omega⟩ (by show i % 8 ≤ i % 8 + k; omega) (by show i % 8 + k < i % 8 + d; omega)
    unfold bitN
    rw [show (i + k) / 8 = i / 8 by omega, show (i + k) % 8 = i % 8 + k by omega, hy]
    exact this
  have hd : bitN ys (i + d) = on := by
    unfold bitN
    rw [show (i + d) / 8 = i / 8 by omega, show (i + d) % 8 = i % 8 + d by omega, hy]
    exact h2
  unfold nextAt
  rw [if_pos hi]
  by_cases h : i + d < E
  · rw [show E - i = d + (E - (i + d)) by omega, nxtB_skip _ _ _ hB, nxtB_hit hd, Nat.min_eq_left (by omega)]
  · rw [show E - i = (E - i) + 0 by omega, nxtB_skip _ _ _ (fun k hk => hB k (by omega)), Nat.min_eq_right (by omega)]
    show i + (E - i) = E
    omega

end Go.Proofs.YtmfkgnifkkkkiaaDoor
