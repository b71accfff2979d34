/- BitPut of the program: a bit is put. -/
import Derived.Test.YtgmpggloonkfnaaBitPutSpec
import Derived.Test.YtgmpggloonkfnaaImplBM
import Derived.Test.YtgmpggloonkfnaaWeak
import Derived.Test.YtgmpggloonkfnaaHeld
namespace Go.Proofs.Ytgmpggloonkfnaa
open Go.RowKit

theorem or_mask_all : ∀ y : Fin 256, ∀ r : Fin 8, bits BinOp.or IntKind.u8 ((y.val : Nat) : Int) ((2 ^ r.val : Nat) : Int) = putBit ((y.val : Nat) : Int) r.val true := by decide +kernel
theorem andNot_mask_all : ∀ y : Fin 256, ∀ r : Fin 8, bits BinOp.andNot IntKind.u8 ((y.val : Nat) : Int) ((2 ^ r.val : Nat) : Int) = putBit ((y.val : Nat) : Int) r.val false := by decide +kernel
theorem or_mask {y r : Nat} (hy : y < 256) (hr : r < 8) : bits BinOp.or IntKind.u8 (y : Int) (2 ^ r) = putBit y r true := by
  have h := or_mask_all ⟨y, hy⟩ ⟨r, hr⟩
  rw [show (2 : Int) ^ r = ((2 ^ r : Nat) : Int) by simp]
  exact h
theorem andNot_mask {y r : Nat} (hy : y < 256) (hr : r < 8) : bits BinOp.andNot IntKind.u8 (y : Int) (2 ^ r) = putBit y r false := by
  have h := andNot_mask_all ⟨y, hy⟩ ⟨r, hr⟩
  rw [show (2 : Int) ^ r = ((2 ^ r : Nat) : Int) by simp]
  exact h

set_option maxRecDepth 20000 in
set_option maxHeartbeats 1000000 in
theorem bput_on (w : World) (xs : List Int) (m base g cap : Nat) (hB : Byt xs) (hl : xs.length ≤ 2048) (hm : m < 8 * xs.length)
    (hO : OwnB w base 5 (.slice (some ⟨g, 0, none⟩) xs.length cap) xs) :
    Calls Try.prog 20 #[.slice (some ⟨g, 0, none⟩) xs.length cap, .int .i64 m, .bool true] w fun e w' => e = .returned (.tuple #[]) ∧ OwnB w' base 5 (.slice (some ⟨g, 0, none⟩) xs.length cap) (xs.set (m / 8) (putBit (xs.getD (m / 8) 0) (m % 8) true)) ∧ Chg g (g + 1) w w' := by
  have hb := hB.getD (m / 8)
  obtain ⟨y, hy⟩ : ∃ y : Nat, xs.getD (m / 8) 0 = y := ⟨(xs.getD (m / 8) 0).toNat, by omega⟩
  have HY : Hid (xs.getD (m / 8) 0 = y) := hy
  rw [hy] at hb ⊢
  have hq : ((m / 8 : Nat) : Int) < (xs.length : Int) := by omega
  have hr : m % 8 < 8 := by omega
  have hM := fun w => maskOf_calls w m
  obtain ⟨r, Hr⟩ : ∃ r : Nat, Hid (m % 8 = r) := ⟨_, rfl⟩
  rw [Hr.out] at hr hM
  have hO' : OwnB w.drew base 5 (.slice (some ⟨g, 0, none⟩) xs.length cap) xs := hO.chg (Chg.drew (Chg.refl 0 0 w)) (by intro g _; omega)
  have HC : Hid (Chg g (g + 1) w w.drew) := Chg.drew (Chg.refl _ _ w)
  have C1 : w.drew.cell? ⟨g, m / 8, none⟩ = some (.int .u8 y) := by
    have := World.ownsRow.cellAt hO' (m / 8) (by omega)
    rw [this, List.getElem?_map]
    have e : xs[m / 8]? = some (y : Int) := by
      have := HY.out
      rw [List.getD_eq_getElem?_getD] at this
      rw [List.getElem?_eq_getElem (by omega)] at this ⊢
      exact congrArg some this
    rw [e]; rfl
  have C2 : w.drew.frozen? ⟨g, m / 8, none⟩ = false := World.ownsRow.frozenAt hO' (m / 8)
  have Hbit : Hid (bits BinOp.or IntKind.u8 (y : Int) (2 ^ r) = putBit y r true) := or_mask (by omega) hr
  have HS : Hid (∀ (z : Int), OwnB (w.drew.setCell ⟨g, m / 8, none⟩ (.int .u8 z)) base 5 (.slice (some ⟨g, 0, none⟩) xs.length cap) (xs.set (m / 8) z)) := fun z => OwnB.putAt hO' rfl (m / 8) z
  have HCS : Hid (∀ (z : Int), Chg g (g + 1) w (w.drew.setCell ⟨g, m / 8, none⟩ (.int .u8 z))) := fun z => Chg.setCell HC.out (Or.inl ⟨Nat.le_refl _, Nat.lt_succ_self _⟩) _
  have hk : (m : Int) / 8 = ((m / 8 : Nat) : Int) := by omega
  have Hk : Hid (m / 8 < 2048) := by show _ < _; omega
  generalize m / 8 = k at *
  have hk2 := Hk.out
  have hkw : IntKind.i64.wrap (k : Int) = (k : Int) := by rw [IntKind.wrap_i64]; omega
  clear hy hO hO' hB
  go_enter Try.func20, Try.ntmps20
  go_wp2
  refine held_region (fun _ => True) (by kernel_rfl) ?_
  generalize w.drew = wd at *
  refine held_take 0 (.slice (some ⟨g, 0, none⟩) xs.length cap) rfl (by kernel_rfl) (by kernel_rfl) (by kernel_rfl) (fun _ _ _ h => h) (.inl ⟨by kernel_rfl, fun w' hw' => by go_simp⟩) trivial ?_
  go_simp
  refine held_take 1 (.int .i64 m) rfl (by kernel_rfl) (by kernel_rfl) (by kernel_rfl) (fun _ _ _ h => h) (.inl ⟨by kernel_rfl, fun w' hw' => by go_simp⟩) trivial ?_
  go_simp
  refine held_take 2 (.int .i64 k) rfl (by kernel_rfl) (by kernel_rfl) (by kernel_rfl) (fun _ _ _ h => h) (.inl ⟨by kernel_rfl, fun w' hw' => by go_simp⟩) trivial ?_
  go_simp
  refine held_take 3 (.pointer (some ⟨g, k, none⟩)) rfl (by kernel_rfl) (by kernel_rfl) (by kernel_rfl) (fun _ _ _ h => h) (.inl ⟨by kernel_rfl, fun w' hw' => by go_simp⟩) trivial ?_
  go_simp
  refine held_take 5 (.int .i64 m) rfl (by kernel_rfl) (by kernel_rfl) (by kernel_rfl) (fun _ _ _ h => h) (.inl ⟨by kernel_rfl, fun w' hw' => by go_simp⟩) trivial ?_
  go_simp
  refine held_two 4 6 rfl rfl rfl rfl (by kernel_rfl) ?_ ?_
  · go_simp
    refine held_one 6 rfl rfl (by kernel_rfl) ?_
    refine wp_enter 28 #[.int .i64 m] (by first | kernel_rfl | go_simp) (hM _) ?_
    rintro e w2 ⟨rfl, rfl⟩
    refine ⟨_, rfl, trivial, ?_⟩
    go_simp
    refine held_one 7 rfl rfl (by kernel_rfl) ?_
    go_simp
    rw [Hbit.out]
    refine held_one 8 rfl rfl (by kernel_rfl) ?_
    go_simp
    refine held_one 9 rfl rfl (by kernel_rfl) ?_
    go_simp
    refine held_done (by kernel_rfl) (NoPanic.normal ?_)
    go_wp2
    go_end0
    exact ⟨rfl, by rw [Hr.out]; exact HS.out _, HCS.out _⟩
  · refine wp_enter 28 #[.int .i64 m] (by first | kernel_rfl | go_simp) (hM _) ?_
    rintro e w2 ⟨rfl, rfl⟩
    refine ⟨_, rfl, trivial, ?_⟩
    go_simp
    refine held_one 4 rfl rfl (by kernel_rfl) ?_
    go_simp
    refine held_one 7 rfl rfl (by kernel_rfl) ?_
    go_simp
    rw [Hbit.out]
    refine held_one 8 rfl rfl (by kernel_rfl) ?_
    go_simp
    refine held_one 9 rfl rfl (by kernel_rfl) ?_
    go_simp
    refine held_done (by kernel_rfl) (NoPanic.normal ?_)
    go_wp2
    go_end0
    exact ⟨rfl, by rw [Hr.out]; exact HS.out _, HCS.out _⟩

set_option maxRecDepth 20000 in
set_option maxHeartbeats 1000000 in
theorem bput_off (w : World) (xs : List Int) (m base g cap : Nat) (hB : Byt xs) (hl : xs.length ≤ 2048) (hm : m < 8 * xs.length)
    (hO : OwnB w base 5 (.slice (some ⟨g, 0, none⟩) xs.length cap) xs) :
    Calls Try.prog 20 #[.slice (some ⟨g, 0, none⟩) xs.length cap, .int .i64 m, .bool false] w fun e w' => e = .returned (.tuple #[]) ∧ OwnB w' base 5 (.slice (some ⟨g, 0, none⟩) xs.length cap) (xs.set (m / 8) (putBit (xs.getD (m / 8) 0) (m % 8) false)) ∧ Chg g (g + 1) w w' := by
  have hb := hB.getD (m / 8)
  obtain ⟨y, hy⟩ : ∃ y : Nat, xs.getD (m / 8) 0 = y := ⟨(xs.getD (m / 8) 0).toNat, by omega⟩
  have HY : Hid (xs.getD (m / 8) 0 = y) := hy
  rw [hy] at hb ⊢
  have hq : ((m / 8 : Nat) : Int) < (xs.length : Int) := by omega
  have hr : m % 8 < 8 := by omega
  have hM := fun w => maskOf_calls w m
  obtain ⟨r, Hr⟩ : ∃ r : Nat, Hid (m % 8 = r) := ⟨_, rfl⟩
  rw [Hr.out] at hr hM
  have hO' : OwnB w.drew base 5 (.slice (some ⟨g, 0, none⟩) xs.length cap) xs := hO.chg (Chg.drew (Chg.refl 0 0 w)) (by intro g _; omega)
  have HC : Hid (Chg g (g + 1) w w.drew) := Chg.drew (Chg.refl _ _ w)
  have C1 : w.drew.cell? ⟨g, m / 8, none⟩ = some (.int .u8 y) := by
    have := World.ownsRow.cellAt hO' (m / 8) (by omega)
    rw [this, List.getElem?_map]
    have e : xs[m / 8]? = some (y : Int) := by
      have := HY.out
      rw [List.getD_eq_getElem?_getD] at this
      rw [List.getElem?_eq_getElem (by omega)] at this ⊢
      exact congrArg some this
    rw [e]; rfl
  have C2 : w.drew.frozen? ⟨g, m / 8, none⟩ = false := World.ownsRow.frozenAt hO' (m / 8)
  have Hbit : Hid (bits BinOp.andNot IntKind.u8 (y : Int) (2 ^ r) = putBit y r false) := andNot_mask (by omega) hr
  have HS : Hid (∀ (z : Int), OwnB (w.drew.setCell ⟨g, m / 8, none⟩ (.int .u8 z)) base 5 (.slice (some ⟨g, 0, none⟩) xs.length cap) (xs.set (m / 8) z)) := fun z => OwnB.putAt hO' rfl (m / 8) z
  have HCS : Hid (∀ (z : Int), Chg g (g + 1) w (w.drew.setCell ⟨g, m / 8, none⟩ (.int .u8 z))) := fun z => Chg.setCell HC.out (Or.inl ⟨Nat.le_refl _, Nat.lt_succ_self _⟩) _
  have hk : (m : Int) / 8 = ((m / 8 : Nat) : Int) := by omega
  have Hk : Hid (m / 8 < 2048) := by show _ < _; omega
  generalize m / 8 = k at *
  have hk2 := Hk.out
  have hkw : IntKind.i64.wrap (k : Int) = (k : Int) := by rw [IntKind.wrap_i64]; omega
  clear hy hO hO' hB
  go_enter Try.func20, Try.ntmps20
  go_wp2
  refine held_region (fun _ => True) (by kernel_rfl) ?_
  generalize w.drew = wd at *
  refine held_take 0 (.slice (some ⟨g, 0, none⟩) xs.length cap) rfl (by kernel_rfl) (by kernel_rfl) (by kernel_rfl) (fun _ _ _ h => h) (.inl ⟨by kernel_rfl, fun w' hw' => by go_simp⟩) trivial ?_
  go_simp
  refine held_take 1 (.int .i64 m) rfl (by kernel_rfl) (by kernel_rfl) (by kernel_rfl) (fun _ _ _ h => h) (.inl ⟨by kernel_rfl, fun w' hw' => by go_simp⟩) trivial ?_
  go_simp
  refine held_take 2 (.int .i64 k) rfl (by kernel_rfl) (by kernel_rfl) (by kernel_rfl) (fun _ _ _ h => h) (.inl ⟨by kernel_rfl, fun w' hw' => by go_simp⟩) trivial ?_
  go_simp
  refine held_take 3 (.pointer (some ⟨g, k, none⟩)) rfl (by kernel_rfl) (by kernel_rfl) (by kernel_rfl) (fun _ _ _ h => h) (.inl ⟨by kernel_rfl, fun w' hw' => by go_simp⟩) trivial ?_
  go_simp
  refine held_take 5 (.int .i64 m) rfl (by kernel_rfl) (by kernel_rfl) (by kernel_rfl) (fun _ _ _ h => h) (.inl ⟨by kernel_rfl, fun w' hw' => by go_simp⟩) trivial ?_
  go_simp
  refine held_two 4 6 rfl rfl rfl rfl (by kernel_rfl) ?_ ?_
  · go_simp
    refine held_one 6 rfl rfl (by kernel_rfl) ?_
    refine wp_enter 28 #[.int .i64 m] (by first | kernel_rfl | go_simp) (hM _) ?_
    rintro e w2 ⟨rfl, rfl⟩
    refine ⟨_, rfl, trivial, ?_⟩
    go_simp
    refine held_one 7 rfl rfl (by kernel_rfl) ?_
    go_simp
    rw [Hbit.out]
    refine held_one 8 rfl rfl (by kernel_rfl) ?_
    go_simp
    refine held_one 9 rfl rfl (by kernel_rfl) ?_
    go_simp
    refine held_done (by kernel_rfl) (NoPanic.normal ?_)
    go_wp2
    go_end0
    exact ⟨rfl, by rw [Hr.out]; exact HS.out _, HCS.out _⟩
  · refine wp_enter 28 #[.int .i64 m] (by first | kernel_rfl | go_simp) (hM _) ?_
    rintro e w2 ⟨rfl, rfl⟩
    refine ⟨_, rfl, trivial, ?_⟩
    go_simp
    refine held_one 4 rfl rfl (by kernel_rfl) ?_
    go_simp
    refine held_one 7 rfl rfl (by kernel_rfl) ?_
    go_simp
    rw [Hbit.out]
    refine held_one 8 rfl rfl (by kernel_rfl) ?_
    go_simp
    refine held_one 9 rfl rfl (by kernel_rfl) ?_
    go_simp
    refine held_done (by kernel_rfl) (NoPanic.normal ?_)
    go_wp2
    go_end0
    exact ⟨rfl, by rw [Hr.out]; exact HS.out _, HCS.out _⟩

theorem put_calls (w : World) (xs : List Int) (m base g cap : Nat) (on : Bool) (hB : Byt xs) (hl : xs.length ≤ 2048) (hm : m < 8 * xs.length)
    (hO : OwnB w base 5 (.slice (some ⟨g, 0, none⟩) xs.length cap) xs) :
    Calls Try.prog 20 #[.slice (some ⟨g, 0, none⟩) xs.length cap, .int .i64 m, .bool on] w fun e w' => e = .returned (.tuple #[]) ∧ OwnB w' base 5 (.slice (some ⟨g, 0, none⟩) xs.length cap) (xs.set (m / 8) (putBit (xs.getD (m / 8) 0) (m % 8) on)) ∧ Chg g (g + 1) w w' := by
  cases on
  · exact bput_off w xs m base g cap hB hl hm hO
  · exact bput_on w xs m base g cap hB hl hm hO

end Go.Proofs.Ytgmpggloonkfnaa
