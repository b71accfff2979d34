/- l14Number of the model. (made by tools/mknumspec.py) -/
import Derived.Test.YteaeikmgkmpkiaaGreatDoorNumMath
import Derived.Laws.Strings2
import Derived.Laws.Strings3
namespace Go.Proofs.YteaeikmgkmpkiaaGreatDoor
open Go.RowKit Go.Lib

theorem text_eq (a b : ByteArray) : a.toList = b.toList ↔ a = b := by
  rw [ByteArray.toList_eq, ByteArray.toList_eq]
  constructor
  · intro h
    apply ByteArray.ext
    apply Array.ext'
    exact h
  · rintro rfl; rfl

theorem num_no {f : ByteArray} (h : ∀ n, numF f = some n → False) : numF f = none := by
  cases hn : numF f with
  | none => rfl
  | some n => exact absurd hn (fun e => h n e)

theorem dec_data (n : Int) : (dec n).data.toList = itoa n := by unfold dec; simp

/-- Of a field that begins with a sign, and is longer. -/
theorem num_neg {f d : ByteArray} (hf : f.data.toList = 45 :: d.data.toList) {n : Int} (h : numF f = some n) : d.data.toList = decDigits n.natAbs ∧ n = -(n.natAbs : Int) := by
  obtain ⟨_, _, b2⟩ := numF_is h
  rw [← b2, dec_data] at hf
  by_cases hn : n < 0
  · obtain ⟨u, rfl⟩ : ∃ u : Nat, n = -(u : Int) := ⟨n.natAbs, by omega⟩
    rw [itoa_neg u (by omega)] at hf
    injection hf with _ hf
    have e : (-(u : Int)).natAbs = u := by omega
    rw [e]
    exact ⟨hf.symm, rfl⟩
  · obtain ⟨u, rfl⟩ : ∃ u : Nat, n = (u : Int) := ⟨n.natAbs, by omega⟩
    rw [itoa_nonneg] at hf
    have := dig_dec u 45 (by rw [hf]; exact List.mem_cons_self ..)
    exact absurd this.1 (by decide)
theorem num_pos {f : ByteArray} (hf : ¬ (1 < f.size ∧ ∃ r, f.data.toList = 45 :: r)) {n : Int} (h : numF f = some n) : f.data.toList = decDigits n.natAbs ∧ n = (n.natAbs : Int) := by
  obtain ⟨b0, _, b2⟩ := numF_is h
  by_cases hn : n < 0
  · exfalso
    obtain ⟨u, rfl⟩ : ∃ u : Nat, n = -(u : Int) := ⟨n.natAbs, by omega⟩
    have e : f.data.toList = 45 :: decDigits u := by rw [← b2, dec_data, itoa_neg u (by omega)]
    refine hf ⟨?_, _, e⟩
    have := (len_dec 8 u (by omega)).1
    rw [Lib.size_eq, e, List.length_cons]
    omega
  · obtain ⟨u, rfl⟩ : ∃ u : Nat, n = (u : Int) := ⟨n.natAbs, by omega⟩
    rw [← b2, dec_data, itoa_nonneg]
    exact ⟨rfl, rfl⟩

set_option maxRecDepth 20000 in
set_option maxHeartbeats 8000000 in
theorem l14NumNeg_calls (w : World) (f d : ByteArray) (hl : f.size ≤ 1048576) (hs : 1 < f.size) (h45 : f[0].toNat = 45) (hdz : d.size < f.size) (hx : f.extract 1 f.size = d) (eD : f.data.toList = 45 :: d.data.toList) :
    Calls Tryz.prog 24 #[.string f] w fun e w' => e = .returned (.tuple #[.int .i64 ((numF f).getD 0), .bool (numF f).isSome]) ∧ Chg 0 0 w w' := by
  have hs1 : (1 : Int) < (f.size : Int) := by omega
  have hs2 : (1 : Int) ≤ (f.size : Int) := by omega
  have hs3 : (0 : Int) < (f.size : Int) := by omega
  have HC : Hid (∀ {n}, numF f = some n → d.data.toList = decDigits n.natAbs ∧ n = -(n.natAbs : Int)) := fun h => num_neg eD h
  clear eD
  have hdl : d.data.toList.length = d.size := by rw [← Lib.size_eq]
  by_cases hz : d.size < 1 ∨ 9 < d.size
  · have HNo : Hid (numF f = none) := by
      refine num_no fun n hn => ?_
      obtain ⟨e1, _⟩ := HC.out hn
      obtain ⟨b0, b1, _⟩ := numF_is hn
      have := len_dec 8 n.natAbs (by omega)
      rw [← e1, hdl] at this
      omega
    have hzi : (d.size : Int) < 1 ∨ 9 < (d.size : Int) := by omega
    clear hz
    rcases hzi with hzi | hzi
    all_goals
      go_enter Tryz.func24, Tryz.ntmps24
      go_wp2
      all_goals (go_ret2; exact ⟨by rw [HNo.out]; rfl, Chg.refl _ _ _⟩)
  have hz1 : ¬ (d.size : Int) < 1 := by omega
  have hz2 : ¬ 9 < (d.size : Int) := by omega
  go_enter Tryz.func24, Tryz.ntmps24
  go_wp2
  go_loop [5, 6] (fun x i => ∃ (k v : Nat), k ≤ d.size ∧ i = .int .i64 k ∧ x = .int .i64 (v : Int) ∧ v < 10 ^ k ∧ Hid (dvl 0 d.data.toList = dvl v (d.data.toList.drop k) ∧ ∀ j, j < k → ∀ (h : j < d.size), 48 ≤ d[j].toNat ∧ d[j].toNat ≤ 57)) (fun _ i => d.size - (RowKit.intOf i).toNat)
  case atStart => exact ⟨0, 0, Nat.zero_le _, rfl, rfl, by simp, rfl, fun j hj => absurd hj (Nat.not_lt_zero j)⟩
  case round =>
    obtain ⟨k, v, hk, rfl, rfl, hv, hh⟩ := hrel
    have hp9 : (10 : Nat) ^ k ≤ 10 ^ 9 := Nat.pow_le_pow_right (by omega) (by omega)
    by_cases hlt : k < d.size
    · have hi1 : (k : Int) < (d.size : Int) := by omega
      have hp8 : (10 : Nat) ^ k ≤ 10 ^ 8 := Nat.pow_le_pow_right (by omega) (by omega)
      have hc256 : d[k].toNat < 256 := d[k].toNat_lt
      have hdr : d.data.toList.drop k = d[k] :: d.data.toList.drop (k + 1) := List.drop_eq_getElem_cons (by omega)
      by_cases hd0 : d[k].toNat < 48
      · have HNo : Hid (numF f = none) := by
          refine num_no fun n hn => ?_
          obtain ⟨e1, _⟩ := HC.out hn
          have h1 := dig_dec n.natAbs d[k] (by rw [← e1]; exact List.mem_of_getElem (h := by omega) rfl)
          omega
        have hi2 : (d[k].toNat : Int) < 48 := by omega
        clear hh
        go_wp2
        go_ret2
        exact ⟨by rw [HNo.out]; rfl, Chg.refl _ _ _⟩
      by_cases hd1 : 57 < d[k].toNat
      · have HNo : Hid (numF f = none) := by
          refine num_no fun n hn => ?_
          obtain ⟨e1, _⟩ := HC.out hn
          have h1 := dig_dec n.natAbs d[k] (by rw [← e1]; exact List.mem_of_getElem (h := by omega) rfl)
          omega
        have hi2 : ¬ (d[k].toNat : Int) < 48 := by omega
        have hi3 : (57 : Int) < (d[k].toNat : Int) := by omega
        clear hh
        go_wp2
        go_ret2
        exact ⟨by rw [HNo.out]; rfl, Chg.refl _ _ _⟩
      have Hn : Hid (dvl 0 d.data.toList = dvl (v * 10 + (d[k].toNat - 48)) (d.data.toList.drop (k + 1)) ∧ ∀ j, j < k + 1 → ∀ (h : j < d.size), 48 ≤ d[j].toNat ∧ d[j].toNat ≤ 57) := by
        refine ⟨by rw [hh.out.1, hdr]; rfl, fun j hj h => ?_⟩
        by_cases e : j = k
        · subst e; omega
        · exact hh.out.2 j (by omega) h
      have hv2 : v * 10 + (d[k].toNat - 48) < 10 ^ (k + 1) := by rw [Nat.pow_succ]; omega
      have hi2 : ¬ (d[k].toNat : Int) < 48 := by omega
      have hi3 : ¬ (57 : Int) < (d[k].toNat : Int) := by omega
      clear hh hdr
      obtain ⟨c, hcs⟩ : ∃ c, d[k].toNat = c := ⟨_, rfl⟩
      rw [hcs] at Hn hv2 hi2 hi3 hc256 hd0 hd1
      have e1 : IntKind.u8.wrap ((c : Int) - 48) = (c : Int) - 48 := by rw [IntKind.wrap_u8]; omega
      have e2 : IntKind.i64.wrap ((c : Int) - 48) = (c : Int) - 48 := by rw [IntKind.wrap_i64]; omega
      have e3 : IntKind.i64.wrap ((v : Int) * 10) = (v : Int) * 10 := by rw [IntKind.wrap_i64]; omega
      have e4 : IntKind.i64.wrap ((v : Int) * 10 + ((c : Int) - 48)) = (v : Int) * 10 + ((c : Int) - 48) := by rw [IntKind.wrap_i64]; omega
      go_wp2
      refine ⟨⟨k + 1, v * 10 + (c - 48), by omega, by go_num, by congr 1; omega, hv2, Hn⟩, by simp [RowKit.intOf]; omega⟩
    · obtain rfl : k = d.size := by omega
      have hi1 : ¬ ((d.size : Nat) : Int) < (d.size : Int) := by omega
      have hval : v = dvl 0 d.data.toList := by
        have h1 := hh.out.1
        rw [List.drop_eq_nil_of_le (by omega)] at h1
        exact h1.symm
      have hD := l14Dec_calls w (-(v : Int)) (by omega) (by omega)
      have HNo : Hid (dec (-(v : Int)) ≠ f → numF f = none) := fun hne => by
        refine num_no fun n hn => ?_
        obtain ⟨e1, e2⟩ := HC.out hn
        obtain ⟨_, _, b2⟩ := numF_is hn
        rw [e1, dvl_dec] at hval
        rw [← hval] at e2
        exact hne (by rw [← e2]; exact b2)
      have HYes : Hid (dec (-(v : Int)) = f → numF f = some (-(v : Int))) := fun h => numF_some (by omega) (by omega) h
      clear hh hval
      have ew : IntKind.i64.wrap (-(v : Int)) = -(v : Int) := by rw [IntKind.wrap_i64]; omega
      have hcmp : (d.size : Int) < (f.size : Int) := by omega
      skip
      go_wp2_with fail
      refine hD.mono ?_
      rintro e w2 ⟨rfl, c2⟩
      have HC2 : Hid (Chg 0 0 w w2) := c2
      clear hD c2
      by_cases heq : dec (-(v : Int)) = f
      · have Hs := HYes.out heq
        have hb : ((dec (-(v : Int))).toList != f.toList) = false := by rw [heq]; simp
        have hb2 : ((dec (-(v : Int))).toList == f.toList) = true := by rw [heq]; simp
        generalize dec (-(v : Int)) = ds at *
        go_wp2
        go_ret2
        exact ⟨by rw [Hs]; rfl, HC2.out⟩
      · have Hs := HNo.out heq
        have hb : ((dec (-(v : Int))).toList != f.toList) = true := by rw [bne_iff_ne]; exact fun h => heq ((text_eq _ _).1 h)
        have hb2 : ((dec (-(v : Int))).toList == f.toList) = false := by rw [beq_eq_false_iff_ne]; exact fun h => heq ((text_eq _ _).1 h)
        generalize dec (-(v : Int)) = ds at *
        go_wp2
        go_ret2
        exact ⟨by rw [Hs]; rfl, HC2.out⟩

set_option maxRecDepth 20000 in
set_option maxHeartbeats 8000000 in
theorem l14NumPos_calls (w : World) (f : ByteArray) (hl : f.size ≤ 1048576) (hs : 1 < f.size) (h45 : ¬ f[0].toNat = 45) (HC : Hid (∀ {n}, numF f = some n → f.data.toList = decDigits n.natAbs ∧ n = (n.natAbs : Int))) :
    Calls Tryz.prog 24 #[.string f] w fun e w' => e = .returned (.tuple #[.int .i64 ((numF f).getD 0), .bool (numF f).isSome]) ∧ Chg 0 0 w w' := by
  have hs1 : (1 : Int) < (f.size : Int) := by omega
  have hs3 : (0 : Int) < (f.size : Int) := by omega
  have h45b : ((f[0].toNat : Int) == 45) = false := by rw [beq_eq_false_iff_ne]; omega
  have hdl : f.data.toList.length = f.size := by rw [← Lib.size_eq]
  by_cases hz : f.size < 1 ∨ 9 < f.size
  · have HNo : Hid (numF f = none) := by
      refine num_no fun n hn => ?_
      obtain ⟨e1, _⟩ := HC.out hn
      obtain ⟨b0, b1, _⟩ := numF_is hn
      have := len_dec 8 n.natAbs (by omega)
      rw [← e1, hdl] at this
      omega
    have hzi : (f.size : Int) < 1 ∨ 9 < (f.size : Int) := by omega
    clear hz
    rcases hzi with hzi | hzi
    all_goals
      go_enter Tryz.func24, Tryz.ntmps24
      go_wp2
      all_goals (go_ret2; exact ⟨by rw [HNo.out]; rfl, Chg.refl _ _ _⟩)
  have hz1 : ¬ (f.size : Int) < 1 := by omega
  have hz2 : ¬ 9 < (f.size : Int) := by omega
  go_enter Tryz.func24, Tryz.ntmps24
  go_wp2
  go_loop [5, 6] (fun x i => ∃ (k v : Nat), k ≤ f.size ∧ i = .int .i64 k ∧ x = .int .i64 (v : Int) ∧ v < 10 ^ k ∧ Hid (dvl 0 f.data.toList = dvl v (f.data.toList.drop k) ∧ ∀ j, j < k → ∀ (h : j < f.size), 48 ≤ f[j].toNat ∧ f[j].toNat ≤ 57)) (fun _ i => f.size - (RowKit.intOf i).toNat)
  case atStart => exact ⟨0, 0, Nat.zero_le _, rfl, rfl, by simp, rfl, fun j hj => absurd hj (Nat.not_lt_zero j)⟩
  case round =>
    obtain ⟨k, v, hk, rfl, rfl, hv, hh⟩ := hrel
    have hp9 : (10 : Nat) ^ k ≤ 10 ^ 9 := Nat.pow_le_pow_right (by omega) (by omega)
    by_cases hlt : k < f.size
    · have hi1 : (k : Int) < (f.size : Int) := by omega
      have hp8 : (10 : Nat) ^ k ≤ 10 ^ 8 := Nat.pow_le_pow_right (by omega) (by omega)
      have hc256 : f[k].toNat < 256 := f[k].toNat_lt
      have hdr : f.data.toList.drop k = f[k] :: f.data.toList.drop (k + 1) := List.drop_eq_getElem_cons (by omega)
      by_cases hd0 : f[k].toNat < 48
      · have HNo : Hid (numF f = none) := by
          refine num_no fun n hn => ?_
          obtain ⟨e1, _⟩ := HC.out hn
          have h1 := dig_dec n.natAbs f[k] (by rw [← e1]; exact List.mem_of_getElem (h := by omega) rfl)
          omega
        have hi2 : (f[k].toNat : Int) < 48 := by omega
        clear hh
        go_wp2
        go_ret2
        exact ⟨by rw [HNo.out]; rfl, Chg.refl _ _ _⟩
      by_cases hd1 : 57 < f[k].toNat
      · have HNo : Hid (numF f = none) := by
          refine num_no fun n hn => ?_
          obtain ⟨e1, _⟩ := HC.out hn
          have h1 := dig_dec n.natAbs f[k] (by rw [← e1]; exact List.mem_of_getElem (h := by omega) rfl)
          omega
        have hi2 : ¬ (f[k].toNat : Int) < 48 := by omega
        have hi3 : (57 : Int) < (f[k].toNat : Int) := by omega
        clear hh
        go_wp2
        go_ret2
        exact ⟨by rw [HNo.out]; rfl, Chg.refl _ _ _⟩
      have Hn : Hid (dvl 0 f.data.toList = dvl (v * 10 + (f[k].toNat - 48)) (f.data.toList.drop (k + 1)) ∧ ∀ j, j < k + 1 → ∀ (h : j < f.size), 48 ≤ f[j].toNat ∧ f[j].toNat ≤ 57) := by
        refine ⟨by rw [hh.out.1, hdr]; rfl, fun j hj h => ?_⟩
        by_cases e : j = k
        · subst e; omega
        · exact hh.out.2 j (by omega) h
      have hv2 : v * 10 + (f[k].toNat - 48) < 10 ^ (k + 1) := by rw [Nat.pow_succ]; omega
      have hi2 : ¬ (f[k].toNat : Int) < 48 := by omega
      have hi3 : ¬ (57 : Int) < (f[k].toNat : Int) := by omega
      clear hh hdr
      obtain ⟨c, hcs⟩ : ∃ c, f[k].toNat = c := ⟨_, rfl⟩
      rw [hcs] at Hn hv2 hi2 hi3 hc256 hd0 hd1
      have e1 : IntKind.u8.wrap ((c : Int) - 48) = (c : Int) - 48 := by rw [IntKind.wrap_u8]; omega
      have e2 : IntKind.i64.wrap ((c : Int) - 48) = (c : Int) - 48 := by rw [IntKind.wrap_i64]; omega
      have e3 : IntKind.i64.wrap ((v : Int) * 10) = (v : Int) * 10 := by rw [IntKind.wrap_i64]; omega
      have e4 : IntKind.i64.wrap ((v : Int) * 10 + ((c : Int) - 48)) = (v : Int) * 10 + ((c : Int) - 48) := by rw [IntKind.wrap_i64]; omega
      go_wp2
      refine ⟨⟨k + 1, v * 10 + (c - 48), by omega, by go_num, by congr 1; omega, hv2, Hn⟩, by simp [RowKit.intOf]; omega⟩
    · obtain rfl : k = f.size := by omega
      have hi1 : ¬ ((f.size : Nat) : Int) < (f.size : Int) := by omega
      have hval : v = dvl 0 f.data.toList := by
        have h1 := hh.out.1
        rw [List.drop_eq_nil_of_le (by omega)] at h1
        exact h1.symm
      have hD := l14Dec_calls w ((v : Int)) (by omega) (by omega)
      have HNo : Hid (dec ((v : Int)) ≠ f → numF f = none) := fun hne => by
        refine num_no fun n hn => ?_
        obtain ⟨e1, e2⟩ := HC.out hn
        obtain ⟨_, _, b2⟩ := numF_is hn
        rw [e1, dvl_dec] at hval
        rw [← hval] at e2
        exact hne (by rw [← e2]; exact b2)
      have HYes : Hid (dec ((v : Int)) = f → numF f = some ((v : Int))) := fun h => numF_some (by omega) (by omega) h
      clear hh hval
      skip
      have hcmp : ¬ (f.size : Int) < (f.size : Int) := by omega
      generalize (v : Int) = sv at *
      go_wp2_with fail
      refine hD.mono ?_
      rintro e w2 ⟨rfl, c2⟩
      have HC2 : Hid (Chg 0 0 w w2) := c2
      clear hD c2
      by_cases heq : dec sv = f
      · have Hs := HYes.out heq
        have hb : ((dec sv).toList != f.toList) = false := by rw [heq]; simp
        have hb2 : ((dec sv).toList == f.toList) = true := by rw [heq]; simp
        generalize dec sv = ds at *
        go_wp2
        go_ret2
        exact ⟨by rw [Hs]; rfl, HC2.out⟩
      · have Hs := HNo.out heq
        have hb : ((dec sv).toList != f.toList) = true := by rw [bne_iff_ne]; exact fun h => heq ((text_eq _ _).1 h)
        have hb2 : ((dec sv).toList == f.toList) = false := by rw [beq_eq_false_iff_ne]; exact fun h => heq ((text_eq _ _).1 h)
        generalize dec sv = ds at *
        go_wp2
        go_ret2
        exact ⟨by rw [Hs]; rfl, HC2.out⟩

set_option maxRecDepth 20000 in
set_option maxHeartbeats 8000000 in
theorem l14NumOne_calls (w : World) (f : ByteArray) (hs : ¬ 1 < f.size) (HC : Hid (∀ {n}, numF f = some n → f.data.toList = decDigits n.natAbs ∧ n = (n.natAbs : Int))) :
    Calls Tryz.prog 24 #[.string f] w fun e w' => e = .returned (.tuple #[.int .i64 ((numF f).getD 0), .bool (numF f).isSome]) ∧ Chg 0 0 w w' := by
  have hs1 : ¬ (1 : Int) < (f.size : Int) := by omega
  have hdl : f.data.toList.length = f.size := by rw [← Lib.size_eq]
  by_cases hz : f.size < 1 ∨ 9 < f.size
  · have HNo : Hid (numF f = none) := by
      refine num_no fun n hn => ?_
      obtain ⟨e1, _⟩ := HC.out hn
      obtain ⟨b0, b1, _⟩ := numF_is hn
      have := len_dec 8 n.natAbs (by omega)
      rw [← e1, hdl] at this
      omega
    have hzi : (f.size : Int) < 1 ∨ 9 < (f.size : Int) := by omega
    clear hz
    rcases hzi with hzi | hzi
    all_goals
      go_enter Tryz.func24, Tryz.ntmps24
      go_wp2
      all_goals (go_ret2; exact ⟨by rw [HNo.out]; rfl, Chg.refl _ _ _⟩)
  have hz1 : ¬ (f.size : Int) < 1 := by omega
  have hz2 : ¬ 9 < (f.size : Int) := by omega
  go_enter Tryz.func24, Tryz.ntmps24
  go_wp2
  go_loop [5, 6] (fun x i => ∃ (k v : Nat), k ≤ f.size ∧ i = .int .i64 k ∧ x = .int .i64 (v : Int) ∧ v < 10 ^ k ∧ Hid (dvl 0 f.data.toList = dvl v (f.data.toList.drop k) ∧ ∀ j, j < k → ∀ (h : j < f.size), 48 ≤ f[j].toNat ∧ f[j].toNat ≤ 57)) (fun _ i => f.size - (RowKit.intOf i).toNat)
  case atStart => exact ⟨0, 0, Nat.zero_le _, rfl, rfl, by simp, rfl, fun j hj => absurd hj (Nat.not_lt_zero j)⟩
  case round =>
    obtain ⟨k, v, hk, rfl, rfl, hv, hh⟩ := hrel
    have hp9 : (10 : Nat) ^ k ≤ 10 ^ 9 := Nat.pow_le_pow_right (by omega) (by omega)
    by_cases hlt : k < f.size
    · have hi1 : (k : Int) < (f.size : Int) := by omega
      have hp8 : (10 : Nat) ^ k ≤ 10 ^ 8 := Nat.pow_le_pow_right (by omega) (by omega)
      have hc256 : f[k].toNat < 256 := f[k].toNat_lt
      have hdr : f.data.toList.drop k = f[k] :: f.data.toList.drop (k + 1) := List.drop_eq_getElem_cons (by omega)
      by_cases hd0 : f[k].toNat < 48
      · have HNo : Hid (numF f = none) := by
          refine num_no fun n hn => ?_
          obtain ⟨e1, _⟩ := HC.out hn
          have h1 := dig_dec n.natAbs f[k] (by rw [← e1]; exact List.mem_of_getElem (h := by omega) rfl)
          omega
        have hi2 : (f[k].toNat : Int) < 48 := by omega
        clear hh
        go_wp2
        go_ret2
        exact ⟨by rw [HNo.out]; rfl, Chg.refl _ _ _⟩
      by_cases hd1 : 57 < f[k].toNat
      · have HNo : Hid (numF f = none) := by
          refine num_no fun n hn => ?_
          obtain ⟨e1, _⟩ := HC.out hn
          have h1 := dig_dec n.natAbs f[k] (by rw [← e1]; exact List.mem_of_getElem (h := by omega) rfl)
          omega
        have hi2 : ¬ (f[k].toNat : Int) < 48 := by omega
        have hi3 : (57 : Int) < (f[k].toNat : Int) := by omega
        clear hh
        go_wp2
        go_ret2
        exact ⟨by rw [HNo.out]; rfl, Chg.refl _ _ _⟩
      have Hn : Hid (dvl 0 f.data.toList = dvl (v * 10 + (f[k].toNat - 48)) (f.data.toList.drop (k + 1)) ∧ ∀ j, j < k + 1 → ∀ (h : j < f.size), 48 ≤ f[j].toNat ∧ f[j].toNat ≤ 57) := by
        refine ⟨by rw [hh.out.1, hdr]; rfl, fun j hj h => ?_⟩
        by_cases e : j = k
        · subst e; omega
        · exact hh.out.2 j (by omega) h
      have hv2 : v * 10 + (f[k].toNat - 48) < 10 ^ (k + 1) := by rw [Nat.pow_succ]; omega
      have hi2 : ¬ (f[k].toNat : Int) < 48 := by omega
      have hi3 : ¬ (57 : Int) < (f[k].toNat : Int) := by omega
      clear hh hdr
      obtain ⟨c, hcs⟩ : ∃ c, f[k].toNat = c := ⟨_, rfl⟩
      rw [hcs] at Hn hv2 hi2 hi3 hc256 hd0 hd1
      have e1 : IntKind.u8.wrap ((c : Int) - 48) = (c : Int) - 48 := by rw [IntKind.wrap_u8]; omega
      have e2 : IntKind.i64.wrap ((c : Int) - 48) = (c : Int) - 48 := by rw [IntKind.wrap_i64]; omega
      have e3 : IntKind.i64.wrap ((v : Int) * 10) = (v : Int) * 10 := by rw [IntKind.wrap_i64]; omega
      have e4 : IntKind.i64.wrap ((v : Int) * 10 + ((c : Int) - 48)) = (v : Int) * 10 + ((c : Int) - 48) := by rw [IntKind.wrap_i64]; omega
      go_wp2
      refine ⟨⟨k + 1, v * 10 + (c - 48), by omega, by go_num, by congr 1; omega, hv2, Hn⟩, by simp [RowKit.intOf]; omega⟩
    · obtain rfl : k = f.size := by omega
      have hi1 : ¬ ((f.size : Nat) : Int) < (f.size : Int) := by omega
      have hval : v = dvl 0 f.data.toList := by
        have h1 := hh.out.1
        rw [List.drop_eq_nil_of_le (by omega)] at h1
        exact h1.symm
      have hD := l14Dec_calls w ((v : Int)) (by omega) (by omega)
      have HNo : Hid (dec ((v : Int)) ≠ f → numF f = none) := fun hne => by
        refine num_no fun n hn => ?_
        obtain ⟨e1, e2⟩ := HC.out hn
        obtain ⟨_, _, b2⟩ := numF_is hn
        rw [e1, dvl_dec] at hval
        rw [← hval] at e2
        exact hne (by rw [← e2]; exact b2)
      have HYes : Hid (dec ((v : Int)) = f → numF f = some ((v : Int))) := fun h => numF_some (by omega) (by omega) h
      clear hh hval
      skip
      have hcmp : ¬ (f.size : Int) < (f.size : Int) := by omega
      generalize (v : Int) = sv at *
      go_wp2_with fail
      refine hD.mono ?_
      rintro e w2 ⟨rfl, c2⟩
      have HC2 : Hid (Chg 0 0 w w2) := c2
      clear hD c2
      by_cases heq : dec sv = f
      · have Hs := HYes.out heq
        have hb : ((dec sv).toList != f.toList) = false := by rw [heq]; simp
        have hb2 : ((dec sv).toList == f.toList) = true := by rw [heq]; simp
        generalize dec sv = ds at *
        go_wp2
        go_ret2
        exact ⟨by rw [Hs]; rfl, HC2.out⟩
      · have Hs := HNo.out heq
        have hb : ((dec sv).toList != f.toList) = true := by rw [bne_iff_ne]; exact fun h => heq ((text_eq _ _).1 h)
        have hb2 : ((dec sv).toList == f.toList) = false := by rw [beq_eq_false_iff_ne]; exact fun h => heq ((text_eq _ _).1 h)
        generalize dec sv = ds at *
        go_wp2
        go_ret2
        exact ⟨by rw [Hs]; rfl, HC2.out⟩

theorem l14Number_calls (w : World) (f : ByteArray) (hl : f.size ≤ 1048576) :
    Calls Tryz.prog 24 #[.string f] w fun e w' => e = .returned (.tuple #[.int .i64 ((numF f).getD 0), .bool (numF f).isSome]) ∧ Chg 0 0 w w' := by
  by_cases hs : 1 < f.size
  · have hcons : f.data.toList = f[0] :: f.data.toList.drop 1 := List.drop_eq_getElem_cons (i := 0) (by rw [← Lib.size_eq]; omega)
    by_cases h45 : f[0].toNat = 45
    · have h450 : f[0] = 45 := UInt8.toNat_inj.1 (show f[0].toNat = (45 : UInt8).toNat from h45)
      refine l14NumNeg_calls w f (f.extract 1 f.size) hl hs h45 (by rw [ByteArray.size_extract]; omega) rfl ?_
      rw [ByteArray.data_extract, Array.toList_extract, List.extract_eq_take_drop, List.take_of_length_le (by rw [List.length_drop, Lib.size_eq]; omega)]
      conv => lhs; rw [hcons, h450]
    · exact l14NumPos_calls w f hl hs h45 (fun h => num_pos (fun ⟨_, r, hr⟩ => h45 (by rw [hcons] at hr; injection hr with hr _; rw [hr]; rfl)) h)
  · exact l14NumOne_calls w f hs (fun h => num_pos (fun ⟨h1, _⟩ => hs h1) h)

end Go.Proofs.YteaeikmgkmpkiaaGreatDoor
