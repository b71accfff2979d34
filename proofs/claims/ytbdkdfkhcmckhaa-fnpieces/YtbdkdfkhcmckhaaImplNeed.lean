/- FileNeed of the program. -/
import Derived.Test.YtbdkdfkhcmckhaaNeedSpec
import Derived.Test.YtbdkdfkhcmckhaaArrKit
import Derived.Test.YtbdkdfkhcmckhaaIsWithin
namespace Go.Proofs.Ytbdkdfkhcmckhaa
open Go.RowKit

/-- Which places are needed, as the program keeps it. -/
def onRow (xs : List Int) : List Value := (List.range 40).map fun j => .int .i64 (if hasI xs j = true then 1 else 0)
theorem onRow_len (xs : List Int) : (onRow xs).length = 40 := by simp [onRow]
theorem onRow_get (xs : List Int) {j : Nat} (h : j < 40) : (onRow xs)[j]? = some (.int .i64 (if hasI xs j = true then 1 else 0)) := by simp [onRow, h]
theorem onRow_set (xs : List Int) {k m : Nat} (hk : k < xs.length) (he : xs.getD k 0 = (m : Int)) (hm : m < 40) : (onRow (xs.take k)).set m (.int .i64 1) = onRow (xs.take (k + 1)) := by
  have hx : xs.getD k 0 = xs[k] := by simp [List.getD_eq_getElem?_getD, hk]
  refine List.ext_getElem? fun j => ?_
  by_cases hj : j < 40
  · rw [onRow_get _ hj]
    by_cases e : m = j
    · subst e
      rw [List.getElem?_set_self (by rw [onRow_len]; exact hm)]
      have : hasI (xs.take (k + 1)) m = true := by
        unfold hasI
        rw [decide_eq_true_eq, List.take_succ_eq_append_getElem hk, List.mem_append]
        right; rw [← hx, he]; simp
      rw [this]; rfl
    · rw [List.getElem?_set_ne e, onRow_get _ hj]
      have : hasI (xs.take (k + 1)) j = hasI (xs.take k) j := by
        unfold hasI
        have hn : ¬ ((j : Int) = xs[k]) := by rw [← hx, he]; omega
        rw [decide_eq_decide, List.take_succ_eq_append_getElem hk, List.mem_append, List.mem_singleton]
        exact ⟨fun h => h.resolve_right hn, Or.inl⟩
      rw [this]
  · rw [List.getElem?_eq_none (by rw [List.length_set, onRow_len]; omega), List.getElem?_eq_none (by rw [onRow_len]; omega)]
theorem onRow_nil : onRow [] = List.replicate 40 (.int .i64 0) := by
  refine List.ext_getElem? fun j => ?_
  by_cases hj : j < 40
  · rw [onRow_get _ hj, List.getElem?_replicate, if_pos hj]
    simp [hasI]
  · rw [List.getElem?_eq_none (by rw [onRow_len]; omega), List.getElem?_eq_none (by simp; omega)]

/-- Whether one is beyond the first eight. -/
def farI (xs : List Int) : Nat := if xs.any (fun x => decide (8 ≤ x)) = true then 1 else 0
theorem farI_snoc (xs : List Int) {k : Nat} (hk : k < xs.length) : farI (xs.take (k + 1)) = if 8 ≤ xs.getD k 0 then 1 else farI (xs.take k) := by
  have hx : xs.getD k 0 = xs[k] := by simp [List.getD_eq_getElem?_getD, hk]
  unfold farI
  rw [List.take_succ_eq_append_getElem hk, List.any_append, hx]
  by_cases h : 8 ≤ xs[k]
  · simp [h]
  · simp [h]
theorem farTo_one (p : Nat → Bool) (k : Nat) : farTo p k = 1 ↔ ∃ j, j < k ∧ p j = true ∧ 8 ≤ j := by
  induction k with
  | zero => unfold farTo; simp
  | succ k ih =>
    unfold farTo
    by_cases h : p k = true ∧ 8 ≤ k
    · rw [if_pos h]; exact ⟨fun _ => ⟨k, by omega, h⟩, fun _ => rfl⟩
    · rw [if_neg h, ih]
      constructor
      · rintro ⟨j, hj, h2⟩; exact ⟨j, by omega, h2⟩
      · rintro ⟨j, hj, h2⟩
        rcases Nat.lt_or_eq_of_le (Nat.le_of_lt_succ hj) with h3 | h3
        · exact ⟨j, h3, h2⟩
        · subst h3; exact absurd h2 h
theorem farI_eq {xs : List Int} (h : ∀ y ∈ xs, 0 ≤ y ∧ y < 40) : farI xs = farTo (hasI xs) 40 := by
  have h1 := farTo_le (hasI xs) 40
  have h2 := farTo_one (hasI xs) 40
  have h3 : xs.any (fun x => decide (8 ≤ x)) = true ↔ ∃ j, j < 40 ∧ hasI xs j = true ∧ 8 ≤ j := by
    rw [List.any_eq_true]
    constructor
    · rintro ⟨x, hx, h8⟩
      have := h x hx
      have h8 : 8 ≤ x := by simpa using h8
      refine ⟨x.toNat, by omega, ?_, by omega⟩
      unfold hasI
      rw [decide_eq_true_eq, show ((x.toNat : Nat) : Int) = x by omega]
      exact hx
    · rintro ⟨j, _, hj, h8⟩
      unfold hasI at hj
      exact ⟨(j : Int), by simpa using hj, by simp; omega⟩
  unfold farI
  by_cases hc : xs.any (fun x => decide (8 ≤ x)) = true
  · rw [if_pos hc]; exact (h2.2 (h3.1 hc)).symm
  · rw [if_neg hc]
    have : ¬ farTo (hasI xs) 40 = 1 := fun e => hc (h3.2 (h2.1 e))
    omega

def Z40 : List Value := List.replicate 40 (.int .i64 0)
theorem Z40_eq : (#[.int .i64 0, .int .i64 0, .int .i64 0, .int .i64 0, .int .i64 0, .int .i64 0, .int .i64 0, .int .i64 0, .int .i64 0, .int .i64 0, .int .i64 0, .int .i64 0, .int .i64 0, .int .i64 0, .int .i64 0, .int .i64 0, .int .i64 0, .int .i64 0, .int .i64 0, .int .i64 0, .int .i64 0, .int .i64 0, .int .i64 0, .int .i64 0, .int .i64 0, .int .i64 0, .int .i64 0, .int .i64 0, .int .i64 0, .int .i64 0, .int .i64 0, .int .i64 0, .int .i64 0, .int .i64 0, .int .i64 0, .int .i64 0, .int .i64 0, .int .i64 0, .int .i64 0, .int .i64 0] : Array Value) = Z40.toArray := by unfold Z40; rfl
theorem Z40_on : Z40 = onRow ([] : List Int) := by rw [onRow_nil]; unfold Z40; rfl
theorem Try.size1 : (Try.prog.info? 2).map (·.size) = some 1 := by kernel_rfl
theorem Try.size40 : (Try.prog.info? 39).map (·.size) = some 40 := by kernel_rfl

set_option maxRecDepth 20000 in
set_option maxHeartbeats 1000000 in
theorem fileNeed_some (w : World) (xs : List Int) (ao : Option Addr) (cap : Nat) (hl : xs.length ≤ 100000)
    (h1 : xs = [] ∨ ∃ b off, ao = some ⟨b, off, none⟩ ∧ ∀ i, i < xs.length → w.cell? ⟨b, off + i, none⟩ = some (.int .i64 (xs.getD i 0))) :
    Calls Try.prog 7 #[.slice ao xs.length cap] w fun e w' => e = .returned (.int .i64 (needD xs)) ∧ Chg 0 0 w w' := by
  have e0 : ¬ ((100000 : Int) < (xs.length : Int)) := by omega
  go_enter Try.func7, Try.ntmps7
  go_wp2
  simp only [Z40_eq]
  have hO : ArrC (w.alloc (.cells Z40.toArray 39)) w.heap.size 39 (onRow (xs.take 0)) := by rw [List.take_zero, ← Z40_on]; exact ArrC.new w _ _
  have hch : Chg 0 0 w (w.alloc (.cells Z40.toArray 39)) := Chg.alloc (Chg.refl 0 0 w) _
  generalize w.alloc (.cells Z40.toArray 39) = w1 at *
  go_loopw [4, 15] (fun y x wr => ∃ k : Nat, k ≤ xs.length ∧ x = .int .i64 k ∧ y = .int .i64 (farI (xs.take k) : Int) ∧ ArrC wr w.heap.size 39 (onRow (xs.take k)) ∧ Chg 0 0 w wr ∧ ∀ y ∈ xs.take k, 0 ≤ y ∧ y < 40) (fun _ x _ => xs.length - (intOf x).toNat)
  case atStart => exact ⟨0, Nat.zero_le _, rfl, rfl, hO, hch, by simp⟩
  case round =>
    obtain ⟨k, hk, rfl, rfl, ho, hc, hin⟩ := hrel
    clear hO hch
    by_cases hlt : k < xs.length
    · obtain ⟨b, off, rfl, hce⟩ := h1.resolve_left (fun h => by rw [h] at hlt; exact absurd hlt (Nat.not_lt_zero k))
      have c1 := hc.cell (hce k hlt) (by omega)
      have hx : xs.getD k 0 = xs[k] := by simp [List.getD_eq_getElem?_getD, hlt]
      have hi : (k : Int) < (xs.length : Int) := by omega
      have hN := isWithin_calls wr (xs.getD k 0) 0 39
      have hfs := farI_snoc xs hlt
      by_cases hr : 0 ≤ xs.getD k 0 ∧ xs.getD k 0 < 40
      · obtain ⟨m, hm⟩ : ∃ m : Nat, xs.getD k 0 = m := ⟨(xs.getD k 0).toNat, by omega⟩
        have hm40 : m < 40 := by omega
        have hst := ho.put m (.int .i64 1)
        rw [onRow_set xs hlt hm hm40] at hst
        have Hst : Hid (ArrC (wr.setCell ⟨w.heap.size, m, none⟩ (.int .i64 1)) w.heap.size 39 (onRow (xs.take (k + 1)))) := hst
        have HC : Hid (Chg 0 0 w (wr.setCell ⟨w.heap.size, m, none⟩ (.int .i64 1))) := hc.setCell (Or.inr (Nat.le_refl _)) _
        have HI : Hid (∀ y ∈ xs.take (k + 1), 0 ≤ y ∧ y < 40) := by
          intro y hy
          rw [List.take_succ_eq_append_getElem hlt, List.mem_append] at hy
          rcases hy with hy | hy
          · exact hin y hy
          · simp at hy; rw [hy, ← hx]; exact hr
        have u1 : wr.cell? ⟨w.heap.size, m, none⟩ = some (.int .i64 (if hasI (xs.take k) m = true then 1 else 0)) := ho.cell m (onRow_get _ hm40)
        have u2 := ho.frozen m
        rw [hm] at c1 hN hfs
        have hm' : (m : Int) < 40 := by omega
        have hm0 : ¬ ((m : Int) < 0) := by omega
        rw [decide_eq_true (show (0 : Int) ≤ (m : Int) by omega), decide_eq_true (show (m : Int) ≤ 39 by omega)] at hN
        clear hst ho hc hin hr hx hm h1 hce
        by_cases h8 : 8 ≤ m
        · have h8' : (8 : Int) ≤ (m : Int) := by omega
          rw [if_pos h8'] at hfs
          have HF : Hid (farI (xs.take (k + 1)) = 1) := hfs
          clear hfs
          go_wp2_with (go_at_call 12; refine hN.mono ?_; rintro e w' ⟨rfl, rfl⟩)
          go_roundw
          case rel => exact ⟨k + 1, by omega, by go_num, by rw [HF.out]; rfl, Hst.out, HC.out, HI.out⟩
          case measure => simp [intOf]; omega
        · have h8' : ¬ (8 : Int) ≤ (m : Int) := by omega
          rw [if_neg h8'] at hfs
          have HF : Hid (farI (xs.take (k + 1)) = farI (xs.take k)) := hfs
          clear hfs
          go_wp2_with (go_at_call 12; refine hN.mono ?_; rintro e w' ⟨rfl, rfl⟩)
          go_roundw
          case rel => exact ⟨k + 1, by omega, by go_num, by rw [HF.out], Hst.out, HC.out, HI.out⟩
          case measure => simp [intOf]; omega
      · have Hn : Hid (needD xs = -1) := needD_out (fun h => hr (by rw [hx]; exact h.2 _ (List.getElem_mem hlt)))
        have HC : Hid (Chg 0 0 w wr) := hc
        have hf : (decide (0 ≤ xs.getD k 0) && decide (xs.getD k 0 ≤ 39)) = false := by simp only [Bool.and_eq_false_iff, decide_eq_false_iff_not]; omega
        rw [hf] at hN
        generalize xs.getD k 0 = x at *
        clear ho hc hin hx h1 hce hf hfs
        go_wp2_with (go_at_call 12; refine hN.mono ?_; rintro e w' ⟨rfl, rfl⟩)
        go_ret
        exact ⟨by rw [Hn.out]; rfl, HC.out⟩
    · obtain rfl : k = xs.length := by omega
      rw [List.take_length] at ho hin
      rw [List.take_length]
      have hIn : InIdx xs := ⟨hl, hin⟩
      have Hn : Hid (needD xs = ((cntTo (hasI xs) 40 + farTo (hasI xs) 40 : Nat) : Int)) := needD_in hIn
      rw [← farI_eq hin] at Hn
      have hrow := fun j hj => onRow_get xs (j := j) hj
      have hrl := onRow_len xs
      have hS := Try.size40
      rw [← hrl] at hS
      have HR : Hid (wr.rangeAt w.heap.size 0 (onRow xs)) := ho.range
      have HC : Hid (Chg 0 0 w wr) := hc
      have hcn := cntTo_le (hasI xs) 40
      have hfb : farI xs ≤ 1 := by unfold farI; split <;> omega
      generalize farI xs = F at *
      generalize hasI xs = p at *
      generalize onRow xs = row at *
      clear hin hIn h1 ho hc
      go_wp2_with (refine wpList_load_mid rfl 39 (.tmp 3) rfl w.heap.size 0 rfl row _ HR.out Try.underlying39 rfl hS ?_)
      go_loopw [7, 29] (fun y x wx => wx = wr ∧ ∃ k : Nat, k ≤ 40 ∧ x = .int .i64 k ∧ y = .int .i64 ((F + cntTo p k : Nat) : Int)) (fun _ x _ => 40 - (intOf x).toNat)
      case atStart => exact ⟨rfl, 0, Nat.zero_le _, rfl, rfl⟩
      case round =>
        obtain ⟨rfl, k, hk, rfl, rfl⟩ := hrel
        have hb1 := cntTo_le p k
        by_cases hlt : k < 40
        · have c1 := hrow k hlt
          have H1 : Hid (cntTo p (k + 1) = cntTo p k + (if p k = true then 1 else 0)) := rfl
          have hi : (k : Int) < 40 := by omega
          have hkl : k < row.length := by omega
          have c2 : row[k]'hkl = .int .i64 (if p k = true then 1 else 0) := by
            rw [List.getElem?_eq_getElem hkl] at c1
            injection c1
          have hf : (if p k = true then (1 : Int) else 0) = 0 ∨ (if p k = true then (1 : Int) else 0) = 1 := by split <;> simp
          obtain ⟨z, hz⟩ : ∃ z : Int, (if p k = true then (1 : Int) else 0) = z := ⟨_, rfl⟩
          rw [hz] at c1 c2 hf
          have H2 : Hid (((F + cntTo p (k + 1) : Nat) : Int) = ((F + cntTo p k : Nat) : Int) + z) := by show _ = _; rw [H1.out, ← hz]; split <;> omega
          have hix := run_idx Try.underlying39 Try.underlying2 Try.size1 hlt c1 wr
          clear H1 hz hrow c2 c1
          generalize cntTo p k = c at *
          have hiL : (k : Int) < (row.length : Int) := by omega
          go_wp2
          go_roundw
          case rel => exact ⟨trivial, k + 1, by omega, by go_num, by rw [H2.out]; congr 1⟩
          case measure => simp [intOf]; omega
        · obtain rfl : k = 40 := by omega
          generalize cntTo p 40 = cn at *
          go_wp2
          go_ret
          exact ⟨by rw [Hn.out]; exact ret_int (by omega), HC.out⟩

set_option maxRecDepth 20000 in
set_option maxHeartbeats 400000 in
theorem fileNeed_long (w : World) (n : Nat) (ao : Option Addr) (cap : Nat) (hn : 100000 < n) (_hl : n ≤ 1048576) :
    Calls Try.prog 7 #[.slice ao n cap] w fun e w' => e = .returned (.int .i64 (-1)) ∧ Chg 0 0 w w' := by
  have e0 : (100000 : Int) < (n : Int) := by omega
  go_enter Try.func7, Try.ntmps7
  go_wp2
  go_ret
  exact ⟨rfl, Chg.refl _ _ _⟩

theorem implFileNeed_calls (w : World) {lo hi : Nat} {a : Value} {xs : List Int} (hl : xs.length ≤ 1048576) (h1 : View w lo hi .i64 a xs) :
    Calls Try.prog 7 #[a] w fun e w' => e = .returned (.int .i64 (needD xs)) ∧ Chg 0 0 w w' := by
  obtain ⟨ao, cap, rfl, _, _, h1⟩ := h1
  by_cases hn : xs.length ≤ 100000
  · refine fileNeed_some w xs ao cap hn ?_
    rcases h1 with h1 | ⟨x, off, hao, _, _, h1⟩
    · exact Or.inl h1
    · exact Or.inr ⟨x, off, hao, h1⟩
  · rw [needD_out (fun h => hn h.1)]
    exact fileNeed_long w xs.length ao cap (by omega) hl

end Go.Proofs.Ytbdkdfkhcmckhaa
