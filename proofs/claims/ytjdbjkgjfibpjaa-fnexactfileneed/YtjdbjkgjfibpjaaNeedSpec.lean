/- FileNeed of the model. -/
import Derived.Test.YtjdbjkgjfibpjaaIntsP
import Derived.Deep.DeepCutAuto
namespace Go.Proofs.Ytjdbjkgjfibpjaa
open Go.RowKit

def hasI (xs : List Int) (j : Nat) : Bool := decide ((j : Int) ∈ xs)
def cntTo (p : Nat → Bool) : Nat → Nat
  | 0 => 0
  | k + 1 => cntTo p k + (if p k = true then 1 else 0)
def farTo (p : Nat → Bool) : Nat → Nat
  | 0 => 0
  | k + 1 => if p k = true ∧ 8 ≤ k then 1 else farTo p k
/-- All are places of a file's blocks. -/
abbrev InIdx (xs : List Int) : Prop := xs.length ≤ 100000 ∧ ∀ x ∈ xs, 0 ≤ x ∧ x < 40
def needD (xs : List Int) : Int := if InIdx xs then ((cntTo (hasI xs) 40 + farTo (hasI xs) 40 : Nat) : Int) else -1

theorem needD_in {xs : List Int} (h : InIdx xs) : needD xs = ((cntTo (hasI xs) 40 + farTo (hasI xs) 40 : Nat) : Int) := by unfold needD; rw [if_pos h]
theorem needD_out {xs : List Int} (h : ¬ InIdx xs) : needD xs = -1 := by unfold needD; rw [if_neg h]
theorem cntTo_le (p : Nat → Bool) (k : Nat) : cntTo p k ≤ k := by
  induction k with
  | zero => exact Nat.le_refl _
  | succ k ih => unfold cntTo; split <;> omega
theorem farTo_le (p : Nat → Bool) (k : Nat) : farTo p k ≤ 1 := by
  induction k with
  | zero => exact Nat.zero_le _
  | succ k ih => unfold farTo; split <;> omega

/-- The row: which places are among the first ones. -/
def hasRow (xs : List Int) : List Value := (List.range 40).map fun j => .bool (hasI xs j)
theorem hasRow_nil : hasRow [] = List.replicate 40 (.bool false) := by simp [hasRow, hasI, List.map_const']
theorem hasRow_len (xs : List Int) : (hasRow xs).length = 40 := by simp [hasRow]
theorem hasRow_get (xs : List Int) {j : Nat} (h : j < 40) : (hasRow xs)[j]? = some (.bool (hasI xs j)) := by simp [hasRow, h]
theorem hasRow_set (xs : List Int) {k m : Nat} (hk : k < xs.length) (he : xs.getD k 0 = (m : Int)) (hm : m < 40) : (hasRow (xs.take k)).set m (.bool true) = hasRow (xs.take (k + 1)) := by
  have hx : xs.getD k 0 = xs[k] := by simp [List.getD_eq_getElem?_getD, hk]
  refine List.ext_getElem? fun j => ?_
  by_cases hj : j < 40
  · rw [hasRow_get _ hj]
    by_cases e : m = j
    · subst e
      rw [List.getElem?_set_self (by rw [hasRow_len]; exact hm)]
      have : hasI (xs.take (k + 1)) m = true := by
        unfold hasI
        rw [decide_eq_true_eq, List.take_succ_eq_append_getElem hk, List.mem_append]
        right; rw [← hx, he]; simp
      rw [this]
    · rw [List.getElem?_set_ne e, hasRow_get _ hj]
      have : hasI (xs.take (k + 1)) j = hasI (xs.take k) j := by
        unfold hasI
        have hn : ¬ ((j : Int) = xs[k]) := by rw [← hx, he]; omega
        rw [decide_eq_decide, List.take_succ_eq_append_getElem hk, List.mem_append, List.mem_singleton]
        exact ⟨fun h => h.resolve_right hn, Or.inl⟩
      rw [this]
  · rw [List.getElem?_eq_none (by rw [List.length_set, hasRow_len]; omega), List.getElem?_eq_none (by rw [hasRow_len]; omega)]

theorem made1 (z : Value) (n : Nat) : (madeCells #[z] n).toList = List.replicate n z := by
  refine List.ext_getElem? fun j => ?_
  by_cases hj : j < n
  · simp [madeCells, hj, Nat.mod_one]
  · simp [madeCells, hj]

theorem Try.infoBool : (Try.prog.info? 4).map (fun i => (i.zero, i.size, i.bytes)) = some (some (.bool false), 1, 1) := by kernel_rfl

set_option maxRecDepth 20000 in
set_option maxHeartbeats 1000000 in
theorem specFileNeed_some (w : World) (xs : List Int) (ao : Option Addr) (cap : Nat) (hl : xs.length ≤ 100000)
    (h1 : xs = [] ∨ ∃ b off, ao = some ⟨b, off, none⟩ ∧ ∀ i, i < xs.length → w.cell? ⟨b, off + i, none⟩ = some (.int .i64 (xs.getD i 0))) :
    Calls Try.prog 4 #[.slice ao xs.length cap] w fun e w' => e = .returned (.int .i64 (needD xs)) ∧ Chg 0 0 w w' := by
  obtain ⟨ti, hti, hz0, hz1, hz2⟩ := info_parts Try.infoBool
  have e0 : ¬ ((100000 : Int) < (xs.length : Int)) := by omega
  go_enter Try.func4, Try.ntmps4
  go_wp2_with (at_make; refine wpList_make_full _ rfl _ _ 27 rfl w.heap.size 4 ti (.bool false) 1 Try.underlying27 hti hz0 hz1 _ _ _ _ 40 rfl rfl rfl rfl (by rw [hz2]; omega) (by unfold maxLen; omega) (by simp) ?_)
  intro w1 hown hgrow
  have hch : Chg 0 0 w w1 := Chg.ofGrown hgrow (by simp)
  have hO : w1.ownsRow w.heap.size 4 1 (.slice (some ⟨w.heap.size, 0, none⟩) 40 40) 40 (hasRow (xs.take 0)) := by
    rw [List.take_zero, hasRow_nil]
    rw [made1] at hown
    exact hown
  clear hown hgrow
  go_wp2
  go_loopw [4] (fun x wr => ∃ k : Nat, k ≤ xs.length ∧ x = .int .i64 k ∧ wr.ownsRow w.heap.size 4 1 (.slice (some ⟨w.heap.size, 0, none⟩) 40 40) 40 (hasRow (xs.take k)) ∧ Chg 0 0 w wr ∧ ∀ y ∈ xs.take k, 0 ≤ y ∧ y < 40) (fun x _ => xs.length - (intOf x).toNat)
  case atStart => exact ⟨0, Nat.zero_le _, rfl, hO, hch, by simp⟩
  case round =>
    obtain ⟨k, hk, rfl, ho, hc, hin⟩ := hrel
    clear hO hch
    by_cases hlt : k < xs.length
    · obtain ⟨b, off, rfl, hce⟩ := h1.resolve_left (fun h => by rw [h] at hlt; exact absurd hlt (Nat.not_lt_zero k))
      have c1 := hc.cell (hce k hlt) (by omega)
      have hx : xs.getD k 0 = xs[k] := by simp [List.getD_eq_getElem?_getD, hlt]
      have hi : (k : Int) < (xs.length : Int) := by omega
      by_cases hr : 0 ≤ xs.getD k 0 ∧ xs.getD k 0 < 40
      · obtain ⟨m, hm⟩ : ∃ m : Nat, xs.getD k 0 = m := ⟨(xs.getD k 0).toNat, by omega⟩
        have hm40 : m < 40 := by omega
        have hst := (World.ownsRow.stored ho m (.bool true)).1
        rw [hasRow_set xs hlt hm hm40] at hst
        have Hst : Hid ((wr.setCell ⟨w.heap.size, m, none⟩ (.bool true)).ownsRow w.heap.size 4 1 (.slice (some ⟨w.heap.size, 0, none⟩) 40 40) 40 (hasRow (xs.take (k + 1)))) := hst
        have HC : Hid (Chg 0 0 w (wr.setCell ⟨w.heap.size, m, none⟩ (.bool true))) := hc.setCell (Or.inr (Nat.le_refl _)) _
        have HI : Hid (∀ y ∈ xs.take (k + 1), 0 ≤ y ∧ y < 40) := by
          intro y hy
          rw [List.take_succ_eq_append_getElem hlt, List.mem_append] at hy
          rcases hy with hy | hy
          · exact hin y hy
          · simp at hy; rw [hy, ← hx]; exact hr
        have u1 : wr.cell? ⟨w.heap.size, m, none⟩ = some (.bool (hasI (xs.take k) m)) := by rw [World.ownsRow.cellAt ho m (by omega)]; exact hasRow_get _ hm40
        have u2 := World.ownsRow.frozenAt ho m
        rw [hm] at c1
        have hm' : (m : Int) < 40 := by omega
        have hm0 : ¬ ((m : Int) < 0) := by omega
        clear hst ho hc hin hr hx hm h1 hce
        go_wp2
        go_roundw
        case rel => exact ⟨k + 1, by omega, by go_num, Hst.out, HC.out, HI.out⟩
        case measure => simp [intOf]; omega
      · have Hn : Hid (needD xs = -1) := needD_out (fun h => hr (by rw [hx]; exact h.2 _ (List.getElem_mem hlt)))
        have HC : Hid (Chg 0 0 w wr) := hc
        generalize xs.getD k 0 = x at *
        clear ho hc hin hx h1 hce
        by_cases h0 : x < 0
        · clear hr
          go_wp2
          go_ret
          exact ⟨by rw [Hn.out]; rfl, HC.out⟩
        · have h40 : 40 ≤ x := by omega
          clear hr
          go_wp2
          go_ret
          exact ⟨by rw [Hn.out]; rfl, HC.out⟩
    · obtain rfl : k = xs.length := by omega
      rw [List.take_length] at ho hin
      have Hn : Hid (needD xs = ((cntTo (hasI xs) 40 + farTo (hasI xs) 40 : Nat) : Int)) := needD_in ⟨hl, hin⟩
      have hcells : ∀ j, j < 40 → wr.cell? ⟨w.heap.size, j, none⟩ = some (.bool (hasI xs j)) := fun j hj => by rw [World.ownsRow.cellAt ho j (by omega)]; exact hasRow_get _ hj
      have HC : Hid (Chg 0 0 w wr) := hc
      generalize hasI xs = p at *
      clear ho hc hin h1
      go_wp2
      go_loopw [5, 6, 7] (fun c f x w3 => w3 = wr ∧ ∃ k : Nat, k ≤ 40 ∧ x = .int .i64 k ∧ c = .int .i64 (cntTo p k) ∧ f = .int .i64 (farTo p k)) (fun _ _ x _ => 40 - (intOf x).toNat)
      case atStart => exact ⟨rfl, 0, by omega, rfl, rfl, rfl⟩
      case round =>
        obtain ⟨rfl, k, hk, rfl, rfl, rfl⟩ := hrel
        have hb1 := cntTo_le p k
        have hb2 := farTo_le p k
        by_cases hlt : k < 40
        · have c1 := hcells k hlt
          have hs1 : cntTo p (k + 1) = cntTo p k + (if p k = true then 1 else 0) := rfl
          have hs2 : farTo p (k + 1) = if p k = true ∧ 8 ≤ k then 1 else farTo p k := rfl
          have hi : (k : Int) < 40 := by omega
          cases hpk : p k with
          | true =>
            rw [hpk] at c1
            by_cases h8 : 8 ≤ k
            · have H1 : Hid (cntTo p (k + 1) = cntTo p k + 1) := by show _ = _; rw [hs1, hpk]; rfl
              have H2 : Hid (farTo p (k + 1) = 1) := by show _ = _; rw [hs2, if_pos ⟨hpk, h8⟩]
              have h8' : (8 : Int) ≤ (k : Int) := by omega
              clear hs1 hs2 hcells
              go_wp2
              go_roundw
              case rel => exact ⟨trivial, k + 1, by omega, by go_num, by rw [H1.out]; go_num, by rw [H2.out]; rfl⟩
              case measure => simp [intOf]; omega
            · have H1 : Hid (cntTo p (k + 1) = cntTo p k + 1) := by show _ = _; rw [hs1, hpk]; rfl
              have H2 : Hid (farTo p (k + 1) = farTo p k) := by show _ = _; rw [hs2, if_neg (fun h => h8 h.2)]
              have h8' : ¬ (8 : Int) ≤ (k : Int) := by omega
              clear hs1 hs2 hcells
              go_wp2
              go_roundw
              case rel => exact ⟨trivial, k + 1, by omega, by go_num, by rw [H1.out]; go_num, by rw [H2.out]⟩
              case measure => simp [intOf]; omega
          | false =>
            rw [hpk] at c1
            have H1 : Hid (cntTo p (k + 1) = cntTo p k) := by show _ = _; rw [hs1, hpk]; rfl
            have H2 : Hid (farTo p (k + 1) = farTo p k) := by show _ = _; rw [hs2, if_neg (fun h => by rw [hpk] at h; cases h.1)]
            clear hs1 hs2 hcells
            go_wp2
            go_roundw
            case rel => exact ⟨trivial, k + 1, by omega, by go_num, by rw [H1.out], by rw [H2.out]⟩
            case measure => simp [intOf]; omega
        · obtain rfl : k = 40 := by omega
          clear hcells
          generalize cntTo p 40 = cn at *
          generalize farTo p 40 = fr at *
          go_wp2
          go_ret
          exact ⟨by rw [Hn.out]; exact ret_int (by omega), HC.out⟩

set_option maxRecDepth 20000 in
set_option maxHeartbeats 400000 in
theorem specFileNeed_long (w : World) (n : Nat) (ao : Option Addr) (cap : Nat) (hn : 100000 < n) (_hl : n ≤ 1048576) :
    Calls Try.prog 4 #[.slice ao n cap] w fun e w' => e = .returned (.int .i64 (-1)) ∧ Chg 0 0 w w' := by
  have e0 : (100000 : Int) < (n : Int) := by omega
  go_enter Try.func4, Try.ntmps4
  go_wp2
  go_ret
  exact ⟨rfl, Chg.refl _ _ _⟩

theorem specFileNeed_calls (w : World) {lo hi : Nat} {a : Value} {xs : List Int} (hl : xs.length ≤ 1048576) (h1 : View w lo hi .i64 a xs) :
    Calls Try.prog 4 #[a] w fun e w' => e = .returned (.int .i64 (needD xs)) ∧ Chg 0 0 w w' := by
  obtain ⟨ao, cap, rfl, _, _, h1⟩ := h1
  by_cases hn : xs.length ≤ 100000
  · refine specFileNeed_some w xs ao cap hn ?_
    rcases h1 with h1 | ⟨x, off, hao, _, _, h1⟩
    · exact Or.inl h1
    · exact Or.inr ⟨x, off, hao, h1⟩
  · rw [needD_out (fun h => hn h.1)]
    exact specFileNeed_long w xs.length ao cap (by omega) hl

end Go.Proofs.Ytjdbjkgjfibpjaa
