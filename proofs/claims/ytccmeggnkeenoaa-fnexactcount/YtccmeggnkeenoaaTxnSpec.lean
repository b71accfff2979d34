/- l3GoodBlock, l4Rising, l4Has, l4HomeBlocks of the model. -/
import Derived.Test.YtccmeggnkeenoaaIntsP
import Derived.Test.YtccmeggnkeenoaaGoodBlk
import Derived.Deep.DeepCutAuto
import Derived.Laws.AppendOwnNone
namespace Go.Proofs.Ytccmeggnkeenoaa
open Go.RowKit

/-- v may follow last. -/
def fol (last v : Int) : Bool := decide (last < v) && decide (v < 2048)
/-- What stands ahead. -/
def prevI (xs : List Int) (i : Nat) : Int := if i = 0 then -1 else xs.getD (i - 1) 0
def Rises (xs : List Int) (n : Nat) : Prop := ∀ i, i < n → fol (prevI xs i) (xs.getD i 0) = true
def risesB (xs : List Int) : Bool := decide (∀ i, i < xs.length → fol (prevI xs i) (xs.getD i 0) = true)

theorem fol_iff {a v : Int} : fol a v = true ↔ a < v ∧ v < 2048 := by unfold fol; simp
theorem risesB_true {xs : List Int} : risesB xs = true ↔ Rises xs xs.length := decide_eq_true_iff
theorem risesB_false {xs : List Int} {k : Nat} (hk : k < xs.length) (h : ¬ fol (prevI xs k) (xs.getD k 0) = true) : risesB xs = false := by
  rw [Bool.eq_false_iff]; intro e; exact h (risesB_true.1 e k hk)
theorem Rises.zero (xs : List Int) : Rises xs 0 := fun i h => absurd h (Nat.not_lt_zero i)
theorem Rises.succ {xs : List Int} {n : Nat} (h : Rises xs n) (hn : fol (prevI xs n) (xs.getD n 0) = true) : Rises xs (n + 1) := by
  intro i hi
  by_cases e : i = n
  · subst e; exact hn
  · exact h i (by omega)
/-- What rises is not below 0. -/
theorem Rises.pos {xs : List Int} {n : Nat} (h : Rises xs n) : ∀ i, i < n → 0 ≤ xs.getD i 0 := by
  intro i
  induction i with
  | zero => intro hi; have := (fol_iff.1 (h 0 hi)).1; simp only [prevI, if_true] at this; omega
  | succ i ih =>
    intro hi
    have := (fol_iff.1 (h (i + 1) hi)).1
    rw [show prevI xs (i + 1) = xs.getD i 0 from by unfold prevI; rw [if_neg (by omega)]; rfl] at this
    have := ih (by omega)
    omega

set_option maxRecDepth 20000 in
set_option maxHeartbeats 400000 in
theorem l4Has_some (w : World) (xs : List Int) (v : Int) (b off cap : Nat) (hl : xs.length ≤ 9223372036854775807)
    (h1 : ∀ i, i < xs.length → w.cell? ⟨b, off + i, none⟩ = some (.int .i64 (xs.getD i 0))) :
    Calls Try.prog 11 #[.slice (some ⟨b, off, none⟩) xs.length cap, .int .i64 v] w fun e w' => e = .returned (.bool (decide (v ∈ xs))) ∧ w' = w := by
  go_enter Try.func11, Try.ntmps11
  go_wp2
  go_loopw [5] (fun i wr => wr = w ∧ ∃ k : Nat, k ≤ xs.length ∧ i = .int .i64 k ∧ v ∉ xs.take k) (fun i _ => xs.length - (intOf i).toNat)
  case atStart => exact ⟨rfl, 0, Nat.zero_le _, rfl, by simp⟩
  case round =>
    obtain ⟨rfl, k, hk, rfl, hR⟩ := hrel
    by_cases hlt : k < xs.length
    · have c1 : wr.cell? ⟨b, off + k, none⟩ = some (.int .i64 (xs.getD k 0)) := h1 k hlt
      have hi : (k : Int) < (xs.length : Int) := by omega
      have hx : xs.getD k 0 = xs[k] := by simp [List.getD_eq_getElem?_getD, hlt]
      by_cases he : xs.getD k 0 = v
      · have Hn : Hid (decide (v ∈ xs) = true) := by show _ = _; rw [decide_eq_true_eq, ← he, hx]; exact List.getElem_mem hlt
        have hv : (xs.getD k 0 == v) = true := by simpa using he
        generalize xs.getD k 0 = x at *
        clear h1 hx hR
        go_wp2
        go_ret
        exact ⟨by rw [Hn.out]; rfl, rfl⟩
      · have Hn : Hid (v ∉ xs.take (k + 1)) := by
          show v ∉ _
          rw [List.take_succ_eq_append_getElem hlt, List.mem_append, not_or]
          exact ⟨hR, by simp; rw [← hx]; exact fun e => he e.symm⟩
        have hv : (xs.getD k 0 == v) = false := by simpa using he
        generalize xs.getD k 0 = x at *
        clear h1 hx hR
        go_wp2
        go_roundw
        case rel => exact ⟨trivial, k + 1, by omega, by go_num, Hn.out⟩
        case measure => simp [intOf]; omega
    · obtain rfl : k = xs.length := by omega
      rw [List.take_length] at hR
      have Hn : Hid (decide (v ∈ xs) = false) := decide_eq_false hR
      clear h1 hR
      go_wp2
      go_ret
      exact ⟨by rw [Hn.out]; rfl, rfl⟩

set_option maxRecDepth 20000 in
set_option maxHeartbeats 400000 in
theorem l4Has_none (w : World) (v : Int) (ao : Option Addr) (cap : Nat) :
    Calls Try.prog 11 #[.slice ao 0 cap, .int .i64 v] w fun e w' => e = .returned (.bool false) ∧ w' = w := by
  go_enter Try.func11, Try.ntmps11
  go_wp2
  refine wp_loop_rounds 1 ?_; rw [rounds_succ]
  go_wp2
  go_ret
  exact ⟨rfl, rfl⟩

theorem l4Has_calls (w : World) {lo hi : Nat} {a : Value} {xs : List Int} (v : Int) (h1 : View w lo hi .i64 a xs) :
    Calls Try.prog 11 #[a, .int .i64 v] w fun e w' => e = .returned (.bool (decide (v ∈ xs))) ∧ w' = w := by
  obtain ⟨ao, cap, rfl, hl, _, h1⟩ := h1
  rcases h1 with rfl | ⟨x, off, rfl, _, _, h1⟩
  · exact l4Has_none w v ao cap
  · exact l4Has_some w xs v x off cap hl h1

end Go.Proofs.Ytccmeggnkeenoaa
