/- The runs against the first bit that is off and the count. -/
import Derived.Test.YtgmpggloonkfnaaBitCntSpec
import Derived.Test.YtgmpggloonkfnaaImplRuns
namespace Go.Proofs.Ytgmpggloonkfnaa
open Go.RowKit

theorem firstFrom_on {xs : List Int} : ∀ (m : Nat) (i : Int) (n : Nat), (∀ j : Nat, j < m → bitG xs (i + j) = true) → firstFrom xs i (m + n) = firstFrom xs (i + m) n
  | 0, i, n, _ => by rw [Nat.zero_add]; congr 1; omega
  | m + 1, i, n, h => by
    have h0 : bitG xs i = true := by have := h 0 (by omega); rwa [show i + ((0 : Nat) : Int) = i by omega] at this
    rw [show m + 1 + n = (m + n) + 1 by omega, show firstFrom xs i (m + n + 1) = firstFrom xs (i + 1) (m + n) from by show (if _ then _ else _) = _; rw [if_pos h0],
      firstFrom_on m (i + 1) n (fun j hj => by have := h (j + 1) (by omega); rwa [show i + ((j + 1 : Nat) : Int) = i + 1 + j by omega] at this)]
    congr 1; omega
theorem countFrom_on {xs : List Int} : ∀ (m : Nat) (i : Int) (n : Nat), (∀ j : Nat, j < m → bitG xs (i + j) = true) → countFrom xs i (m + n) = m + countFrom xs (i + m) n
  | 0, i, n, _ => by rw [Nat.zero_add, Nat.zero_add]; congr 1; omega
  | m + 1, i, n, h => by
    have h0 : bitG xs i = true := by have := h 0 (by omega); rwa [show i + ((0 : Nat) : Int) = i by omega] at this
    rw [show m + 1 + n = (m + n) + 1 by omega, show countFrom xs i (m + n + 1) = 1 + countFrom xs (i + 1) (m + n) from by show (if _ then _ else _) + _ = _; rw [if_pos h0],
      countFrom_on m (i + 1) n (fun j hj => by have := h (j + 1) (by omega); rwa [show i + ((j + 1 : Nat) : Int) = i + 1 + j by omega] at this)]
    rw [show i + 1 + (m : Int) = i + ((m + 1 : Nat) : Int) by omega]; omega
theorem countFrom_off {xs : List Int} : ∀ (m : Nat) (i : Int) (n : Nat), (∀ j : Nat, j < m → bitG xs (i + j) = false) → countFrom xs i (m + n) = countFrom xs (i + m) n
  | 0, i, n, _ => by rw [Nat.zero_add]; congr 1; omega
  | m + 1, i, n, h => by
    have h0 : ¬ bitG xs i = true := by have := h 0 (by omega); rw [show i + ((0 : Nat) : Int) = i by omega] at this; rw [this]; decide
    rw [show m + 1 + n = (m + n) + 1 by omega, show countFrom xs i (m + n + 1) = 0 + countFrom xs (i + 1) (m + n) from by show (if _ then _ else _) + _ = _; rw [if_neg h0],
      countFrom_off m (i + 1) n (fun j hj => by have := h (j + 1) (by omega); rwa [show i + ((j + 1 : Nat) : Int) = i + 1 + j by omega] at this)]
    rw [show i + 1 + (m : Int) = i + ((m + 1 : Nat) : Int) by omega]; omega

theorem wn_map (xs : List Int) : wn xs = 8 * ((mapL xs).length : Int) := by unfold wn mapL; split <;> simp
theorem cut_bounds (n : Nat) (f t : Int) : cutA n f ≤ cutE n f t ∧ cutE n f t ≤ 8 * n := by
  have : cutA n f ≤ 8 * n := by unfold cutA; omega
  constructor
  · unfold cutE; omega
  · unfold cutE; omega

theorem cut_same {xs : List Int} {f t : Int} : (wlo f = cutA (mapL xs).length f ∨ (whi xs t - wlo f).toNat = 0) ∧ (whi xs t - wlo f).toNat = cutE (mapL xs).length f t - cutA (mapL xs).length f := by
  have h := wn_map xs
  generalize (mapL xs).length = n at *
  unfold whi wlo cutE cutA
  rw [h]
  constructor
  · split <;> split <;> omega
  · split <;> split <;> omega

theorem first_cut (xs : List Int) (f t : Int) : firstD xs f t = firstFrom xs (cutA (mapL xs).length f) (cutE (mapL xs).length f t - cutA (mapL xs).length f) := by
  obtain ⟨h1, h2⟩ := cut_same (xs := xs) (f := f) (t := t)
  unfold firstD
  rw [← h2]
  rcases h1 with h1 | h1
  · rw [h1]
  · rw [h1]; rfl
theorem count_cut (xs : List Int) (f t : Int) : countD xs f t = countFrom xs (cutA (mapL xs).length f) (cutE (mapL xs).length f t - cutA (mapL xs).length f) := by
  obtain ⟨h1, h2⟩ := cut_same (xs := xs) (f := f) (t := t)
  unfold countD
  rw [← h2]
  rcases h1 with h1 | h1
  · rw [h1]
  · rw [h1]; rfl

theorem bit_map {xs : List Int} {i : Nat} (h : i < 8 * (mapL xs).length) : bitG xs i = bitN (mapL xs) i := by
  rw [← bitG_map]
  exact bitG_in ⟨mapL_len xs, by omega, by omega⟩

/-- What lies ahead of the next run is on; the run is off. -/
theorem run_bits {xs : List Int} {E a : Nat} (hE : E ≤ 8 * (mapL xs).length) (_ : a ≤ E) :
    (∀ j : Nat, j < nextAt (mapL xs) false E a - a → bitG xs ((a : Int) + j) = true) ∧
    (∀ j : Nat, j < nextAt (mapL xs) true E (nextAt (mapL xs) false E a) - nextAt (mapL xs) false E a → bitG xs ((nextAt (mapL xs) false E a : Int) + j) = false) := by
  have hs := nextAt_le (mapL xs) false E a
  have hb := nextAt_le (mapL xs) true E (nextAt (mapL xs) false E a)
  constructor
  · intro j hj
    have := nextAt_ahead (ys := mapL xs) (on := false) (E := E) (i := a) (k := a + j) (by omega) (by omega)
    rw [show (a : Int) + (j : Int) = ((a + j : Nat) : Int) by omega, bit_map (by omega)]
    simpa using this
  · intro j hj
    have := nextAt_ahead (ys := mapL xs) (on := true) (E := E) (i := nextAt (mapL xs) false E a) (k := nextAt (mapL xs) false E a + j) (by omega) (by omega)
    rw [show (nextAt (mapL xs) false E a : Int) + (j : Int) = ((nextAt (mapL xs) false E a + j : Nat) : Int) by omega, bit_map (by omega)]
    simpa using this

theorem first_runs {xs : List Int} {E a : Nat} (k : Nat) (hE : E ≤ 8 * (mapL xs).length) (ha : a ≤ E) :
    firstFrom xs a (E - a) = match runsL (mapL xs) E (k + 1) a with | [] => -1 | x :: _ => (x.1.1 : Int) := by
  have hl := mapL_len xs
  have h1 := (run_bits hE ha).1
  have hs := nextAt_le (mapL xs) false E a
  have hs2 := nextAt_ge (ys := mapL xs) (on := false) ha
  rw [show E - a = (nextAt (mapL xs) false E a - a) + (E - nextAt (mapL xs) false E a) by omega, firstFrom_on _ _ _ h1, show (a : Int) + ((nextAt (mapL xs) false E a - a : Nat) : Int) = (nextAt (mapL xs) false E a : Int) by omega]
  by_cases h : nextAt (mapL xs) false E a < E
  · obtain ⟨x, hx, hr⟩ := runsL_cons k h (by omega)
    rw [hr, show E - nextAt (mapL xs) false E a = (E - nextAt (mapL xs) false E a - 1) + 1 by omega]
    show (if _ then _ else _) = (x.1.1 : Int)
    rw [if_neg (by rw [bit_map (by omega), nextAt_at h]; decide), hx]
  · rw [runsL_nil k h, show E - nextAt (mapL xs) false E a = 0 by omega]
    rfl

/-- How long runs are together. -/
def lens : List Rn → Nat
  | [] => 0
  | x :: xs => x.1.2 + lens xs
theorem lens_snoc (l : List Rn) (x : Rn) : lens (l ++ [x]) = lens l + x.1.2 := by
  induction l with
  | nil => simp [lens]
  | cons y l ih => show _ + lens (l ++ [x]) = _ + lens l + _; rw [ih]; omega

theorem count_runs {xs : List Int} {E : Nat} (hE : E ≤ 8 * (mapL xs).length) : ∀ (k a : Nat), a ≤ E → E - a < k → countFrom xs a (E - a) + lens (runsL (mapL xs) E k a) = E - a
  | 0, a, _, h => by omega
  | k + 1, a, ha, hk => by
    have hl := mapL_len xs
    obtain ⟨h1, h2⟩ := run_bits hE ha
    have hs := nextAt_le (mapL xs) false E a
    have hs2 := nextAt_ge (ys := mapL xs) (on := false) ha
    have hb := nextAt_le (mapL xs) true E (nextAt (mapL xs) false E a)
    rw [show countFrom xs a (E - a) = (nextAt (mapL xs) false E a - a) + countFrom xs (nextAt (mapL xs) false E a) (E - nextAt (mapL xs) false E a) by
      rw [show E - a = (nextAt (mapL xs) false E a - a) + (E - nextAt (mapL xs) false E a) by omega, countFrom_on _ _ _ h1, show (a : Int) + ((nextAt (mapL xs) false E a - a : Nat) : Int) = (nextAt (mapL xs) false E a : Int) by omega]]
    by_cases h : nextAt (mapL xs) false E a < E
    · have hsb := nextAt_beyond h
      obtain ⟨x, hx, hr⟩ := runsL_cons k h (by omega)
      have ih := count_runs hE k (nextAt (mapL xs) true E (nextAt (mapL xs) false E a)) hb (by omega)
      have hc : countFrom xs (nextAt (mapL xs) false E a) (E - nextAt (mapL xs) false E a) = countFrom xs (nextAt (mapL xs) true E (nextAt (mapL xs) false E a)) (E - nextAt (mapL xs) true E (nextAt (mapL xs) false E a)) := by
        rw [show E - nextAt (mapL xs) false E a = (nextAt (mapL xs) true E (nextAt (mapL xs) false E a) - nextAt (mapL xs) false E a) + (E - nextAt (mapL xs) true E (nextAt (mapL xs) false E a)) by omega, countFrom_off _ _ _ h2]
        congr 1; omega
      have hx2 : x.1.2 = nextAt (mapL xs) true E (nextAt (mapL xs) false E a) - nextAt (mapL xs) false E a := by rw [hx]
      rw [hr, hc]
      show _ + (x.1.2 + lens _) = _
      omega
    · rw [runsL_nil k h, show E - nextAt (mapL xs) false E a = 0 by omega]
      show _ + 0 + 0 = _
      omega

end Go.Proofs.Ytgmpggloonkfnaa
