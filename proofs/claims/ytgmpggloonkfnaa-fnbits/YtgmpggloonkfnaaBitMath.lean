/- What the runs, the first and the count of bits have to do with each other; a bit that is put. -/
import Derived.Test.YtgmpggloonkfnaaBitRunsSpec
import Derived.Test.YtgmpggloonkfnaaBitPutSpec
namespace Go.Proofs.Ytgmpggloonkfnaa
open Go.RowKit

/-- How long the first K runs are together. -/
def lsum (fs : List Int) : Nat → Int
  | 0 => 0
  | K + 1 => lsum fs K + fs.getD (2 * K + 1) 0

/-- The runs within lo .. i-1, c bits on beside them. -/
structure RunsOk (xs : List Int) (lo i : Int) (fs : List Int) (K : Nat) (c : Nat) : Prop where
  len : fs.length = 2 * K
  low : ∀ j, j < K → lo ≤ fs.getD (2 * j) 0
  pos : ∀ j, j < K → 1 ≤ fs.getD (2 * j + 1) 0
  top : ∀ j, j < K → fs.getD (2 * j) 0 + fs.getD (2 * j + 1) 0 ≤ i
  off : ∀ j, j < K → ∀ k : Int, fs.getD (2 * j) 0 ≤ k → k < fs.getD (2 * j) 0 + fs.getD (2 * j + 1) 0 → bitG xs k = false
  apart : ∀ j, j + 1 < K → fs.getD (2 * j) 0 + fs.getD (2 * j + 1) 0 < fs.getD (2 * (j + 1)) 0
  all : (c : Int) + lsum fs K = i - lo
  fst : K = 0 → ∀ k : Int, lo ≤ k → k < i → bitG xs k = true
  fst' : 0 < K → ∀ k : Int, lo ≤ k → k < fs.getD 0 0 → bitG xs k = true

theorem RunsOk.start (xs : List Int) (lo : Int) : RunsOk xs lo lo [] 0 0 :=
  ⟨rfl, fun j h => absurd h (Nat.not_lt_zero j), fun j h => absurd h (Nat.not_lt_zero j), fun j h => absurd h (Nat.not_lt_zero j), fun j h => absurd h (Nat.not_lt_zero j), fun j h => absurd h (Nat.not_lt_zero _), by simp [lsum], fun _ k h1 h2 => by omega, fun h => absurd h (Nat.not_lt_zero 0)⟩

theorem RunsOk.on {xs : List Int} {lo i : Int} {fs : List Int} {K c : Nat} (h : RunsOk xs lo i fs K c) (hb : bitG xs i = true) : RunsOk xs lo (i + 1) fs K (c + 1) := by
  refine ⟨h.len, h.low, h.pos, fun j hj => by have := h.top j hj; omega, h.off, h.apart, by have := h.all; push_cast; omega, fun h0 k h1 h2 => ?_, h.fst'⟩
  by_cases e : k = i
  · rw [e]; exact hb
  · exact h.fst h0 k h1 (by omega)

theorem lsum_ext {fs gs : List Int} : ∀ K, (∀ j, j < K → gs.getD (2 * j + 1) 0 = fs.getD (2 * j + 1) 0) → lsum gs K = lsum fs K
  | 0, _ => rfl
  | K + 1, h => by
    show lsum gs K + _ = lsum fs K + _
    rw [lsum_ext K (fun j hj => h j (by omega)), h K (Nat.lt_succ_self K)]

theorem RunsOk.no {xs : List Int} {lo i : Int} {fs : List Int} {K c : Nat} (h : RunsOk xs lo i fs K c) (hlo : lo ≤ i) (hb : bitG xs i = false) : ∃ K', RunsOk xs lo (i + 1) (addRun fs i) K' c := by
  have hlen := h.len
  unfold addRun
  by_cases hc : 0 < fs.length ∧ fs.getD (fs.length - 2) 0 + fs.getD (fs.length - 1) 0 = i
  · rw [if_pos hc]
    obtain ⟨M, rfl⟩ : ∃ M, K = M + 1 := ⟨K - 1, by omega⟩
    have e2 : fs.length - 2 = 2 * M := by omega
    have e1 : fs.length - 1 = 2 * M + 1 := by omega
    rw [e2, e1] at hc
    rw [e1]
    have g1 : (fs.set (2 * M + 1) (fs.getD (2 * M + 1) 0 + 1)).getD (2 * M + 1) 0 = fs.getD (2 * M + 1) 0 + 1 := by
      rw [List.getD_eq_getElem?_getD, List.getElem?_set_self (by omega)]; rfl
    have g2 : ∀ j, j ≠ 2 * M + 1 → (fs.set (2 * M + 1) (fs.getD (2 * M + 1) 0 + 1)).getD j 0 = fs.getD j 0 := by
      intro j hj
      simp only [List.getD_eq_getElem?_getD, List.getElem?_set_ne (fun e => hj e.symm)]
    refine ⟨M + 1, by rw [List.length_set]; exact hlen, fun j hj => ?_, fun j hj => ?_, fun j hj => ?_, fun j hj k k1 k2 => ?_, fun j hj => ?_, ?_, fun h0 => by omega, fun _ k k1 k2 => ?_⟩
    · rw [g2 _ (by omega)]; exact h.low j hj
    · by_cases e : j = M
      · subst e; rw [g1]; have := h.pos j hj; omega
      · rw [g2 _ (by omega)]; exact h.pos j hj
    · rw [g2 (2 * j) (by omega)]
      by_cases e : j = M
      · subst e; rw [g1]; omega
      · rw [g2 _ (by omega)]; have := h.top j hj; omega
    · rw [g2 (2 * j) (by omega)] at k1 k2
      by_cases e : j = M
      · subst e
        rw [g1] at k2
        by_cases e3 : k = i
        · rw [e3]; exact hb
        · exact h.off j hj k k1 (by omega)
      · rw [g2 _ (by omega)] at k2
        exact h.off j hj k k1 k2
    · rw [g2 (2 * j) (by omega), g2 (2 * j + 1) (by omega), g2 (2 * (j + 1)) (by omega)]
      exact h.apart j hj
    · have ha := h.all
      show (c : Int) + (lsum _ M + _) = _
      rw [g1, lsum_ext (fs := fs) M (fun j hj => g2 _ (by omega))]
      have : lsum fs (M + 1) = lsum fs M + fs.getD (2 * M + 1) 0 := rfl
      omega
    · rw [g2 0 (by omega)] at k2
      exact h.fst' (by omega) k k1 k2
  · rw [if_neg hc]
    have g1 : ∀ j, j < fs.length → (fs ++ [i, 1]).getD j 0 = fs.getD j 0 := by
      intro j hj
      rw [List.getD_eq_getElem?_getD, List.getD_eq_getElem?_getD, List.getElem?_append_left hj]
    have g2 : (fs ++ [i, 1]).getD (2 * K) 0 = i := by
      rw [List.getD_eq_getElem?_getD, List.getElem?_append_right (by omega), hlen]; simp
    have g3 : (fs ++ [i, 1]).getD (2 * K + 1) 0 = 1 := by
      rw [List.getD_eq_getElem?_getD, List.getElem?_append_right (by omega), hlen]
      rw [show 2 * K + 1 - 2 * K = 1 by omega]; rfl
    refine ⟨K + 1, by rw [List.length_append, hlen]; simp; omega, fun j hj => ?_, fun j hj => ?_, fun j hj => ?_, fun j hj k k1 k2 => ?_, fun j hj => ?_, ?_, fun h0 => by omega, fun _ k k1 k2 => ?_⟩
    · by_cases e : j = K
      · subst e; rw [g2]; exact hlo
      · rw [g1 _ (by omega)]; exact h.low j (by omega)
    · by_cases e : j = K
      · subst e; rw [g3]; omega
      · rw [g1 _ (by omega)]; exact h.pos j (by omega)
    · by_cases e : j = K
      · subst e; rw [g2, g3]; omega
      · rw [g1 _ (by omega), g1 _ (by omega)]; have := h.top j (by omega); omega
    · by_cases e : j = K
      · subst e
        rw [g2] at k1 k2
        rw [g3] at k2
        rw [show k = i by omega]
        exact hb
      · rw [g1 _ (by omega)] at k1 k2
        rw [g1 _ (by omega)] at k2
        exact h.off j (by omega) k k1 k2
    · rw [g1 (2 * j) (by omega), g1 (2 * j + 1) (by omega)]
      by_cases e : j + 1 = K
      · rw [e, g2]
        have ht := h.top j (by omega)
        have hne : fs.getD (2 * j) 0 + fs.getD (2 * j + 1) 0 ≠ i := fun e' => hc ⟨by omega, by rw [show fs.length - 2 = 2 * j by omega, show fs.length - 1 = 2 * j + 1 by omega]; exact e'⟩
        omega
      · rw [g1 (2 * (j + 1)) (by omega)]; exact h.apart j (by omega)
    · have ha := h.all
      show (c : Int) + (lsum _ K + _) = _
      rw [g3, lsum_ext (fs := fs) K (fun j hj => g1 _ (by omega))]
      omega
    · by_cases e : K = 0
      · subst e
        rw [show (fs ++ [i, 1]).getD 0 0 = i from g2] at k2
        exact h.fst rfl k k1 k2
      · rw [g1 0 (by omega)] at k2
        exact h.fst' (by omega) k k1 k2

theorem runs_ok (xs : List Int) (lo : Int) : ∀ (n : Nat) (fs : List Int) (i : Int) (K c : Nat), lo ≤ i → RunsOk xs lo i fs K c → ∃ K', RunsOk xs lo (i + n) (runsFrom xs fs i n) K' (c + countFrom xs i n)
  | 0, fs, i, K, c, _, h => ⟨K, by simpa [runsFrom, countFrom] using h⟩
  | n + 1, fs, i, K, c, hlo, h => by
    unfold runsFrom countFrom
    by_cases hb : bitG xs i = true
    · rw [if_pos hb, if_pos hb]
      obtain ⟨K', hK⟩ := runs_ok xs lo n fs (i + 1) K (c + 1) (by omega) (h.on hb)
      refine ⟨K', ?_⟩
      rw [show i + ((n + 1 : Nat) : Int) = i + 1 + n by push_cast; omega, show c + (1 + countFrom xs (i + 1) n) = c + 1 + countFrom xs (i + 1) n by omega]
      exact hK
    · rw [if_neg hb, if_neg hb]
      obtain ⟨K1, h1⟩ := h.no hlo (by simpa using hb)
      obtain ⟨K', hK⟩ := runs_ok xs lo n _ (i + 1) K1 c (by omega) h1
      refine ⟨K', ?_⟩
      rw [show i + ((n + 1 : Nat) : Int) = i + 1 + n by push_cast; omega, Nat.zero_add]
      exact hK

theorem first_none {xs : List Int} : ∀ (n : Nat) (i : Int), (∀ k : Int, i ≤ k → k < i + n → bitG xs k = true) → firstFrom xs i n = -1
  | 0, _, _ => rfl
  | n + 1, i, h => by
    unfold firstFrom
    rw [if_pos (h i (by omega) (by omega))]
    exact first_none n (i + 1) (fun k h1 h2 => h k (by omega) (by omega))

theorem first_at {xs : List Int} : ∀ (n : Nat) (i a : Int), i ≤ a → a < i + n → (∀ k : Int, i ≤ k → k < a → bitG xs k = true) → bitG xs a = false → firstFrom xs i n = a
  | 0, i, a, h1, h2, _, _ => by omega
  | n + 1, i, a, h1, h2, h, hf => by
    unfold firstFrom
    by_cases e : i = a
    · subst e; rw [if_neg (by rw [hf]; decide)]
    · rw [if_pos (h i (by omega) (by omega))]
      exact first_at n (i + 1) a (by omega) (by omega) (fun k k1 k2 => h k (by omega) k2) hf

/-- All of it, of the program's answers. -/
theorem bits_all (xs : List Int) (f t : Int) : ∃ (lo hi : Int) (K : Nat), RunsOk xs lo hi (runsD xs f t) K (countD xs f t) ∧ 0 ≤ lo ∧ lo ≤ hi ∧ (K = 0 → firstD xs f t = -1) ∧ (0 < K → firstD xs f t = (runsD xs f t).getD 0 0) ∧ lo = wlo f ∧ hi = wlo f + ((whi xs t - wlo f).toNat : Int) := by
  have hw := wlo_ge f
  obtain ⟨K, hK⟩ := runs_ok xs (wlo f) (whi xs t - wlo f).toNat [] (wlo f) 0 0 (Int.le_refl _) (RunsOk.start xs _)
  rw [Nat.zero_add] at hK
  refine ⟨wlo f, _, K, hK, hw, by omega, fun h0 => ?_, fun h0 => ?_, rfl, rfl⟩
  · exact first_none _ _ (hK.fst h0)
  · have hp : 1 ≤ (runsD xs f t).getD 1 0 := hK.pos 0 h0
    have ht : (runsD xs f t).getD 0 0 + (runsD xs f t).getD 1 0 ≤ wlo f + ((whi xs t - wlo f).toNat : Int) := hK.top 0 h0
    have hl : wlo f ≤ (runsD xs f t).getD 0 0 := hK.low 0 h0
    have hoff : bitG xs ((runsD xs f t).getD 0 0) = false := hK.off 0 h0 _ (Int.le_refl _) (show (runsD xs f t).getD 0 0 < (runsD xs f t).getD 0 0 + (runsD xs f t).getD 1 0 by omega)
    exact first_at _ _ _ hl (by omega) (hK.fst' h0) hoff

end Go.Proofs.Ytgmpggloonkfnaa
