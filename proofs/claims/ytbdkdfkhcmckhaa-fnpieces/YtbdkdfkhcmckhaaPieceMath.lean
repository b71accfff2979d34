/- What the pieces of a range are: one behind the other, within blocks of rising index, the whole of it; what a file of these indexes needs. -/
import Derived.Test.YtbdkdfkhcmckhaaSpansSpec
import Derived.Test.YtbdkdfkhcmckhaaNeedSpec
namespace Go.Proofs.Ytbdkdfkhcmckhaa
open Go.RowKit

/-- K pieces (index, from, count, at), together m bytes from o on. -/
structure Pieces (o m : Nat) (fs : List Int) (K : Nat) : Prop where
  len : fs.length = 4 * K
  idx : ∀ j, j < K → fs.getD (4 * j) 0 = ((o / 64 + j : Nat) : Int)
  cnt : ∀ j, j < K → 1 ≤ fs.getD (4 * j + 2) 0
  frm : ∀ j, j < K → fs.getD (4 * j + 1) 0 = if j = 0 then ((o % 64 : Nat) : Int) else 0
  room : ∀ j, j < K → fs.getD (4 * j + 1) 0 + fs.getD (4 * j + 2) 0 ≤ 64
  at0 : 0 < K → fs.getD 3 0 = 0
  next : ∀ j, j + 1 < K → fs.getD (4 * (j + 1) + 3) 0 = fs.getD (4 * j + 3) 0 + fs.getD (4 * j + 2) 0
  full : ∀ j, j < K → fs.getD (4 * j) 0 * 64 + fs.getD (4 * j + 1) 0 = (o : Int) + fs.getD (4 * j + 3) 0
  all : 0 < K → fs.getD (4 * (K - 1) + 3) 0 + fs.getD (4 * (K - 1) + 2) 0 = (m : Int)
  none : K = 0 → m = 0

theorem Pieces.start (o : Nat) : Pieces o 0 [] 0 :=
  ⟨rfl, fun j h => absurd h (Nat.not_lt_zero j), fun j h => absurd h (Nat.not_lt_zero j), fun j h => absurd h (Nat.not_lt_zero j), fun j h => absurd h (Nat.not_lt_zero j), fun h => absurd h (Nat.lt_irrefl 0), fun _ h => absurd h (Nat.not_lt_zero _), fun j h => absurd h (Nat.not_lt_zero j), fun h => absurd h (Nat.lt_irrefl 0), fun _ => rfl⟩

theorem Pieces.add {o m : Nat} {fs : List Int} {K : Nat} (h : Pieces o m fs K) : ∃ K', Pieces o (m + 1) (addSpan fs o m) K' := by
  have hlen := h.len
  unfold addSpan
  by_cases hc : 0 < fs.length ∧ fs.getD (fs.length - 4) 0 = ((o + m) / 64 : Nat)
  · rw [if_pos hc]
    obtain ⟨M, rfl⟩ : ∃ M, K = M + 1 := ⟨K - 1, by omega⟩
    have e4 : fs.length - 4 = 4 * M := by omega
    have e2 : fs.length - 2 = 4 * M + 2 := by omega
    rw [e4] at hc
    rw [e2]
    have g1 : (fs.set (4 * M + 2) (fs.getD (4 * M + 2) 0 + 1)).getD (4 * M + 2) 0 = fs.getD (4 * M + 2) 0 + 1 := by
      rw [List.getD_eq_getElem?_getD, List.getElem?_set_self (by omega)]; rfl
    have g2 : ∀ j, j ≠ 4 * M + 2 → (fs.set (4 * M + 2) (fs.getD (4 * M + 2) 0 + 1)).getD j 0 = fs.getD j 0 := by
      intro j hj
      simp only [List.getD_eq_getElem?_getD, List.getElem?_set_ne (fun e => hj e.symm)]
    have hi := h.idx M (by omega)
    have hf := h.full M (by omega)
    have ha : fs.getD (4 * M + 3) 0 + fs.getD (4 * M + 2) 0 = (m : Int) := h.all (by omega)
    refine ⟨M + 1, by rw [List.length_set]; exact hlen, fun j hj => ?_, fun j hj => ?_, fun j hj => ?_, fun j hj => ?_, fun hj => ?_, fun j hj => ?_, fun j hj => ?_, fun _ => ?_, fun h0 => by omega⟩
    · rw [g2 _ (by omega)]; exact h.idx j hj
    · by_cases e : j = M
      · subst e; rw [g1]; have := h.cnt j hj; omega
      · rw [g2 _ (by omega)]; exact h.cnt j hj
    · rw [g2 _ (by omega)]; exact h.frm j hj
    · rw [g2 (4 * j + 1) (by omega)]
      by_cases e : j = M
      · subst e
        rw [g1]
        have h1 := hc.2
        rw [hi] at h1 hf
        omega
      · rw [g2 _ (by omega)]; exact h.room j hj
    · rw [g2 _ (by omega)]; exact h.at0 hj
    · rw [g2 _ (by omega), g2 (4 * j + 3) (by omega), g2 (4 * j + 2) (by omega)]; exact h.next j hj
    · rw [g2 _ (by omega), g2 (4 * j + 1) (by omega), g2 (4 * j + 3) (by omega)]; exact h.full j hj
    · show (fs.set (4 * M + 2) _).getD (4 * M + 3) 0 + (fs.set (4 * M + 2) _).getD (4 * M + 2) 0 = _
      rw [g2 _ (by omega), g1]
      omega
  · rw [if_neg hc]
    have g1 : ∀ j, j < fs.length → (fs ++ [(((o + m) / 64 : Nat) : Int), (((o + m) % 64 : Nat) : Int), 1, (m : Int)]).getD j 0 = fs.getD j 0 := by
      intro j hj
      rw [List.getD_eq_getElem?_getD, List.getD_eq_getElem?_getD, List.getElem?_append_left hj]
    have gx : ∀ i, i < 4 → (fs ++ [(((o + m) / 64 : Nat) : Int), (((o + m) % 64 : Nat) : Int), 1, (m : Int)]).getD (4 * K + i) 0 = ([(((o + m) / 64 : Nat) : Int), (((o + m) % 64 : Nat) : Int), 1, (m : Int)] : List Int).getD i 0 := by
      intro i hi
      rw [List.getD_eq_getElem?_getD, List.getElem?_append_right (by omega), hlen, Nat.add_sub_cancel_left, List.getD_eq_getElem?_getD]
    have k0 := gx 0 (by omega)
    have k1 := gx 1 (by omega)
    have k2 := gx 2 (by omega)
    have k3 := gx 3 (by omega)
    simp only [Nat.add_zero] at k0
    have k0 : _ = (((o + m) / 64 : Nat) : Int) := k0
    have k1 : _ = (((o + m) % 64 : Nat) : Int) := k1
    have k2 : _ = (1 : Int) := k2
    have k3 : _ = (m : Int) := k3
    -- where the new one begins
    have hnew : (o + m) / 64 = o / 64 + K ∧ (o + m) % 64 = (if K = 0 then o % 64 else 0) := by
      by_cases e : K = 0
      · have := h.none e
        subst e this
        simp
      · rw [if_neg e]
        obtain ⟨M, rfl⟩ : ∃ M, K = M + 1 := ⟨K - 1, by omega⟩
        have hi := h.idx M (by omega)
        have hf := h.full M (by omega)
        have hr := h.room M (by omega)
        have hq := h.cnt M (by omega)
        have hfr : 0 ≤ fs.getD (4 * M + 1) 0 := by rw [h.frm M (by omega)]; split <;> omega
        have ha : fs.getD (4 * M + 3) 0 + fs.getD (4 * M + 2) 0 = (m : Int) := h.all (by omega)
        have hne : fs.getD (4 * M) 0 ≠ (((o + m) / 64 : Nat) : Int) := fun e' => hc ⟨by omega, by rw [show fs.length - 4 = 4 * M by omega]; exact e'⟩
        rw [hi] at hf hne
        omega
    refine ⟨K + 1, by rw [List.length_append, hlen]; simp; omega, fun j hj => ?_, fun j hj => ?_, fun j hj => ?_, fun j hj => ?_, fun _ => ?_, fun j hj => ?_, fun j hj => ?_, fun _ => ?_, fun h0 => by omega⟩
    · by_cases e : j = K
      · subst e; rw [k0, hnew.1]
      · rw [g1 _ (by omega)]; exact h.idx j (by omega)
    · by_cases e : j = K
      · subst e; rw [k2]; omega
      · rw [g1 _ (by omega)]; exact h.cnt j (by omega)
    · by_cases e : j = K
      · subst e
        rw [k1, hnew.2]
        split <;> rfl
      · rw [g1 _ (by omega)]; exact h.frm j (by omega)
    · by_cases e : j = K
      · subst e; rw [k1, k2]; omega
      · rw [g1 _ (by omega), g1 _ (by omega)]; exact h.room j (by omega)
    · by_cases e : K = 0
      · have := h.none e
        subst e this
        exact k3
      · rw [g1 _ (by omega)]; exact h.at0 (by omega)
    · by_cases e : j + 1 = K
      · rw [e, k3, g1 _ (by omega), g1 _ (by omega)]
        have := h.all (by omega)
        rw [show K - 1 = j by omega] at this
        omega
      · rw [g1 _ (by omega), g1 _ (by omega), g1 _ (by omega)]; exact h.next j (by omega)
    · by_cases e : j = K
      · subst e; rw [k0, k1, k3]; omega
      · rw [g1 _ (by omega), g1 _ (by omega), g1 _ (by omega)]; exact h.full j (by omega)
    · show (fs ++ _).getD (4 * K + 3) 0 + (fs ++ _).getD (4 * K + 2) 0 = _
      rw [k3, k2]
      omega

theorem pieces_from (o : Nat) : ∀ (n : Nat) (fs : List Int) (m K : Nat), Pieces o m fs K → ∃ K', Pieces o (m + n) (spansFrom o fs m n) K'
  | 0, fs, m, K, h => ⟨K, h⟩
  | n + 1, fs, m, K, h => by
    obtain ⟨K1, h1⟩ := h.add
    obtain ⟨K', h2⟩ := pieces_from o n _ (m + 1) K1 h1
    refine ⟨K', ?_⟩
    rw [show m + (n + 1) = m + 1 + n by omega]
    exact h2

/-- The pieces of a range within a file. -/
theorem pieces_of {o n : Nat} (h : InFile o n) {K : Nat} (hK : (spansD o n).length = K * 4) : Pieces o n (spansD o n) K := by
  have e : spansD o n = spansFrom o [] 0 n := by unfold spansD; rw [if_pos h]; rfl
  obtain ⟨K', h'⟩ := pieces_from o n [] 0 0 (Pieces.start o)
  rw [Nat.zero_add, ← e] at h'
  obtain rfl : K' = K := by have := h'.len; omega
  exact h'

/-- How many of an interval lie below k. -/
theorem cntTo_interval (a b : Nat) (p : Nat → Bool) (hp : ∀ k, p k = decide (a ≤ k ∧ k < b)) : ∀ k, cntTo p k = min k b - min k a
  | 0 => by simp [cntTo]
  | k + 1 => by
    unfold cntTo
    rw [cntTo_interval a b p hp k, hp k]
    by_cases e : a ≤ k ∧ k < b
    · rw [if_pos (by simpa using e)]; omega
    · rw [if_neg (by simpa using e)]; omega

theorem farTo_interval (a b : Nat) (p : Nat → Bool) (hp : ∀ k, p k = decide (a ≤ k ∧ k < b)) : ∀ k, farTo p k = if max a 8 < min k b then 1 else 0
  | 0 => by unfold farTo; rw [if_neg (by omega)]
  | k + 1 => by
    unfold farTo
    rw [farTo_interval a b p hp k, hp k]
    by_cases e : (a ≤ k ∧ k < b) ∧ 8 ≤ k
    · rw [if_pos ⟨by simpa using e.1, e.2⟩, if_pos (by omega)]
    · rw [if_neg (fun h => e ⟨by simpa using h.1, h.2⟩)]
      by_cases e2 : max a 8 < min k b
      · rw [if_pos e2, if_pos (by omega)]
      · rw [if_neg e2, if_neg (by omega)]

/-- What a file of the blocks a .. a+K-1 needs, each told twice. -/
theorem need_interval {xs : List Int} {a K : Nat} (hK : 0 < K) (h40 : a + K ≤ 40) (hl : xs.length ≤ 100000) (hx : ∀ k : Nat, (k : Int) ∈ xs ↔ a ≤ k ∧ k < a + K) (hb : ∀ x ∈ xs, 0 ≤ x ∧ x < 40) :
    needD xs = (K : Int) + (if 8 ≤ a + K - 1 then 1 else 0) := by
  have hI : InIdx xs := ⟨hl, hb⟩
  have hp : ∀ k, hasI xs k = decide (a ≤ k ∧ k < a + K) := by
    intro k
    unfold hasI
    exact decide_eq_decide.2 (hx k)
  rw [needD_in hI, cntTo_interval a (a + K) _ hp, farTo_interval a (a + K) _ hp]
  by_cases e : 8 ≤ a + K - 1
  · rw [if_pos e, if_pos (by omega)]; omega
  · rw [if_neg e, if_neg (by omega)]; omega

end Go.Proofs.Ytbdkdfkhcmckhaa
