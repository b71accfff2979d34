/- The runs as the model tells them. -/
import Derived.Test.YtgmpggloonkfnaaRunsMath
import Derived.Test.YtgmpggloonkfnaaBitRunsSpec
namespace Go.Proofs.Ytgmpggloonkfnaa
open Go.RowKit

/-- All numbers of runs in a row. -/
def flat : List Rn → List Int
  | [] => []
  | x :: l => (x.1.1 : Int) :: (x.1.2 : Int) :: flat l
theorem flat_snoc (l : List Rn) (x : Rn) : flat (l ++ [x]) = flat l ++ [(x.1.1 : Int), (x.1.2 : Int)] := by
  induction l with
  | nil => rfl
  | cons y l ih => show _ :: _ :: flat (l ++ [x]) = _ :: _ :: _; rw [ih]; rfl
theorem flat_append (l m : List Rn) : flat (l ++ m) = flat l ++ flat m := by
  induction l with
  | nil => rfl
  | cons y l ih => show _ :: _ :: flat (l ++ m) = _ :: _ :: _; rw [ih]; rfl
theorem flat_length (l : List Rn) : (flat l).length = 2 * l.length := by
  induction l with
  | nil => rfl
  | cons y l ih => show (flat l).length + 1 + 1 = _; rw [ih, List.length_cons]; omega

theorem runsFrom_on {xs : List Int} (fs : List Int) : ∀ (m : Nat) (i : Int) (n : Nat), (∀ j : Nat, j < m → bitG xs (i + j) = true) → runsFrom xs fs i (m + n) = runsFrom xs fs (i + m) n
  | 0, i, n, _ => by rw [Nat.zero_add]; congr 1; omega
  | m + 1, i, n, h => by
    have h0 : bitG xs i = true := by have := h 0 (by omega); rwa [show i + ((0 : Nat) : Int) = i by omega] at this
    rw [show m + 1 + n = (m + n) + 1 by omega, show runsFrom xs fs i (m + n + 1) = runsFrom xs fs (i + 1) (m + n) from by show runsFrom _ (if _ then _ else _) _ _ = _; rw [if_pos h0],
      runsFrom_on fs m (i + 1) n (fun j hj => by have := h (j + 1) (by omega); rwa [show i + ((j + 1 : Nat) : Int) = i + 1 + j by omega] at this)]
    congr 1; omega

theorem addRun_join (fs : List Int) (s : Int) (j : Nat) (_ : 1 ≤ j) : addRun (fs ++ [s, (j : Int)]) (s + j) = fs ++ [s, ((j + 1 : Nat) : Int)] := by
  have hl : (fs ++ [s, (j : Int)]).length = fs.length + 2 := by simp
  have g2 : (fs ++ [s, (j : Int)]).getD fs.length 0 = s := by rw [List.getD_eq_getElem?_getD, List.getElem?_append_right (Nat.le_refl _)]; simp
  have g3 : (fs ++ [s, (j : Int)]).getD (fs.length + 1) 0 = j := by
    rw [List.getD_eq_getElem?_getD, List.getElem?_append_right (by omega), show fs.length + 1 - fs.length = 1 by omega]; rfl
  unfold addRun
  rw [hl, show fs.length + 2 - 2 = fs.length by omega, show fs.length + 2 - 1 = fs.length + 1 by omega, g2, g3, if_pos ⟨by omega, rfl⟩]
  rw [List.set_append, if_neg (by omega), show fs.length + 1 - fs.length = 1 by omega]
  rfl

theorem runsFrom_off' {xs : List Int} (fs : List Int) (s : Int) : ∀ (m j n : Nat), 1 ≤ j → (∀ q : Nat, q < m → bitG xs (s + j + q) = false) → runsFrom xs (fs ++ [s, (j : Int)]) (s + j) (m + n) = runsFrom xs (fs ++ [s, ((j + m : Nat) : Int)]) (s + j + m) n
  | 0, j, n, _, _ => by rw [Nat.zero_add]; congr 1; omega
  | m + 1, j, n, hj, h => by
    have h0 : ¬ bitG xs (s + j) = true := by have := h 0 (by omega); rw [show s + (j : Int) + ((0 : Nat) : Int) = s + j by omega] at this; rw [this]; decide
    rw [show m + 1 + n = (m + n) + 1 by omega, show runsFrom xs (fs ++ [s, (j : Int)]) (s + j) (m + n + 1) = runsFrom xs (fs ++ [s, ((j + 1 : Nat) : Int)]) (s + ((j + 1 : Nat) : Int)) (m + n) from by
      show runsFrom _ (if _ then _ else _) _ _ = _
      rw [if_neg h0, addRun_join fs s j hj]
      congr 1; omega]
    rw [runsFrom_off' fs s m (j + 1) n (by omega) (fun q hq => by have := h (q + 1) (by omega); rwa [show s + (j : Int) + ((q + 1 : Nat) : Int) = s + ((j + 1 : Nat) : Int) + q by omega] at this)]
    rw [show j + 1 + m = j + (m + 1) by omega, show s + ((j + 1 : Nat) : Int) + (m : Int) = s + (j : Int) + ((m + 1 : Nat) : Int) by omega]

/-- A run that joins none is told. -/
theorem runsFrom_off {xs : List Int} (fs : List Int) (s : Int) (m n : Nat) (hm : 1 ≤ m) (hno : addRun fs s = fs ++ [s, 1]) (h : ∀ q : Nat, q < m → bitG xs (s + q) = false) :
    runsFrom xs fs s (m + n) = runsFrom xs (fs ++ [s, (m : Int)]) (s + m) n := by
  obtain ⟨k, rfl⟩ : ∃ k, m = k + 1 := ⟨m - 1, by omega⟩
  have h0 : ¬ bitG xs s = true := by have := h 0 (by omega); rw [show s + ((0 : Nat) : Int) = s by omega] at this; rw [this]; decide
  rw [show k + 1 + n = (k + n) + 1 by omega, show runsFrom xs fs s (k + n + 1) = runsFrom xs (fs ++ [s, ((1 : Nat) : Int)]) (s + ((1 : Nat) : Int)) (k + n) from by
    show runsFrom _ (if _ then _ else _) _ _ = _
    rw [if_neg h0, hno]; rfl]
  rw [runsFrom_off' fs s k 1 n (Nat.le_refl _) (fun q hq => by have := h (q + 1) (by omega); rwa [show s + ((q + 1 : Nat) : Int) = s + ((1 : Nat) : Int) + q by omega] at this)]
  rw [show 1 + k = k + 1 by omega, show s + ((1 : Nat) : Int) + (k : Int) = s + ((k + 1 : Nat) : Int) by omega]

/-- fs ends ahead of i. -/
def Ends (fs : List Int) (i : Int) : Prop := fs = [] ∨ ∃ gs s l, fs = gs ++ [s, l] ∧ s + l < i
theorem Ends.no {fs : List Int} {i : Int} (h : Ends fs i) : addRun fs i = fs ++ [i, 1] := by
  rcases h with rfl | ⟨gs, s, l, rfl, h⟩
  · rfl
  · have g2 : (gs ++ [s, l]).getD gs.length 0 = s := by rw [List.getD_eq_getElem?_getD, List.getElem?_append_right (Nat.le_refl _)]; simp
    have g3 : (gs ++ [s, l]).getD (gs.length + 1) 0 = l := by
      rw [List.getD_eq_getElem?_getD, List.getElem?_append_right (by omega), show gs.length + 1 - gs.length = 1 by omega]; rfl
    unfold addRun
    rw [show (gs ++ [s, l]).length = gs.length + 2 by simp, show gs.length + 2 - 2 = gs.length by omega, show gs.length + 2 - 1 = gs.length + 1 by omega, g2, g3, if_neg (by omega)]

theorem runs_flat {xs : List Int} {E : Nat} (hE : E ≤ 8 * (mapL xs).length) : ∀ (k a : Nat) (fs : List Int), a ≤ E → E - a < k → (Ends fs a ∨ ((a = E ∨ bitG xs a = true) ∧ Ends fs ((a : Int) + 1))) → runsFrom xs fs a (E - a) = fs ++ flat (runsL (mapL xs) E k a)
  | 0, a, _, _, h, _ => by omega
  | k + 1, a, fs, ha, hk, he => by
    have hl := mapL_len xs
    obtain ⟨h1, h2⟩ := run_bits hE ha
    have hs := nextAt_le (mapL xs) false E a
    have hs2 := nextAt_ge (ys := mapL xs) (on := false) ha
    have hb := nextAt_le (mapL xs) true E (nextAt (mapL xs) false E a)
    rw [show E - a = (nextAt (mapL xs) false E a - a) + (E - nextAt (mapL xs) false E a) by omega, runsFrom_on _ _ _ _ h1, show (a : Int) + ((nextAt (mapL xs) false E a - a : Nat) : Int) = (nextAt (mapL xs) false E a : Int) by omega]
    by_cases h : nextAt (mapL xs) false E a < E
    · have hsb := nextAt_beyond h
      have hoff : bitG xs (nextAt (mapL xs) false E a) = false := by rw [bit_map (by omega)]; exact nextAt_at h
      have hE1 : Ends fs (nextAt (mapL xs) false E a) := by
        rcases he with he | ⟨ho, he⟩
        · rcases he with he | ⟨gs, s, l, e, hlt⟩
          · exact Or.inl he
          · exact Or.inr ⟨gs, s, l, e, by omega⟩
        · have hne : a ≠ nextAt (mapL xs) false E a := by
            intro e
            rcases ho with ho | ho
            · omega
            · rw [e, hoff] at ho; cases ho
          rcases he with he | ⟨gs, s, l, e, hlt⟩
          · exact Or.inl he
          · exact Or.inr ⟨gs, s, l, e, by omega⟩
      obtain ⟨x, hx, hr⟩ := runsL_cons k h (by omega)
      have hx1 : x.1.1 = nextAt (mapL xs) false E a := by rw [hx]
      have hx2 : x.1.2 = nextAt (mapL xs) true E (nextAt (mapL xs) false E a) - nextAt (mapL xs) false E a := by rw [hx]
      rw [show E - nextAt (mapL xs) false E a = (nextAt (mapL xs) true E (nextAt (mapL xs) false E a) - nextAt (mapL xs) false E a) + (E - nextAt (mapL xs) true E (nextAt (mapL xs) false E a)) by omega,
        runsFrom_off fs _ _ _ (by omega) hE1.no h2, show (nextAt (mapL xs) false E a : Int) + ((nextAt (mapL xs) true E (nextAt (mapL xs) false E a) - nextAt (mapL xs) false E a : Nat) : Int) = (nextAt (mapL xs) true E (nextAt (mapL xs) false E a) : Int) by omega]
      rw [runs_flat hE k (nextAt (mapL xs) true E (nextAt (mapL xs) false E a)) _ hb (by omega) (Or.inr ⟨?_, Or.inr ⟨fs, _, _, rfl, by omega⟩⟩), hr]
      · rw [List.append_assoc]
        show _ = fs ++ ((x.1.1 : Int) :: (x.1.2 : Int) :: _)
        rw [hx1, hx2]; rfl
      · rcases Nat.lt_or_eq_of_le hb with hb' | hb'
        · right; rw [bit_map (by omega)]; exact nextAt_at hb'
        · exact Or.inl hb'
    · rw [runsL_nil k h, show E - nextAt (mapL xs) false E a = 0 by omega]
      show fs = fs ++ []
      rw [List.append_nil]

theorem runs_cut (xs : List Int) (f t : Int) : runsD xs f t = flat (runsL (mapL xs) (cutE (mapL xs).length f t) 16385 (cutA (mapL xs).length f)) := by
  obtain ⟨h1, h2⟩ := cut_same (xs := xs) (f := f) (t := t)
  have hb := cut_bounds (mapL xs).length f t
  have hl := mapL_len xs
  have h := runs_flat (xs := xs) hb.2 16385 (cutA (mapL xs).length f) [] hb.1 (by omega) (Or.inl (Or.inl rfl))
  rw [List.nil_append] at h
  rw [← h]
  unfold runsD
  rw [← h2]
  rcases h1 with h1 | h1
  · rw [h1]
  · rw [h1]; rfl

theorem runsL_len2 (ys : List Int) (E : Nat) : ∀ (k a : Nat), a ≤ E → (runsL ys E k a).length ≤ E - a
  | 0, _, _ => Nat.zero_le _
  | k + 1, a, ha => by
    by_cases h : nextAt ys false E a < E ∧ E ≤ 16384
    · obtain ⟨x, _, hr⟩ := runsL_cons (ys := ys) k h.1 h.2
      have := runsL_len2 ys E k (nextAt ys true E (nextAt ys false E a)) (nextAt_le _ _ _ _)
      have := nextAt_beyond h.1
      have := nextAt_ge (ys := ys) (on := false) ha
      have := nextAt_le ys true E (nextAt ys false E a)
      rw [hr, List.length_cons]; omega
    · rw [show runsL ys E (k + 1) a = [] from dif_neg h]; exact Nat.zero_le _

end Go.Proofs.Ytgmpggloonkfnaa
