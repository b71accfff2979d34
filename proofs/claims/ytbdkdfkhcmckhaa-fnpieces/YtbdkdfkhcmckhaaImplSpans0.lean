/- Pieces of a file: the list of them, against the model's. -/
import Derived.Test.YtbdkdfkhcmckhaaSpansSpec
namespace Go.Proofs.Ytbdkdfkhcmckhaa
open Go.RowKit

/-- How long the piece is that begins behind d bytes. -/
def cntS (o n d : Nat) : Nat := min (64 - (o + d) % 64) (n - d)
theorem cntS_pos {o n d : Nat} (h : d < n) : 1 ≤ cntS o n d := by unfold cntS; omega
theorem cntS_le {o n d : Nat} : cntS o n d ≤ n - d := by unfold cntS; omega
/-- The pieces behind d bytes: where each begins, how long it is. -/
def spL (o n : Nat) : Nat → Nat → List (Nat × Nat)
  | 0, _ => []
  | k + 1, d => if d < n then (d, cntS o n d) :: spL o n k (d + cntS o n d) else []
theorem spL_cons {o n d : Nat} (k : Nat) (h : d < n) : spL o n (k + 1) d = (d, cntS o n d) :: spL o n k (d + cntS o n d) := if_pos h
theorem spL_nil {o n d : Nat} (k : Nat) (h : ¬ d < n) : spL o n (k + 1) d = [] := if_neg h
/-- All numbers of them in a row. -/
def flatS (o : Nat) : List (Nat × Nat) → List Int
  | [] => []
  | x :: l => (((o + x.1) / 64 : Nat) : Int) :: (((o + x.1) % 64 : Nat) : Int) :: (x.2 : Int) :: (x.1 : Int) :: flatS o l
theorem flatS_snoc (o : Nat) (l : List (Nat × Nat)) (x : Nat × Nat) : flatS o (l ++ [x]) = flatS o l ++ [(((o + x.1) / 64 : Nat) : Int), (((o + x.1) % 64 : Nat) : Int), (x.2 : Int), (x.1 : Int)] := by
  induction l with
  | nil => rfl
  | cons y l ih => show _ :: _ :: _ :: _ :: flatS o (l ++ [x]) = _ :: _ :: _ :: _ :: _; rw [ih]; rfl
theorem spL_len (o n : Nat) : ∀ k d, (spL o n k d).length ≤ n - d
  | 0, _ => Nat.zero_le _
  | k + 1, d => by
    by_cases h : d < n
    · rw [spL_cons k h, List.length_cons]
      have := spL_len o n k (d + cntS o n d)
      have := cntS_pos (o := o) h
      have := cntS_le (o := o) (n := n) (d := d)
      omega
    · rw [spL_nil k h]; exact Nat.zero_le _

theorem getD_app (fs : List Int) (a b c d : Int) (i : Nat) (x : Int) (h : [a, b, c, d].getD i 0 = x) (hi : i < 4) : (fs ++ [a, b, c, d]).getD (fs.length + i) 0 = x := by
  rw [List.getD_eq_getElem?_getD, List.getElem?_append_right (by omega), Nat.add_sub_cancel_left, ← List.getD_eq_getElem?_getD]
  exact h

theorem addSpan_join (fs : List Int) (o q r j d : Nat) (m : Nat) (h : (o + m) / 64 = q) : addSpan (fs ++ [(q : Int), (r : Int), (j : Int), (d : Int)]) o m = fs ++ [(q : Int), (r : Int), ((j + 1 : Nat) : Int), (d : Int)] := by
  have hl : (fs ++ [(q : Int), (r : Int), (j : Int), (d : Int)]).length = fs.length + 4 := by simp
  have g0 := getD_app fs (q : Int) (r : Int) (j : Int) (d : Int) 0 q rfl (by omega)
  have g2 := getD_app fs (q : Int) (r : Int) (j : Int) (d : Int) 2 j rfl (by omega)
  unfold addSpan
  rw [hl, show fs.length + 4 - 4 = fs.length + 0 by omega, show fs.length + 4 - 2 = fs.length + 2 by omega, g0, g2, if_pos ⟨by omega, by rw [h]⟩]
  rw [List.set_append, if_neg (by omega), show fs.length + 2 - fs.length = 2 by omega]
  rfl

theorem spansFrom_join (fs : List Int) (o q r d : Nat) : ∀ (m j n : Nat), (∀ i, i < m → (o + (d + j + i)) / 64 = q) →
    spansFrom o (fs ++ [(q : Int), (r : Int), (j : Int), (d : Int)]) (d + j) (m + n) = spansFrom o (fs ++ [(q : Int), (r : Int), ((j + m : Nat) : Int), (d : Int)]) (d + j + m) n
  | 0, j, n, _ => by rw [Nat.zero_add]; rfl
  | m + 1, j, n, h => by
    rw [show m + 1 + n = (m + n) + 1 by omega, show spansFrom o (fs ++ [(q : Int), (r : Int), (j : Int), (d : Int)]) (d + j) (m + n + 1) = spansFrom o (addSpan (fs ++ [(q : Int), (r : Int), (j : Int), (d : Int)]) o (d + j)) (d + j + 1) (m + n) from rfl,
      addSpan_join fs o q r j d (d + j) (by have := h 0 (by omega); exact this)]
    have := spansFrom_join fs o q r d m (j + 1) n (fun i hi => by have := h (i + 1) (by omega); rw [show d + j + (i + 1) = d + (j + 1) + i by omega] at this; exact this)
    rw [show d + j + 1 = d + (j + 1) by omega, this]
    rw [show j + 1 + m = j + (m + 1) by omega, show d + (j + 1) + m = d + j + (m + 1) by omega]

theorem spans_flat (o n : Nat) : ∀ (k : Nat) (d : Nat) (fs : List Int), n - d < k → (addSpan fs o d = fs ++ [(((o + d) / 64 : Nat) : Int), (((o + d) % 64 : Nat) : Int), 1, (d : Int)] ∨ ¬ d < n) →
    spansFrom o fs d (n - d) = fs ++ flatS o (spL o n k d)
  | 0, d, fs, h, _ => absurd h (Nat.not_lt_zero _)
  | k + 1, d, fs, h, hj => by
    by_cases hd : d < n
    · have hc := cntS_pos (o := o) hd
      have hcl := cntS_le (o := o) (n := n) (d := d)
      have hcm : cntS o n d ≤ 64 - (o + d) % 64 := by unfold cntS; omega
      have hce : cntS o n d = 64 - (o + d) % 64 ∨ cntS o n d = n - d := by unfold cntS; omega
      rw [spL_cons k hd]
      generalize cntS o n d = c at *
      obtain ⟨e, rfl⟩ : ∃ e, c = e + 1 := ⟨c - 1, by omega⟩
      have hj := hj.resolve_right (fun h => h hd)
      rw [show n - d = (e + (n - (d + (e + 1)))) + 1 by omega, show ∀ m, spansFrom o fs d (m + 1) = spansFrom o (addSpan fs o d) (d + 1) m from fun m => rfl, hj]
      have hs := spansFrom_join fs o ((o + d) / 64) ((o + d) % 64) d e 1 (n - (d + (e + 1))) (fun i hi => by omega)
      rw [show ((1 : Nat) : Int) = 1 from rfl] at hs
      rw [hs, show d + 1 + e = d + (e + 1) by omega, show 1 + e = e + 1 by omega]
      rw [spans_flat o n k (d + (e + 1)) _ (by omega) ?_]
      · show (fs ++ _) ++ _ = fs ++ (_ :: _ :: _ :: _ :: _)
        rw [List.append_assoc]
        rfl
      · by_cases h2 : d + (e + 1) < n
        · left
          unfold addSpan
          have hl : (fs ++ [(((o + d) / 64 : Nat) : Int), (((o + d) % 64 : Nat) : Int), ((e + 1 : Nat) : Int), (d : Int)]).length = fs.length + 4 := by simp
          have g0 := getD_app fs (((o + d) / 64 : Nat) : Int) (((o + d) % 64 : Nat) : Int) ((e + 1 : Nat) : Int) (d : Int) 0 (((o + d) / 64 : Nat) : Int) rfl (by omega)
          rw [hl, show fs.length + 4 - 4 = fs.length + 0 by omega, g0, if_neg (fun h => by have := h.2; omega)]
        · exact Or.inr h2
    · rw [spL_nil k hd, show n - d = 0 by omega]
      show fs = fs ++ []
      rw [List.append_nil]

theorem spans_all (o n : Nat) : spansFrom o [] 0 n = flatS o (spL o n (n + 1) 0) := by
  have := spans_flat o n (n + 1) 0 [] (by omega) (Or.inl (by unfold addSpan; rfl))
  simpa using this

end Go.Proofs.Ytbdkdfkhcmckhaa
