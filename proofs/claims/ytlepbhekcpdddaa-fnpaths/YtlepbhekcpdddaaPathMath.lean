/- FnPaths: what is true of the parts of a path. -/
import Derived.Test.YtlepbhekcpdddaaPathSpec
namespace Go.Proofs.Ytlepbhekcpdddaa
open Go.RowKit

/-- The bytes of a text. -/
def bsOf (s : ByteArray) : List UInt8 := s.data.toList
theorem bsOf_len (s : ByteArray) : (bsOf s).length = s.size := rfl
theorem bsOf_app (a b : ByteArray) : bsOf (a ++ b) = bsOf a ++ bsOf b := by unfold bsOf; simp
theorem bsOf_ext (s : ByteArray) (a b : Nat) : bsOf (s.extract a b) = ((bsOf s).drop a).take (b - a) := by
  unfold bsOf
  obtain ⟨⟨l⟩⟩ := s
  have := ByteArray.extract_mk l a b
  rw [this]
theorem bsOf_inj {a b : ByteArray} (h : bsOf a = bsOf b) : a = b := Go.WideShapes.bytes_inj h
theorem bsOf_chr {s : ByteArray} {k : Nat} (h : k < s.size) : (bsOf s)[k]? = some (UInt8.ofNat (chr s k)) := by
  rw [chr_lt h]
  unfold bsOf
  simp only [UInt8.ofNat_toNat]
  rw [Array.getElem?_toList, Array.getElem?_eq_getElem h]
  rfl

/-- A slash and a part, one after another. -/
def joinL : List ByteArray → List UInt8
  | [] => []
  | p :: r => 47 :: (bsOf p ++ joinL r)
theorem joinL_app (a b : List ByteArray) : joinL (a ++ b) = joinL a ++ joinL b := by
  induction a with
  | nil => rfl
  | cons p r ih => show 47 :: (bsOf p ++ joinL (r ++ b)) = _; rw [ih]; show _ = (47 :: (bsOf p ++ joinL r)) ++ joinL b; simp

theorem joinL_cut (s : ByteArray) : ∀ n k f out, k + n = s.size → f ≤ k → joinL (cutGo s 47 n k f out) = joinL out ++ 47 :: (bsOf s).drop f := by
  intro n
  induction n with
  | zero =>
    intro k f out hk hf
    show joinL (out ++ [s.extract f s.size]) = _
    rw [joinL_app]
    show joinL out ++ (47 :: (bsOf (s.extract f s.size) ++ [])) = _
    rw [bsOf_ext, List.append_nil, List.take_of_length_le (by rw [List.length_drop, bsOf_len]; omega)]
  | succ n ih =>
    intro k f out hk hf
    unfold cutGo
    split
    · rename_i hc
      rw [ih (k + 1) (k + 1) _ (by omega) (Nat.le_refl _), joinL_app]
      show (joinL out ++ (47 :: (bsOf (s.extract f k) ++ []))) ++ _ = _
      rw [bsOf_ext, List.append_nil, List.append_assoc, List.cons_append]
      congr 2
      have h1 := bsOf_chr (s := s) (k := k) (by omega)
      rw [hc] at h1
      have h2 : (bsOf s).drop k = 47 :: (bsOf s).drop (k + 1) := by
        obtain ⟨hk', he⟩ := List.getElem?_eq_some_iff.1 h1
        rw [List.drop_eq_getElem_cons hk', he]
        rfl
      rw [show (UInt8.ofNat 47 : UInt8) = 47 from rfl] at *
      rw [← h2]
      have h3 : (bsOf s).drop k = ((bsOf s).drop f).drop (k - f) := by rw [List.drop_drop]; congr 1; omega
      rw [h3, List.take_append_drop]
    · exact ih _ _ _ (by omega) (by omega)

theorem joinL_cutD (s : ByteArray) : joinL (cutD s 47) = 47 :: bsOf s := by
  unfold cutD
  rw [joinL_cut s s.size 0 0 [] (by omega) (Nat.le_refl _)]
  rfl

theorem cut_last (s : ByteArray) (c : Nat) (hc : chr s (s.size - 1) = c) : ∀ n k f out, 0 < n → k + n = s.size → ∃ pre, cutGo s c n k f out = pre ++ [s.extract s.size s.size] := by
  intro n
  induction n with
  | zero => intro k f out h; omega
  | succ n ih =>
    intro k f out _ hk
    by_cases h0 : n = 0
    · subst h0
      have e : k = s.size - 1 := by omega
      subst e
      unfold cutGo
      rw [if_pos hc]
      exact ⟨_, by show _ ++ [s.extract (s.size - 1 + 1) s.size] = _; rw [show s.size - 1 + 1 = s.size by omega]⟩
    · unfold cutGo
      split
      · exact ih _ _ _ (by omega) (by omega)
      · exact ih _ _ _ (by omega) (by omega)

theorem badCode_last (pre : List ByteArray) (p : ByteArray) (h : nameB p = false) : badCode (pre ++ [p]) ≠ 0 := by
  induction pre with
  | nil => show badCode [p] ≠ 0; unfold badCode; rw [h]; simp; split <;> decide
  | cons q r ih =>
    show badCode (q :: (r ++ [p])) ≠ 0
    unfold badCode
    split
    · exact ih
    · split <;> decide

theorem badCode_all (ps : List ByteArray) (h : badCode ps = 0) : ∀ p ∈ ps, nameB p = true := by
  induction ps with
  | nil => simp
  | cons q r ih =>
    unfold badCode at h
    split at h
    · rename_i hq
      intro p hp
      rcases List.mem_cons.1 hp with rfl | hp
      · exact hq
      · exact ih h p hp
    · split at h <;> simp at h

/-- What a path that is split well is. -/
theorem path_good {s : ByteArray} (h : (pathD s).1 = 0) :
    1 ≤ s.size ∧ s.size ≤ 240 ∧ chr s 0 = 47 ∧ (pathD s).2.length ≤ 16 ∧ (∀ p ∈ (pathD s).2, nameB p = true) ∧ (if (pathD s).2 = [] then [47] else joinL (pathD s).2) = bsOf s := by
  unfold pathD at h ⊢
  split at h
  · simp at h
  rename_i h1
  rw [if_neg h1]
  have hs : 1 ≤ s.size ∧ s.size ≤ 240 ∧ chr s 0 = 47 := by omega
  obtain ⟨a1, a2, a3⟩ := hs
  refine ⟨a1, a2, a3, ?_⟩
  split at h
  · rename_i h2
    rw [if_pos h2]
    refine ⟨by simp, by simp, ?_⟩
    rw [ByteArray.toList_eq] at h2
    simp [bsOf, h2]
  rename_i h2
  rw [if_neg h2]
  split at h
  · rename_i h3; exact absurd h h3
  rename_i h3
  rw [if_neg h3]
  split at h
  · simp at h
  rename_i h4
  rw [if_neg h4]
  refine ⟨by show (cutD _ 47).length ≤ 16; omega, badCode_all _ (Decidable.not_not.1 h3), ?_⟩
  have hne : cutD (s.extract 1 s.size) 47 ≠ [] := by
    intro e
    have := cutGo_ge (s.extract 1 s.size) 47 (s.extract 1 s.size).size 0 0 []
    unfold cutD at e
    rw [e] at this
    simp at this
  rw [if_neg hne, joinL_cutD, bsOf_ext]
  have h5 := bsOf_chr (s := s) (k := 0) (by omega)
  rw [a3] at h5
  cases hb : bsOf s with
  | nil => rw [hb] at h5; simp at h5
  | cons x r =>
    rw [hb] at h5
    simp only [List.getElem?_cons_zero, Option.some.injEq] at h5
    have hl : r.length + 1 = s.size := by have := bsOf_len s; rw [hb] at this; simpa using this
    rw [h5, List.drop_succ_cons, List.drop_zero, List.take_of_length_le (by omega)]
    rfl

theorem bsOf_chr0 {s : ByteArray} {x : UInt8} {r : List UInt8} (h : bsOf s = x :: r) : chr s 0 = x.toNat := by
  have hl := bsOf_len s
  rw [h] at hl
  have h1 := bsOf_chr (s := s) (k := 0) (by simp at hl; omega)
  rw [h] at h1
  simp only [List.getElem?_cons_zero, Option.some.injEq] at h1
  have h2 := chr_256 s 0
  rw [h1]
  simp
  omega

/-- With a slash behind it, it is refused. -/
theorem path_slash {s t : ByteArray} (h : (pathD s).1 = 0) (ht : bsOf t = [47]) : (pathD (s ++ t)).1 ≠ 0 := by
  obtain ⟨a1, a2, a3, _, _, _⟩ := path_good h
  have htl : t.size = 1 := by have := bsOf_len t; rw [ht] at this; simpa using this.symm
  have hsz : (s ++ t).size = s.size + 1 := by rw [ByteArray.size_append, htl]
  unfold pathD
  split
  · decide
  rename_i h1
  split
  · rename_i h2
    rw [ByteArray.toList_eq] at h2
    have h2' : bsOf (s ++ t) = [47] := h2
    have h3 := congrArg List.length h2'
    rw [bsOf_len, hsz] at h3
    simp only [List.length_cons, List.length_nil] at h3
    omega
  have hx : (s ++ t).extract 1 (s ++ t).size = (s ++ t).extract 1 (s ++ t).size := rfl
  generalize hu : (s ++ t).extract 1 (s ++ t).size = u at *
  have hub : bsOf u = (bsOf s).drop 1 ++ [47] := by
    rw [← hu, bsOf_ext, bsOf_app, ht, List.drop_append_of_le_length (by rw [bsOf_len]; omega), List.take_of_length_le (by simp [bsOf_len]; omega)]
  have hul : u.size = s.size := by have := bsOf_len u; rw [hub] at this; simp [bsOf_len] at this; omega
  have hc : chr u (u.size - 1) = 47 := by
    have h5 := bsOf_chr (s := u) (k := u.size - 1) (by omega)
    rw [hub, List.getElem?_append_right (by simp [bsOf_len]; omega)] at h5
    have e : u.size - 1 - ((bsOf s).drop 1).length = 0 := by simp [bsOf_len]; omega
    rw [e] at h5
    simp only [List.getElem?_cons_zero, Option.some.injEq] at h5
    have h6 := chr_256 u (u.size - 1)
    have h7 := congrArg UInt8.toNat h5
    simp at h7
    omega
  obtain ⟨pre, hp⟩ := cut_last u 47 hc u.size 0 0 [] (by omega) (by omega)
  have he : nameB (u.extract u.size u.size) = false := by
    unfold nameB
    rw [decide_eq_false_iff_not]
    rintro ⟨_, h2, _⟩
    rw [ByteArray.size_extract] at h2
    omega
  have hb : badCode (cutD u 47) ≠ 0 := by unfold cutD; rw [hp]; exact badCode_last _ _ he
  rw [if_pos hb]
  exact hb

/-- With another letter ahead of it, it is no path. -/
theorem path_ahead {s t : ByteArray} {x : UInt8} (ht : bsOf t = [x]) (hx : x ≠ 47) : (pathD (t ++ s)).1 = 30 := by
  have hb : bsOf (t ++ s) = x :: bsOf s := by rw [bsOf_app, ht]; rfl
  have hc := bsOf_chr0 hb
  unfold pathD
  rw [if_pos]
  refine Or.inr (Or.inr ?_)
  rw [hc]
  intro e
  exact hx (UInt8.toNat_inj.1 e)

/-- A path is no name. -/
theorem path_noname {s : ByteArray} (h : (pathD s).1 = 0) : nameB s = false := by
  obtain ⟨a1, _, a3, _⟩ := path_good h
  unfold nameB
  rw [decide_eq_false_iff_not]
  rintro ⟨_, _, _, _, _, h6⟩
  exact (cutD_one.1 h6) 0 (by omega) a3

theorem path_bad {s : ByteArray} (h : (pathD s).1 ≠ 0) : (pathD s).2 = [] := by
  unfold pathD at h ⊢
  split
  · rfl
  · rename_i h1; rw [if_neg h1] at h
    split
    · rfl
    · rename_i h2; rw [if_neg h2] at h
      split
      · rfl
      · rename_i h3; rw [if_neg h3] at h
        split
        · rfl
        · rename_i h4; rw [if_neg h4] at h; exact absurd rfl h

end Go.Proofs.Ytlepbhekcpdddaa
