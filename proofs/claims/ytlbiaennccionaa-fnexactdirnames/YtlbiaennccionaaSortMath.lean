/- What the library's sort leaves is what the model's sort does. -/
import Derived.Test.YtlbiaennccionaaNamesSpec
import Derived.Sort.Walk0
import Derived.Sort.EncStr
namespace Go.Proofs.Ytlbiaennccionaa
open Go.RowKit Go.Sort

/-- A text's bytes. -/
def tl (b : ByteArray) : List UInt8 := b.data.toList
def lt' (l : List UInt8) : ByteArray := ⟨l.toArray⟩
theorem lt_tl (b : ByteArray) : lt' (tl b) = b := by unfold lt' tl; simp
theorem gtT_le (a b : ByteArray) : gtT a b = !decide (tl a ≤ tl b) := by
  unfold gtT
  rw [bytesLess_eq, ByteArray.toList_eq, ByteArray.toList_eq]
  congr 1
  unfold tl
  generalize a.data.toList = x
  generalize b.data.toList = y
  by_cases h : x < y
  · rw [decide_eq_true h, Bool.true_or, decide_eq_true (List.le_of_lt h)]
  · rw [decide_eq_false h, Bool.false_or]
    by_cases e : x = y
    · subst e
      rw [decide_eq_true (List.le_refl x)]
      simp
    · have : ¬ x ≤ y := fun h' => e (List.le_antisymm h' (List.not_lt.1 h))
      rw [decide_eq_false this]
      simpa using e
theorem posT_spec (ps : List ByteArray) (s : ByteArray) : ∀ m, (∀ j, posT ps s m ≤ j → j < m → gtT (ps.getD j noText) s = true) ∧ (0 < posT ps s m → gtT (ps.getD (posT ps s m - 1) noText) s = false)
  | 0 => ⟨fun j _ h => absurd h (Nat.not_lt_zero j), fun h => absurd h (Nat.not_lt_zero 0)⟩
  | m + 1 => by
    have ih := posT_spec ps s m
    unfold posT
    by_cases hg : gtT (ps.getD m noText) s = true
    · rw [if_pos hg]
      refine ⟨fun j h1 h2 => ?_, ih.2⟩
      by_cases e : j = m
      · rw [e]; exact hg
      · exact ih.1 j h1 (by omega)
    · rw [if_neg hg]
      refine ⟨fun j h1 h2 => by omega, fun _ => ?_⟩
      rw [Nat.add_sub_cancel]
      simpa using hg
def SortedT (ps : List ByteArray) : Prop := ps.Pairwise fun a b => tl a ≤ tl b
theorem insT_perm (ps : List ByteArray) (s : ByteArray) : (insT ps s).Perm (s :: ps) := by
  unfold insT
  refine List.perm_middle.trans ?_
  rw [List.take_append_drop]
theorem insT_sorted {ps : List ByteArray} {s : ByteArray} (h : SortedT ps) : SortedT (insT ps s) := by
  have hs := posT_spec ps s ps.length
  have hle := posT_le ps s ps.length
  unfold insT SortedT
  generalize posT ps s ps.length = p at *
  have hA : ∀ a ∈ ps.take p, tl a ≤ tl s := by
    intro a ha
    have hp : 0 < p := by cases p with | zero => simp at ha | succ n => omega
    have h2 := hs.2 hp
    rw [gtT_le, Bool.not_eq_false', decide_eq_true_eq] at h2
    obtain ⟨j, hj, rfl⟩ := List.mem_iff_getElem.1 ha
    rw [List.length_take] at hj
    rw [List.getElem_take]
    have hg : ps.getD (p - 1) noText = ps[p - 1] := by simp [List.getD_eq_getElem?_getD, show p - 1 < ps.length by omega]
    rw [hg] at h2
    by_cases e : j = p - 1
    · subst e; exact h2
    · exact List.le_trans (List.pairwise_iff_getElem.1 h j (p - 1) (by omega) (by omega) (by omega)) h2
  have hB : ∀ b ∈ ps.drop p, tl s ≤ tl b := by
    intro b hb
    obtain ⟨j, hj, rfl⟩ := List.mem_iff_getElem.1 hb
    rw [List.length_drop] at hj
    rw [List.getElem_drop]
    have := hs.1 (p + j) (by omega) (by omega)
    have hg : ps.getD (p + j) noText = ps[p + j] := by simp [List.getD_eq_getElem?_getD, show p + j < ps.length by omega]
    rw [hg, gtT_le, Bool.not_eq_true', decide_eq_false_iff_not] at this
    exact (List.le_total _ _).resolve_right this
  rw [List.pairwise_append, List.pairwise_cons]
  refine ⟨h.sublist (List.take_sublist p ps), ⟨hB, h.sublist (List.drop_sublist p ps)⟩, fun a ha b hb => ?_⟩
  rcases List.mem_cons.1 hb with rfl | hb
  · exact hA a ha
  · exact List.le_trans (hA a ha) (hB b hb)
theorem sortTo_sorted (ls : List ByteArray) : ∀ k, SortedT (sortTo ls k)
  | 0 => List.Pairwise.nil
  | k + 1 => insT_sorted (sortTo_sorted ls k)
theorem sortTo_perm (ls : List ByteArray) : ∀ k, k ≤ ls.length → (sortTo ls k).Perm (ls.take k)
  | 0, _ => by simp [sortTo]
  | k + 1, h => by
    have e : ls.getD k noText = ls[k] := by simp [List.getD_eq_getElem?_getD, show k < ls.length by omega]
    unfold sortTo
    refine (insT_perm _ _).trans ?_
    rw [List.take_succ_eq_append_getElem (by omega), e]
    exact (List.Perm.cons _ (sortTo_perm ls k (by omega))).trans (List.perm_append_singleton _ _).symm
theorem merge_sort (ns : List ByteArray) : (ns.map tl).mergeSort (fun x y => decide (x ≤ y)) = (sortTo ns ns.length).map tl := by
  have hp := sortTo_perm ns ns.length (Nat.le_refl _)
  rw [List.take_length] at hp
  refine List.Perm.eq_of_pairwise (le := fun a b => decide (a ≤ b) = true) (fun a b _ _ h1 h2 => ?_) (List.pairwise_mergeSort (fun a b c h1 h2 => ?_) (fun a b => ?_) _) ?_ ((List.mergeSort_perm _ _).trans (hp.symm.map tl))
  · rw [decide_eq_true_eq] at h1 h2
    exact List.le_antisymm h1 h2
  · rw [decide_eq_true_eq] at *
    exact List.le_trans h1 h2
  · rw [Bool.or_eq_true, decide_eq_true_eq, decide_eq_true_eq]
    exact List.le_total a b
  · refine List.pairwise_map.2 ((sortTo_sorted ns ns.length).imp fun {a b} h => ?_)
    exact decide_eq_true h
theorem enc_tl (ps : List ByteArray) : (ps.map tl).map encStr = ps.map Value.string := by
  rw [List.map_map]
  refine List.map_congr_left fun b _ => ?_
  show Value.string ⟨(tl b).toArray⟩ = _
  first | rfl | (congr 1; exact lt_tl b)

end Go.Proofs.Ytlbiaennccionaa
