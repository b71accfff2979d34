/- What strings.Split leaves at a blank is what the model cuts. -/
import Derived.Test.YtacfkgfemmgpkaaGreatDoorNameSpec
import Derived.Test.YtacfkgfemmgpkaaGreatDoorShelfSplit
namespace Go.Proofs.YtacfkgfemmgpkaaGreatDoor
open Go.RowKit Go.Lib

def cutL : List UInt8 → List UInt8 → List (List UInt8)
  | acc, [] => [acc]
  | acc, c :: r => if c = 32 then acc :: cutL [] r else cutL (acc ++ [c]) r

theorem cutL_cons (acc : List UInt8) (c : UInt8) (r : List UInt8) : cutL acc (c :: r) = if c = 32 then acc :: cutL [] r else cutL (acc ++ [c]) r := rfl
theorem cutL_miss : ∀ (l acc : List UInt8), indexByte l 32 = -1 → cutL acc l = [acc ++ l]
  | [], acc, _ => by simp [cutL]
  | c :: r, acc, h => by
    unfold indexByte at h
    split at h
    · cases h
    · rename_i hc
      have hc' : c ≠ 32 := by simpa using hc
      split at h
      · rename_i hr
        unfold cutL
        rw [if_neg hc', cutL_miss r _ (by simpa using hr)]
        simp
      · rename_i hr
        have := indexByte_ge r 32
        exfalso; omega

theorem cutL_hit : ∀ (l acc : List UInt8) (i : Nat), indexByte l 32 = (i : Int) → cutL acc l = (acc ++ l.take i) :: cutL [] (l.drop (i + 1))
  | [], acc, i, h => by simp [indexByte] at h
  | c :: r, acc, i, h => by
    unfold indexByte at h
    split at h
    · rename_i hc
      have hc' : c = 32 := by simpa using hc
      obtain rfl : i = 0 := by omega
      rw [cutL_cons, if_pos hc']
      simp
    · rename_i hc
      have hc' : c ≠ 32 := by simpa using hc
      split at h
      · omega
      · obtain ⟨j, rfl⟩ : ∃ j, i = j + 1 := by
          have := indexByte_ge r 32
          rename_i hr
          have hr' : indexByte r 32 ≠ -1 := by simpa using hr
          exact ⟨i - 1, by omega⟩
        rw [cutL_cons, if_neg hc', cutL_hit r _ j (by omega)]
        simp

theorem split_cutL : ∀ (k : Nat) (s : ByteArray), countB s ⟨#[32]⟩ = k → (splitB ⟨#[32]⟩ 0 k s).map (·.data.toList) = cutL [] s.data.toList := by
  intro k
  induction k with
  | zero =>
    intro s h
    rcases indexB_cases s ⟨#[32]⟩ with hix | ⟨i, hix, _⟩
    · have h2 : indexByte s.data.toList 32 = -1 := by rw [← index_one]; exact hix
      rw [cutL_miss _ _ h2]
      rfl
    · have := countB_hit s ⟨#[32]⟩ i (by decide) hix
      omega
  | succ k ih =>
    intro s h
    rcases indexB_cases s ⟨#[32]⟩ with hix | ⟨i, hix, _⟩
    · rw [countB_miss s _ hix] at h; omega
    · have h2 : indexByte s.data.toList 32 = (i : Int) := by rw [← index_one]; exact hix
      have hc := countB_hit s ⟨#[32]⟩ i (by decide) hix
      rw [cutL_hit _ _ i h2, splitB_hit _ 0 k s i hix, List.map_cons, ih _ (by omega), extract_from_zero, extract_to_end]
      rfl

theorem cutGo_cutL (s : ByteArray) : ∀ (n k f : Nat) (out : List ByteArray), k + n = s.size → f ≤ k → (cutGo s 32 n k f out).map (·.data.toList) = out.map (·.data.toList) ++ cutL ((s.data.toList.drop f).take (k - f)) (s.data.toList.drop k) := by
  intro n
  induction n with
  | zero =>
    intro k f out h1 h2
    have hl : s.data.toList.length = s.size := by rw [← size_eq]
    unfold cutGo
    rw [List.map_append, List.map_singleton, extract_to_end, List.drop_of_length_le (i := k) (by omega), List.take_of_length_le (by rw [List.length_drop]; omega)]
    rfl
  | succ n ih =>
    intro k f out h1 h2
    have hl : s.data.toList.length = s.size := by rw [← size_eq]
    have hk : k < s.data.toList.length := by omega
    have hks : k < s.size := by omega
    rw [List.drop_eq_getElem_cons hk]
    have hch : chr s k = s.data.toList[k].toNat := chr_lt hks
    unfold cutGo cutL
    by_cases hc : chr s k = 32
    · have hc2 : s.data.toList[k] = 32 := by
        apply UInt8.toNat_inj.1; rw [← hch]; exact hc
      rw [if_pos hc, if_pos hc2, ih _ _ _ (by omega) (Nat.le_refl _), List.map_append, List.map_singleton, extract_data, List.append_assoc, Nat.sub_self, List.take_zero]
      rfl
    · have hc2 : s.data.toList[k] ≠ 32 := by
        intro e; apply hc; rw [hch, e]; rfl
      rw [if_neg hc, if_neg hc2, ih _ _ _ (by omega) (by omega)]
      have e : (s.data.toList.drop f).take (k + 1 - f) = (s.data.toList.drop f).take (k - f) ++ [s.data.toList[k]] := by
        rw [show k + 1 - f = (k - f) + 1 by omega, List.take_add_one, List.getElem?_drop, show f + (k - f) = k by omega, List.getElem?_eq_getElem hk]
        rfl
      rw [e]

theorem split_is (s : ByteArray) : splitB ⟨#[32]⟩ 0 (countB s ⟨#[32]⟩) s = cutD s 32 := by
  have h1 := split_cutL _ s rfl
  have h2 := cutGo_cutL s s.size 0 0 [] (by omega) (Nat.le_refl _)
  have h3 : (splitB ⟨#[32]⟩ 0 (countB s ⟨#[32]⟩) s).map (·.data.toList) = (cutD s 32).map (·.data.toList) := by
    rw [h1]; unfold cutD; rw [h2]; rfl
  have inj : ∀ a b : List ByteArray, a.map (·.data.toList) = b.map (·.data.toList) → a = b := by
    intro a
    induction a with
    | nil => intro b h; cases b with
      | nil => rfl
      | cons _ _ => cases h
    | cons x xs ih => intro b h; cases b with
      | nil => cases h
      | cons y ys =>
        injection h with h1 h2
        rw [ih ys h2, ByteArray.ext (Array.ext' h1)]
  exact inj _ _ h3
theorem cutD_len (s : ByteArray) : (cutD s 32).length = countB s ⟨#[32]⟩ + 1 := by
  rw [← split_is, splitB_all _ (by decide) 0 _ s rfl]
theorem cutD_le (s : ByteArray) : (cutD s 32).length ≤ s.size + 1 := by
  have := countB_le ⟨#[32]⟩ (by decide) s.size s (Nat.le_refl _)
  rw [cutD_len]; omega
theorem cutGo_small (s : ByteArray) (c : Nat) : ∀ (n k f : Nat) (out : List ByteArray), (∀ x ∈ out, x.size ≤ s.size) → ∀ x ∈ cutGo s c n k f out, x.size ≤ s.size := by
  have he : ∀ a b, (s.extract a b).size ≤ s.size := fun a b => by rw [ByteArray.size_extract]; omega
  intro n
  induction n with
  | zero =>
    intro k f out h x hx
    unfold cutGo at hx
    rcases List.mem_append.1 hx with hx | hx
    · exact h x hx
    · rw [List.mem_singleton.1 hx]; exact he _ _
  | succ n ih =>
    intro k f out h x hx
    unfold cutGo at hx
    split at hx
    · exact ih _ _ _ (fun y hy => by
        rcases List.mem_append.1 hy with hy | hy
        · exact h y hy
        · rw [List.mem_singleton.1 hy]; exact he _ _) x hx
    · exact ih _ _ _ h x hx
theorem cutD_small (s : ByteArray) : ∀ x ∈ cutD s 32, x.size ≤ s.size := cutGo_small s 32 _ _ _ _ (by simp)

/-- strings.Split at a blank. -/
theorem splitBlank_calls (w : World) (s : ByteArray) (m : Int) (hs : s.size ≤ 1048576) (hm : w.cell? ⟨0, 0, none⟩ = some (.int .i64 m)) :
    Calls Tryz.prog 28 #[.string s, .string ⟨#[32]⟩] w fun e w' => e = .returned (.slice (some ⟨w.heap.size, 0, none⟩) (cutD s 32).length (cutD s 32).length) ∧ w' = w.alloc (.cells ((cutD s 32).map Value.string).toArray 9) := by
  have h := Any.strings_Split Tryz.lays146 (by kernel_rfl) s ⟨#[32]⟩ m w (by omega) hm (by decide)
  rw [split_is, ← cutD_len] at h
  exact h

end Go.Proofs.YtacfkgfemmgpkaaGreatDoor
