/- Entries that are found, taken out. -/
import Derived.Test.YtkcijpmikgohcaaDirMap
import Derived.Test.YtkcijpmikgohcaaRemSpec
import Derived.Test.YtkcijpmikgohcaaDirEnc
import Derived.Test.YtkcijpmikgohcaaDirDraw2
namespace Go.Proofs.Ytkcijpmikgohcaa
open Go.RowKit

def nm (ts : List Ent) (k : Nat) : ByteArray := (ts.getD k Ent.none).2
theorem findGo_spec (ts : List Ent) (s : ByteArray) : ∀ n i, (findGo ts s i n = -1 ∧ ∀ j, i ≤ j → j < i + n → nm ts j ≠ s) ∨ ∃ k : Nat, findGo ts s i n = (k : Int) ∧ i ≤ k ∧ k < i + n ∧ nm ts k = s ∧ ∀ j, i ≤ j → j < k → nm ts j ≠ s
  | 0, i => Or.inl ⟨rfl, fun j h1 h2 => by omega⟩
  | n + 1, i => by
    unfold findGo
    by_cases h : (ts.getD i Ent.none).2.toList = s.toList
    · rw [if_pos h]
      exact Or.inr ⟨i, rfl, Nat.le_refl _, by omega, toList_inj.1 h, fun j h1 h2 => by omega⟩
    · rw [if_neg h]
      have hne : nm ts i ≠ s := fun e => h (by rw [← e]; rfl)
      rcases findGo_spec ts s n (i + 1) with ⟨h1, h2⟩ | ⟨k, h1, h2, h3, h4, h5⟩
      · refine Or.inl ⟨h1, fun j h3 h4 => ?_⟩
        by_cases e : j = i
        · rw [e]; exact hne
        · exact h2 j (by omega) (by omega)
      · refine Or.inr ⟨k, h1, by omega, by omega, h4, fun j h6 h7 => ?_⟩
        by_cases e : j = i
        · rw [e]; exact hne
        · exact h5 j (by omega) h7
theorem findD_spec (ts : List Ent) (s : ByteArray) : (findD ts s = -1 ∧ ∀ j, j < ts.length → nm ts j ≠ s) ∨ ∃ k : Nat, findD ts s = (k : Int) ∧ k < ts.length ∧ nm ts k = s ∧ ∀ j, j < k → nm ts j ≠ s := by
  rcases findGo_spec ts s ts.length 0 with ⟨h1, h2⟩ | ⟨k, h1, _, h3, h4, h5⟩
  · exact Or.inl ⟨h1, fun j hj => h2 j (Nat.zero_le _) (by omega)⟩
  · exact Or.inr ⟨k, h1, by omega, h4, fun j hj => h5 j (Nat.zero_le _) hj⟩
/-- Each is found, no later than where it stands. -/
theorem find_first {ts : List Ent} {i : Nat} (h : i < ts.length) : ∃ k : Nat, findD ts (nm ts i) = (k : Int) ∧ k ≤ i ∧ nm ts k = nm ts i := by
  rcases findD_spec ts (nm ts i) with ⟨_, h2⟩ | ⟨k, h1, _, h4, h5⟩
  · exact absurd rfl (h2 i h)
  · refine ⟨k, h1, ?_, h4⟩
    rcases Nat.lt_or_ge i k with h6 | h6
    · exact absurd rfl (h5 i h6)
    · exact h6
theorem find_never {ts : List Ent} (h : AllN ts) : findD ts nsN = -1 := by
  rcases findD_spec ts nsN with ⟨h1, _⟩ | ⟨k, _, h3, h4, _⟩
  · exact h1
  · exact absurd h4 (h.get h3).2
theorem apart_inj {ts : List Ent} (h : Apart ts) {i j : Nat} (hi : i < ts.length) (hj : j < ts.length) (e : nm ts i = nm ts j) : i = j := by
  have h1 := h i hi
  have h2 := h j hj
  unfold nm at e
  rw [e, h2] at h1
  omega

/-- Where place j of what is left comes from. -/
def sg (n a j : Nat) : Nat := if j = a then n - 1 else j
theorem remTo_eq (ts : List Ent) {a : Nat} (ha : a < ts.length) : ∀ k, k ≤ ts.length - 1 → remTo ts (a : Int) k = (List.range k).map fun j => ts.getD (sg ts.length a j) Ent.none
  | 0, _ => rfl
  | k + 1, hk => by
    unfold remTo
    rw [remTo_eq ts ha k (by omega), List.range_succ, List.map_append]
    congr 1
    unfold remAt sg
    rw [if_neg (by omega), if_neg (by omega)]
    by_cases e : k = a
    · rw [if_pos (by omega), List.map_cons, if_pos e]; rfl
    · rw [if_neg (by omega), List.map_cons, if_neg e]; rfl
theorem remD_eq (ts : List Ent) {a : Nat} (ha : a < ts.length) : remD ts (a : Int) = (List.range (ts.length - 1)).map fun j => ts.getD (sg ts.length a j) Ent.none := by
  unfold remD
  obtain ⟨n, hn⟩ : ∃ n, ts.length = n + 1 := ⟨ts.length - 1, by omega⟩
  rw [← remTo_eq ts ha (ts.length - 1) (Nat.le_refl _), hn]
  show remTo ts _ n ++ remAt ts _ n = _
  have : remAt ts (a : Int) n = [] := by unfold remAt; rw [if_neg (by omega), if_pos (by omega)]
  rw [this, List.append_nil]
  rfl
theorem remD_len (ts : List Ent) {a : Nat} (ha : a < ts.length) : (remD ts (a : Int)).length = ts.length - 1 := by rw [remD_eq ts ha]; simp
theorem remD_get (ts : List Ent) {a j : Nat} (ha : a < ts.length) (hj : j < ts.length - 1) : (remD ts (a : Int)).getD j Ent.none = ts.getD (sg ts.length a j) Ent.none := by
  rw [remD_eq ts ha]
  simp [List.getD_eq_getElem?_getD, hj]
theorem sg_ne {n a j : Nat} (hj : j < n - 1) : sg n a j ≠ a ∧ sg n a j < n := by unfold sg; split <;> omega
theorem rem_gone {ts : List Ent} (h : Apart ts) {a : Nat} (ha : a < ts.length) : findD (remD ts (a : Int)) (nm ts a) = -1 := by
  rcases findD_spec (remD ts (a : Int)) (nm ts a) with ⟨h1, _⟩ | ⟨k, _, h3, h4, _⟩
  · exact h1
  · rw [remD_len ts ha] at h3
    unfold nm at h4
    rw [remD_get ts ha h3] at h4
    obtain ⟨s1, s2⟩ := sg_ne (a := a) h3
    exact absurd (apart_inj h s2 ha h4) s1
theorem rem_kept {ts : List Ent} (h : Apart ts) {a i : Nat} (ha : a < ts.length) (hi : i < ts.length) (hne : i ≠ a) : ∃ k : Nat, findD (remD ts (a : Int)) (nm ts i) = (k : Int) ∧ k < ts.length - 1 ∧ (remD ts (a : Int)).getD k Ent.none = ts.getD i Ent.none := by
  obtain ⟨j, hj, hsj⟩ : ∃ j, j < ts.length - 1 ∧ sg ts.length a j = i := by
    by_cases e : i = ts.length - 1
    · exact ⟨a, by omega, by unfold sg; rw [if_pos rfl]; omega⟩
    · exact ⟨i, by omega, by unfold sg; rw [if_neg hne]⟩
  rcases findD_spec (remD ts (a : Int)) (nm ts i) with ⟨_, h2⟩ | ⟨k, h1, h3, h4, _⟩
  · refine absurd ?_ (h2 j (by rw [remD_len ts ha]; exact hj))
    unfold nm
    rw [remD_get ts ha hj, hsj]
  · rw [remD_len ts ha] at h3
    refine ⟨k, h1, h3, ?_⟩
    unfold nm at h4
    rw [remD_get ts ha h3] at h4 ⊢
    obtain ⟨s1, s2⟩ := sg_ne (a := a) h3
    rw [apart_inj h s2 hi h4]
theorem remD_end (ts : List Ent) : remD ts (ts.length : Int) = ts := by
  have h : ∀ k, k ≤ ts.length → remTo ts (ts.length : Int) k = ts.take k := by
    intro k
    induction k with
    | zero => intro _; simp [remTo]
    | succ k ih =>
      intro hk
      unfold remTo
      rw [ih (by omega)]
      unfold remAt
      rw [if_pos (Or.inr (Int.le_refl _)), List.take_succ_eq_append_getElem (by omega)]
      simp [List.getD_eq_getElem?_getD, show k < ts.length by omega]
  unfold remD
  rw [h ts.length (Nat.le_refl _), List.take_length]
theorem apart_of_dir {ts : List Ent} (h : dirB ts = true) : Apart ts := fun k hk => by
  have := (dirB_iff.1 h).2 k hk
  unfold dirAt at this
  rw [Bool.and_eq_true, decide_eq_true_eq] at this
  exact this.2
theorem encDir_some {ts : List Ent} (h : (encDir ts).length ≠ 0) : Apart ts ∧ 0 < ts.length := by
  unfold encDir at h
  cases hb : dirB ts with
  | false => rw [hb, if_neg (by decide)] at h; exact absurd rfl h
  | true =>
    rw [hb, if_pos rfl] at h
    refine ⟨apart_of_dir hb, ?_⟩
    rcases Nat.eq_zero_or_pos ts.length with h0 | h0
    · rw [h0] at h; exact absurd rfl h
    · exact h0
theorem AllN.cnt {ts : List Ent} (h : AllN ts) : cntE ts ≤ 17 * ts.length := by
  unfold cntE
  induction ts with
  | nil => simp
  | cons t r ih =>
    have h1 := ih (fun x hx => h x (List.mem_cons_of_mem _ hx))
    have h2 := (h t (by simp)).1
    simp only [List.map_cons, List.sum_cons, List.length_cons]
    omega

end Go.Proofs.Ytkcijpmikgohcaa
