/- An inode is valid: as the program asks, and as the model does. -/
import Derived.Test.YtoicchlekcbbgaaInoCut
import Derived.Test.YtoicchlekcbbgaaInoEq
import Derived.Test.YtoicchlekcbbgaaBlkImpl
namespace Go.Proofs.Ytoicchlekcbbgaa
open Go.RowKit

/-- What is asked behind the numbers, of each kind. -/
def restB (i : Ino) : Bool :=
  if i.kind = 1 then decide (0 ≤ i.links) && decide (i.links ≤ 8)
  else if i.kind = 2 then decide (i.links = 1) && decide (i.size % 16 = 0) && !holeB i
  else if i.kind = 3 then (decide (1 ≤ i.links) && decide (i.links ≤ 8)) && (decide (1 ≤ i.size) && decide (i.size ≤ 240)) && !holeB i
  else false
def szB2 (i : Ino) : Bool := decide (0 ≤ i.size) && decide (i.size ≤ 2560)
def valB (i : Ino) : Bool := if i.kind = 0 then sameI i zeroI else i.dir.all blkB && blkB i.ind && szB2 i && sameI i (cutI i) && restB i

theorem cutTo_get (s : Int) (ds : List Int) : ∀ k j, j < ds.length → (cutTo s ds k).getD j 0 = if j < k ∧ s ≤ (j : Int) * 64 then 0 else ds.getD j 0
  | 0, j, _ => by rw [if_neg (fun h => absurd h.1 (Nat.not_lt_zero _))]; rfl
  | k + 1, j, hj => by
    have ih := cutTo_get s ds k j hj
    have hl := cutTo_len s ds k
    unfold cutTo
    by_cases hs : s ≤ (k : Int) * 64
    · rw [if_pos hs]
      by_cases e : j = k
      · subst e
        rw [if_pos ⟨Nat.lt_succ_self _, hs⟩, List.getD_eq_getElem?_getD, List.getElem?_set_self (by omega)]
        rfl
      · rw [List.getD_eq_getElem?_getD, List.getElem?_set_ne (by omega), ← List.getD_eq_getElem?_getD, ih]
        by_cases h2 : j < k ∧ s ≤ (j : Int) * 64
        · rw [if_pos h2, if_pos ⟨by omega, h2.2⟩]
        · rw [if_neg h2, if_neg (fun h => h2 ⟨by omega, h.2⟩)]
    · rw [if_neg hs, ih]
      by_cases h2 : j < k ∧ s ≤ (j : Int) * 64
      · rw [if_pos h2, if_pos ⟨by omega, h2.2⟩]
      · rw [if_neg h2, if_neg (fun h => h2 ⟨by
          rcases Nat.lt_or_eq_of_le (Nat.le_of_lt_succ h.1) with h3 | h3
          · exact h3
          · subst h3; exact absurd h.2 hs, h.2⟩)]
theorem cutTo_same {s : Int} {ds : List Int} (h : ds.length = 8) : ds = cutTo s ds 8 ↔ ∀ j : Nat, j < 8 → s ≤ (j : Int) * 64 → ds.getD j 0 = 0 := by
  constructor
  · intro e j hj hs
    have := cutTo_get s ds 8 j (by omega)
    rw [← e, if_pos ⟨hj, hs⟩] at this
    exact this
  · intro hz
    refine List.ext_getElem? fun j => ?_
    by_cases hj : j < ds.length
    · have h1 := cutTo_get s ds 8 j hj
      have h2 : ds.getD j 0 = (cutTo s ds 8).getD j 0 := by
        rw [h1]
        by_cases h3 : j < 8 ∧ s ≤ (j : Int) * 64
        · rw [if_pos h3]; exact hz j h3.1 h3.2
        · rw [if_neg h3]
      have hl := cutTo_len s ds 8
      rw [List.getD_eq_getElem?_getD, List.getD_eq_getElem?_getD, List.getElem?_eq_getElem hj, List.getElem?_eq_getElem (show j < (cutTo s ds 8).length by omega)] at h2
      rw [List.getElem?_eq_getElem hj, List.getElem?_eq_getElem (show j < (cutTo s ds 8).length by omega)]
      exact congrArg some h2
    · rw [List.getElem?_eq_none (by omega), List.getElem?_eq_none (by rw [cutTo_len]; omega)]

theorem allI_get {i : Ino} (h : i.dir.length = 8) {k : Nat} (hk : k < 8) : (allI i).getD k 0 = i.dir.getD k 0 := by
  unfold allI
  rw [List.getD_eq_getElem?_getD, List.getElem?_append_left (by omega), ← List.getD_eq_getElem?_getD]
theorem allI_ind {i : Ino} (h : i.dir.length = 8) : (allI i).getD 8 0 = i.ind := by
  unfold allI
  rw [List.getD_eq_getElem?_getD, List.getElem?_append_right (by omega), h]
  rfl
/-- The numbers against the size. -/
def Within (i : Ino) : Prop := (∀ j : Nat, j < 8 → i.size ≤ (j : Int) * 64 → i.dir.getD j 0 = 0) ∧ (i.size ≤ 512 → i.ind = 0)
theorem same_within {i : Ino} (h : i.dir.length = 8) : sameI i (cutI i) = true ↔ Within i := by
  have h1 := cutTo_same (s := i.size) h
  unfold sameI Within cutI
  simp only [Bool.and_eq_true, decide_eq_true_eq, true_and]
  rw [h1]
  constructor
  · rintro ⟨a, b⟩
    refine ⟨a, fun h => ?_⟩
    rw [if_pos h] at b
    exact b
  · rintro ⟨a, b⟩
    refine ⟨a, ?_⟩
    by_cases hs : i.size ≤ 512
    · rw [if_pos hs]; exact b hs
    · rw [if_neg hs]
theorem body_all {i : Ino} (h : i.dir.length = 8) : (∀ k, k < 9 → BodyAt i k) ↔ Within i ∧ (i.kind = 1 ∨ holeB i = false) := by
  have hH : holeB i = false ↔ ¬ holeTo i.size i.dir 8 ∧ ¬ (i.ind = 0 ∧ 512 < i.size) := by
    unfold holeB
    simp only [Bool.or_eq_false_iff, decide_eq_false_iff_not, Bool.and_eq_false_iff]
    constructor
    · rintro ⟨a, b⟩; exact ⟨a, fun h => by rcases b with b | b; exact b h.1; exact b h.2⟩
    · rintro ⟨a, b⟩; exact ⟨a, by by_cases h : i.ind = 0; exact Or.inr (fun h' => b ⟨h, h'⟩); exact Or.inl h⟩
  rw [hH]
  constructor
  · intro hb
    have h8 := hb 8 (by omega)
    unfold BodyAt at h8
    rw [allI_ind h] at h8
    refine ⟨⟨fun j hj hs => ?_, fun hs => ?_⟩, ?_⟩
    · have := hb j (by omega)
      unfold BodyAt at this
      rw [if_pos hs, allI_get h hj] at this
      exact this
    · rw [if_pos (by omega)] at h8; exact h8
    · by_cases hk : i.kind = 1
      · exact Or.inl hk
      · refine Or.inr ⟨?_, ?_⟩
        · rintro ⟨j, hj, h0, hs⟩
          have := hb j (by omega)
          unfold BodyAt at this
          rw [if_neg (by omega), allI_get h hj] at this
          rcases this with h2 | h2
          · exact hk h2
          · exact h2 h0
        · rintro ⟨h0, hs⟩
          rw [if_neg (by omega)] at h8
          rcases h8 with h2 | h2
          · exact hk h2
          · exact h2 h0
  · rintro ⟨⟨hw, hx⟩, ho⟩ k hk
    unfold BodyAt
    by_cases h8 : k = 8
    · subst h8
      rw [allI_ind h]
      by_cases hs : i.size ≤ (8 : Nat) * 64
      · rw [if_pos hs]; exact hx (by omega)
      · rw [if_neg hs]
        rcases ho with ho | ho
        · exact Or.inl ho
        · exact Or.inr (fun h0 => ho.2 ⟨h0, by omega⟩)
    · rw [allI_get h (by omega)]
      by_cases hs : i.size ≤ (k : Int) * 64
      · rw [if_pos hs]; exact hw k (by omega) hs
      · rw [if_neg hs]
        rcases ho with ho | ho
        · exact Or.inl ho
        · exact Or.inr (fun h0 => ho.1 ⟨k, by omega, h0, by omega⟩)
theorem good_all {i : Ino} : (∀ x ∈ allI i, goodI x = true) ↔ i.dir.all blkB = true ∧ blkB i.ind = true := by
  have hg : ∀ x, goodI x = true ↔ blkB x = true := fun x => goodI_iff.trans blkB_iff.symm
  unfold allI
  rw [List.all_eq_true]
  constructor
  · intro h
    exact ⟨fun x hx => (hg x).1 (h x (by simp [hx])), (hg _).1 (h _ (by simp))⟩
  · rintro ⟨h1, h2⟩ x hx
    rcases List.mem_append.1 hx with hx | hx
    · exact (hg x).2 (h1 x hx)
    · rw [List.mem_singleton.1 hx]; exact (hg _).2 h2

theorem valB_eq {i : Ino} (h : i.dir.length = 8) : valB i = inoB i := by
  rw [Bool.eq_iff_iff]
  rw [inoB_iff]
  unfold valB
  unfold InoP InoHead
  by_cases hk0 : i.kind = 0
  · rw [if_pos hk0, if_pos hk0]
    obtain ⟨a, b, c, d, e, f, g, k, hd⟩ := eightI h
    obtain ⟨kd, l, s, ds, x⟩ := i
    simp only at hd
    subst hd
    simp only at hk0
    unfold sameI zeroI allI
    simp only [Bool.and_eq_true, decide_eq_true_eq, List.cons.injEq, and_true, List.cons_append, List.nil_append, List.mem_cons, List.not_mem_nil, or_false, forall_eq_or_imp, forall_eq, goodI_iff, List.length_cons, List.length_nil, sumTo, List.getD_cons_zero, List.getD_cons_succ]
    constructor
    · rintro ⟨⟨⟨⟨h1, h2⟩, h3⟩, h4, h5, h6, h7, h8, h9, h10, h11⟩, h12⟩
      subst h2; subst h3; subst h4; subst h5; subst h6; subst h7; subst h8; subst h9; subst h10; subst h11; subst h12
      simp
    · rintro ⟨⟨_, h1, h2, h3, h4⟩, ⟨g1, g2, g3, g4, g5, g6, g7, g8, g9⟩, hs⟩
      omega
  · rw [if_neg hk0, if_neg hk0]
    unfold InoRest
    rw [body_all h, good_all]
    simp only [Bool.and_eq_true]
    rw [same_within h]
    unfold szB2 restB
    by_cases h1 : i.kind = 1
    · rw [if_pos h1]
      simp only [Bool.and_eq_true, decide_eq_true_eq, h1]
      constructor
      · rintro ⟨⟨⟨⟨a, b⟩, c⟩, d⟩, e⟩
        exact ⟨⟨h, c.1, c.2, e.1, e.2⟩, ⟨a, b⟩, Or.inl trivial, ⟨d, Or.inl trivial⟩, Or.inr trivial⟩
      · rintro ⟨⟨_, c1, c2, e1, e2⟩, ⟨a, b⟩, _, ⟨d, _⟩, _⟩
        exact ⟨⟨⟨⟨a, b⟩, c1, c2⟩, d⟩, e1, e2⟩
    · rw [if_neg h1]
      by_cases h2 : i.kind = 2
      · rw [if_pos h2]
        simp only [Bool.and_eq_true, decide_eq_true_eq, Bool.not_eq_true', h2]
        constructor
        · rintro ⟨⟨⟨⟨a, b⟩, c⟩, d⟩, ⟨e1, e2⟩, e3⟩
          exact ⟨⟨h, c.1, c.2, by omega, by omega⟩, ⟨a, b⟩, Or.inr (Or.inl ⟨trivial, e1, e2⟩), ⟨d, Or.inr e3⟩, Or.inl (by omega)⟩
        · rintro ⟨⟨_, c1, c2, e1, e2⟩, ⟨a, b⟩, hk, ⟨d, ho⟩, _⟩
          rcases hk with hk | ⟨_, hk1, hk2⟩ | ⟨hk, _⟩
          · omega
          · rcases ho with ho | ho
            · omega
            · exact ⟨⟨⟨⟨a, b⟩, c1, c2⟩, d⟩, ⟨hk1, hk2⟩, ho⟩
          · omega
      · rw [if_neg h2]
        by_cases h3 : i.kind = 3
        · rw [if_pos h3]
          simp only [Bool.and_eq_true, decide_eq_true_eq, Bool.not_eq_true', h3]
          constructor
          · rintro ⟨⟨⟨⟨a, b⟩, c⟩, d⟩, ⟨⟨e1, e2⟩, e3, e4⟩, e5⟩
            exact ⟨⟨h, c.1, c.2, by omega, by omega⟩, ⟨a, b⟩, Or.inr (Or.inr ⟨trivial, e3, e4⟩), ⟨d, Or.inr e5⟩, Or.inl e1⟩
          · rintro ⟨⟨_, c1, c2, e1, e2⟩, ⟨a, b⟩, hk, ⟨d, ho⟩, hl⟩
            rcases hk with hk | ⟨hk, _⟩ | ⟨_, hk1, hk2⟩
            · omega
            · omega
            · rcases ho with ho | ho
              · omega
              · rcases hl with hl | hl
                · exact ⟨⟨⟨⟨a, b⟩, c1, c2⟩, d⟩, ⟨⟨hl, e2⟩, hk1, hk2⟩, ho⟩
                · omega
        · rw [if_neg h3]
          constructor
          · rintro ⟨_, h4⟩; cases h4
          · rintro ⟨_, _, hk, _⟩
            rcases hk with hk | ⟨hk, _⟩ | ⟨hk, _⟩
            · exact absurd hk h1
            · exact absurd hk h2
            · exact absurd hk h3

end Go.Proofs.Ytoicchlekcbbgaa
