/- The blocks of a transaction, as lists. -/
import Derived.Test.YtahjaejepkgfdaaGreatDoorSpecBeg
import Derived.Test.YtahjaejepkgfdaaGreatDoorRowZ
import Derived.Test.YtahjaejepkgfdaaGreatDoorSzB
import Derived.Test.YtahjaejepkgfdaaGreatDoorTxnSpec2
namespace Go.Proofs.YtahjaejepkgfdaaGreatDoor
open Go.RowKit

/-- A revoke block; a descriptor of homes, and their copies behind it. -/
def revB (q : Int) (xs : List Int) : List Int := padL (headL 3 xs.length q ++ putPs xs)
def tagOf (h : Wr) : Int × Bool := (h.1, decide (h.2.take 4 = mg))
def desB (q : Int) (hs : List Wr) : List Int := padL (headL 2 hs.length q ++ tagsL (hs.map tagOf))
def descBs (q : Int) (hs : List Wr) : List (List Int) := desB q hs :: hs.map fun h => escL h.2

/-- A list in pieces. -/
def chunk {α : Type} (n : Nat) (xs : List α) : List (List α) := (List.range ((xs.length + n - 1) / n)).map fun i => (xs.drop (n * i)).take n
theorem chunk_length {α : Type} (n : Nat) (xs : List α) : (chunk n xs).length = (xs.length + n - 1) / n := by simp [chunk]
theorem chunk_nil {α : Type} (n : Nat) (hn : 0 < n) : chunk n ([] : List α) = [] := by
  have : ([] : List α).length + n - 1 = n - 1 := by simp
  unfold chunk
  rw [this, Nat.div_eq_of_lt (by omega)]; rfl
theorem chunk_cons {α : Type} (n : Nat) (hn : 0 < n) {xs : List α} (h : 0 < xs.length) : chunk n xs = xs.take n :: chunk n (xs.drop n) := by
  unfold chunk
  have e : (xs.length + n - 1) / n = ((xs.drop n).length + n - 1) / n + 1 := by
    rw [List.length_drop]
    by_cases hl : n ≤ xs.length
    · rw [show xs.length + n - 1 = (xs.length - n + n - 1) + n by omega, Nat.add_div_right _ hn]
    · rw [show xs.length - n = 0 by omega, Nat.div_eq_of_lt (show 0 + n - 1 < n by omega)]
      rw [show xs.length + n - 1 = (xs.length - 1) + n by omega, Nat.add_div_right _ hn, Nat.div_eq_of_lt (by omega)]
  rw [e, List.range_succ_eq_map, List.map_cons, List.map_map]
  congr 1
  apply List.map_congr_left
  intro i _
  simp only [Function.comp, List.drop_drop, Nat.mul_succ]
  congr 2; omega
theorem chunk_mem {α : Type} {n : Nat} {xs c : List α} (h : c ∈ chunk n xs) : ∀ x ∈ c, x ∈ xs := by
  unfold chunk at h
  obtain ⟨i, _, rfl⟩ := List.mem_map.1 h
  intro x hx
  exact List.mem_of_mem_drop (List.mem_of_mem_take hx)

/-- All blocks ahead of the commit block. -/
def BL (q : Int) (hs : List Wr) (rs : List Int) : List (List Int) := (chunk 26 rs).map (revB q) ++ (chunk 17 hs).flatMap (descBs q)
theorem BL_nil (q : Int) : BL q [] [] = [] := by unfold BL; rw [chunk_nil 26 (by omega), chunk_nil 17 (by omega)]; rfl
theorem BL_rev (q : Int) (hs : List Wr) {rs : List Int} (h : 0 < rs.length) : BL q hs rs = revB q (rs.take 26) :: BL q hs (rs.drop 26) := by
  unfold BL; rw [chunk_cons 26 (by omega) h]; rfl
theorem BL_home (q : Int) {hs : List Wr} (h : 0 < hs.length) : BL q hs [] = descBs q (hs.take 17) ++ BL q (hs.drop 17) [] := by
  unfold BL; rw [chunk_cons 17 (by omega) h, chunk_nil 26 (by omega)]; simp

/-- What a transaction's lists must be for its blocks to be told. -/
structure OkT (q : Int) (hs : List Wr) (rs : List Int) : Prop where
  q0 : 1 ≤ q
  q1 : q ≤ 4294967295
  rev : Rises rs rs.length
  home : Rises (hs.map (·.1)) hs.length
  data : ∀ h ∈ hs, h.2.length = 64
  byt : ∀ h ∈ hs, Byt h.2

theorem Rises.drop {xs : List Int} (h : Rises xs xs.length) (n : Nat) : Rises (xs.drop n) (xs.drop n).length := by
  intro i hi
  rw [List.length_drop] at hi
  have e : ∀ j, (xs.drop n).getD j 0 = xs.getD (n + j) 0 := fun j => by simp [List.getD_eq_getElem?_getD, List.getElem?_drop]
  have hx := h (n + i) (by omega)
  rw [e]
  by_cases hz : i = 0
  · subst hz
    have hp := h.pos (n + 0) (by omega)
    exact fol_iff.2 ⟨by show (-1 : Int) < _; omega, (fol_iff.1 hx).2⟩
  · obtain ⟨j, rfl⟩ : ∃ j, i = j + 1 := ⟨i - 1, by omega⟩
    have e1 : prevI (xs.drop n) (j + 1) = xs.getD (n + j) 0 := by unfold prevI; rw [if_neg (by omega)]; exact e j
    have e2 : prevI xs (n + (j + 1)) = xs.getD (n + j) 0 := by unfold prevI; rw [if_neg (by omega)]; rfl
    rw [e1, ← e2]; exact hx
theorem Rises.take {xs : List Int} (h : Rises xs xs.length) (n : Nat) : Rises (xs.take n) (xs.take n).length := by
  intro i hi
  rw [List.length_take] at hi
  have e : ∀ j, j < n → (xs.take n).getD j 0 = xs.getD j 0 := fun j hj => by simp [List.getD_eq_getElem?_getD, hj]
  have hx := h i (by omega)
  rw [e i (by omega)]
  by_cases hz : i = 0
  · subst hz; exact hx
  · obtain ⟨j, rfl⟩ : ∃ j, i = j + 1 := ⟨i - 1, by omega⟩
    have e1 : prevI (xs.take n) (j + 1) = xs.getD j 0 := by unfold prevI; rw [if_neg (by omega)]; exact e j (by omega)
    have e2 : prevI xs (j + 1) = xs.getD j 0 := by unfold prevI; rw [if_neg (by omega)]; rfl
    rw [e1, ← e2]; exact hx
theorem rises_map {hs : List Wr} (h : Rises (hs.map (·.1)) hs.length) : Rises (hs.map (·.1)) (hs.map (·.1)).length := by rw [List.length_map]; exact h
theorem OkT.dropR {q : Int} {hs : List Wr} {rs : List Int} (h : OkT q hs rs) (n : Nat) : OkT q hs (rs.drop n) := ⟨h.q0, h.q1, h.rev.drop n, h.home, h.data, h.byt⟩
theorem OkT.dropH {q : Int} {hs : List Wr} {rs : List Int} (h : OkT q hs rs) (n : Nat) : OkT q (hs.drop n) rs :=
  ⟨h.q0, h.q1, h.rev, by have := (rises_map h.home).drop n; rw [← List.map_drop, List.length_map] at this; exact this, fun x hx => h.data x (List.mem_of_mem_drop hx), fun x hx => h.byt x (List.mem_of_mem_drop hx)⟩
theorem OkT.takeH {q : Int} {hs : List Wr} {rs : List Int} (h : OkT q hs rs) (n : Nat) : OkT q (hs.take n) rs :=
  ⟨h.q0, h.q1, h.rev, by have := (rises_map h.home).take n; rw [← List.map_take, List.length_map] at this; exact this, fun x hx => h.data x (List.mem_of_mem_take hx), fun x hx => h.byt x (List.mem_of_mem_take hx)⟩
theorem OkT.of {t : Tx} (h : ValidT t) (hb : ∀ x ∈ t.homes, Byt x.2) : OkT t.seq t.homes t.revs := by
  obtain ⟨⟨⟨h1, h2⟩, _⟩, h3, h4, h5⟩ := h
  refine ⟨h1, h2, risesB_true.1 h4, by have := risesB_true.1 h3; rwa [List.length_map] at this, ?_, hb⟩
  intro x hx
  obtain ⟨i, hi, rfl⟩ := List.mem_iff_getElem.1 hx
  have := (h5 i hi).1
  rwa [show t.homes.getD i (0, []) = t.homes[i] by simp [List.getD_eq_getElem?_getD, hi]] at this

theorem tags_rise {q : Int} {hs : List Wr} {rs : List Int} (h : OkT q hs rs) : Rises ((hs.map tagOf).map (·.1)) (hs.map tagOf).length := by
  rw [List.map_map, List.length_map]; exact h.home
theorem rev_64 {q : Int} {xs : List Int} (h0 : 1 ≤ q) (h1 : q ≤ 4294967295) (hl : xs.length ≤ 26) (hx : ∀ x ∈ xs, 0 ≤ x ∧ x < 2048) : (revB q xs).length = 64 := by
  unfold revB padL
  have e : (headL 3 xs.length q ++ putPs xs).length = 12 + 2 * xs.length := by rw [List.length_append, headL_len (pn2 (by omega) (by omega)) (pn4 (by omega) h1), putPs_len hx]
  rw [List.length_append, List.length_replicate, e]; omega
theorem des_64 {q : Int} {hs : List Wr} (h0 : 1 ≤ q) (h1 : q ≤ 4294967295) (hl : hs.length ≤ 17) (hx : ∀ x ∈ hs, 0 ≤ x.1 ∧ x.1 < 2048) : (desB q hs).length = 64 := by
  unfold desB padL
  have e : (headL 2 hs.length q ++ tagsL (hs.map tagOf)).length = 12 + 3 * hs.length := by
    rw [List.length_append, headL_len (pn2 (by omega) (by omega)) (pn4 (by omega) h1), tagsL_len (fun x hx' => by obtain ⟨y, hy, rfl⟩ := List.mem_map.1 hx'; exact hx y hy), List.length_map]
  rw [List.length_append, List.length_replicate, e]; omega
theorem OkT.homes_in {q : Int} {hs : List Wr} {rs : List Int} (h : OkT q hs rs) : ∀ x ∈ hs, 0 ≤ x.1 ∧ x.1 < 2048 := fun x hx =>
  (rises_map h.home).bound (Nat.le_refl _) x.1 (List.mem_map.2 ⟨x, hx, rfl⟩)
theorem descBs_64 {q : Int} {hs : List Wr} {rs : List Int} (h : OkT q hs rs) (hl : hs.length ≤ 17) : ∀ b ∈ descBs q hs, b.length = 64 := by
  intro b hb
  unfold descBs at hb
  rcases List.mem_cons.1 hb with rfl | hb
  · exact des_64 h.q0 h.q1 hl h.homes_in
  · obtain ⟨x, hx, rfl⟩ := List.mem_map.1 hb
    exact escL_length (h.data x hx)

/-- Each block has 64 bytes; how many there are at most. -/
theorem BL_64 (n : Nat) {q : Int} : ∀ {hs : List Wr} {rs : List Int}, hs.length + rs.length ≤ n → OkT q hs rs → (∀ b ∈ BL q hs rs, b.length = 64) ∧ (BL q hs rs).length ≤ 2 * hs.length + rs.length := by
  induction n with
  | zero =>
    intro hs rs hn h
    obtain rfl : hs = [] := List.eq_nil_of_length_eq_zero (by omega)
    obtain rfl : rs = [] := List.eq_nil_of_length_eq_zero (by simp only [List.length_nil] at hn; omega)
    rw [BL_nil]; simp
  | succ n ih =>
    intro hs rs hn h
    by_cases hr : 0 < rs.length
    · obtain ⟨i1, i2⟩ := ih (hs := hs) (rs := rs.drop 26) (by rw [List.length_drop]; omega) (h.dropR 26)
      rw [BL_rev q hs hr]
      refine ⟨?_, by rw [List.length_cons]; rw [List.length_drop] at i2; omega⟩
      intro b hb
      rcases List.mem_cons.1 hb with rfl | hb
      · exact rev_64 h.q0 h.q1 (by rw [List.length_take]; omega) (fun x hx => h.rev.bound (Nat.le_refl _) x (List.mem_of_mem_take hx))
      · exact i1 b hb
    · obtain rfl : rs = [] := List.eq_nil_of_length_eq_zero (by omega)
      by_cases hh : 0 < hs.length
      · obtain ⟨i1, i2⟩ := ih (hs := hs.drop 17) (rs := []) (by rw [List.length_drop]; simp at hn ⊢; omega) (h.dropH 17)
        rw [BL_home q hh]
        refine ⟨?_, ?_⟩
        · intro b hb
          rcases List.mem_append.1 hb with hb | hb
          · exact descBs_64 (h.takeH 17) (by rw [List.length_take]; omega) b hb
          · exact i1 b hb
        · rw [List.length_append]
          have e : (descBs q (hs.take 17)).length = (hs.take 17).length + 1 := by unfold descBs; simp
          rw [e, List.length_take]
          rw [List.length_drop] at i2
          simp only [List.length_nil] at i2 ⊢
          omega
      · obtain rfl : hs = [] := List.eq_nil_of_length_eq_zero (by omega)
        rw [BL_nil]; simp
theorem flat_len {bs : List (List Int)} (h : ∀ b ∈ bs, b.length = 64) : bs.flatten.length = 64 * bs.length := by
  induction bs with
  | nil => rfl
  | cons b r ih => rw [List.flatten_cons, List.length_append, h b (by simp), ih (fun x hx => h x (by simp [hx])), List.length_cons]; omega

end Go.Proofs.YtahjaejepkgfdaaGreatDoor
