/- Lists of operations in memory. -/
import Derived.Test.YtplfehjaakkldaaMem
namespace Go.Proofs.Ytplfehjaakkldaa
open Go.RowKit

/-- One operation: its kind, its block, its bytes. -/
abbrev Opx : Type := Int × Int × List Int

abbrev Opx.zero : Opx := (0, 0, [])

/-- A slice of operations, as it is seen in memory. -/
def OView (w : World) (lo hi : Nat) (v : Value) (os : List Opx) : Prop :=
  ∃ ao cap, v = .slice ao os.length cap ∧ os.length ≤ 9223372036854775807 ∧ os.length ≤ cap ∧
    (os = [] ∨ ∃ b off, ao = some ⟨b, off, none⟩ ∧ lo ≤ b ∧ b < hi ∧ ∀ i, i < os.length → ∃ dv,
      w.cell? ⟨b, off + i * 3, none⟩ = some (.int .i64 (os.getD i Opx.zero).1) ∧ w.cell? ⟨b, off + i * 3 + 1, none⟩ = some (.int .i64 (os.getD i Opx.zero).2.1) ∧
      w.cell? ⟨b, off + i * 3 + 2, none⟩ = some dv ∧ View w lo hi .u8 dv (os.getD i Opx.zero).2.2)

theorem OView.chg {w w' : World} {lo hi l r : Nat} {v : Value} {os : List Opx} (h : OView w lo hi v os) (c : Chg l r w w') (d : hi ≤ l ∨ r ≤ lo ∨ r ≤ l) : OView w' lo hi v os := by
  obtain ⟨ao, cap, hv, hl, hc, h⟩ := h
  refine ⟨ao, cap, hv, hl, hc, ?_⟩
  rcases h with h | ⟨b, off, ha, h1, h2, h3⟩
  · exact Or.inl h
  · refine Or.inr ⟨b, off, ha, h1, h2, fun i hi => ?_⟩
    obtain ⟨dv, c1, c2, c3, vw⟩ := h3 i hi
    exact ⟨dv, c.cell c1 (by omega), c.cell c2 (by omega), c.cell c3 (by omega), vw.chg c d⟩

theorem OView.nil (w : World) (lo hi : Nat) : OView w lo hi (.slice none 0 0) [] := ⟨none, 0, rfl, by simp, by simp, Or.inl rfl⟩

/-- A row of operations that is this slice's own, each one's bytes a row of its own. -/
structure OwnOx (w : World) (base : Nat) (eO eB : TypeId) (v : Value) (os : List Opx) (cells : List Value) (dvs : Nat → Value) : Prop where
  row : w.ownsRow base eO 3 v os.length cells
  at0 : ∀ i, i < os.length → cells[i * 3]? = some (.int .i64 (os.getD i Opx.zero).1)
  at1 : ∀ i, i < os.length → cells[i * 3 + 1]? = some (.int .i64 (os.getD i Opx.zero).2.1)
  at2 : ∀ i, i < os.length → cells[i * 3 + 2]? = some (dvs i)
  data : ∀ i, i < os.length → OwnB w base eB (dvs i) (os.getD i Opx.zero).2.2
  apart : ∀ i j g, i < j → j < os.length → (dvs i).ownBlock = some g → (dvs j).ownBlock ≠ some g

theorem OwnOx.chg {w w' : World} {base l r : Nat} {eO eB : TypeId} {v : Value} {os : List Opx} {cells : List Value} {dvs : Nat → Value} (h : OwnOx w base eO eB v os cells dvs) (c : Chg l r w w')
    (d : ∀ g, v.ownBlock = some g → g < l ∨ r ≤ g) (d' : ∀ i g, i < os.length → (dvs i).ownBlock = some g → g < l ∨ r ≤ g) : OwnOx w' base eO eB v os cells dvs := by
  refine ⟨?_, h.at0, h.at1, h.at2, fun i hi => (h.data i hi).chg c (d' i · hi), h.apart⟩
  obtain ⟨h1, h2⟩ := h.row
  refine ⟨h1, ?_⟩
  rcases h2 with h2 | ⟨g, cap, cur, hv, hg, hh, r⟩
  · exact Or.inl h2
  · refine Or.inr ⟨g, cap, cur, hv, hg, ?_, r⟩
    rw [c.block g (Array.getElem?_eq_some_iff.1 hh).1 (d g (by rw [hv]; rfl))]; exact hh

theorem OwnOx.row_elem {w : World} {base g n cap : Nat} {eO eB : TypeId} {os : List Opx} {cells : List Value} {dvs : Nat → Value} (h : OwnOx w base eO eB (.slice (some ⟨g, 0, none⟩) n cap) os cells dvs) : ∃ cur, w.heap[g]? = some (.cells cur eO (0, 0)) := by
  rcases h.row.2 with ⟨h', _⟩ | ⟨g', cap', cur, h', hb, hg, _⟩
  · cases h'
  · simp only [Value.slice.injEq, Option.some.injEq, Addr.mk.injEq, and_true] at h'
    obtain ⟨rfl, _⟩ := h'
    exact ⟨cur, hg⟩

theorem OwnOx.view {w : World} {base : Nat} {eO eB : TypeId} {v : Value} {os : List Opx} {cells : List Value} {dvs : Nat → Value} (h : OwnOx w base eO eB v os cells dvs) (hl : os.length ≤ 9223372036854775807)
    (hd : ∀ i, i < os.length → (os.getD i Opx.zero).2.2.length ≤ 9223372036854775807) {hi : Nat} (hb : ∀ g, v.ownBlock = some g → g < hi) (hb' : ∀ i g, i < os.length → (dvs i).ownBlock = some g → g < hi) : OView w base hi v os := by
  have hrow := h.row
  rcases hrow.2 with ⟨rfl, h0⟩ | ⟨g, cap, cur, rfl, hg, hh, hc, _⟩
  · obtain rfl : os = [] := List.eq_nil_of_length_eq_zero h0
    exact OView.nil _ _ _
  · refine ⟨_, cap, rfl, hl, hc, Or.inr ⟨g, 0, rfl, hg, hb g rfl, fun i hi => ⟨dvs i, ?_, ?_, ?_, (h.data i hi).view (hd i hi) (hb' i · hi)⟩⟩⟩
    · rw [Nat.zero_add, World.ownsRow.cellAt hrow (i * 3) (by omega)]; exact h.at0 i hi
    · rw [Nat.zero_add, World.ownsRow.cellAt hrow (i * 3 + 1) (by omega)]; exact h.at1 i hi
    · rw [Nat.zero_add, World.ownsRow.cellAt hrow (i * 3 + 2) (by omega)]; exact h.at2 i hi

/-- One operation is put in its place, its bytes a new row. -/
theorem OwnOx.put {wr : World} {base g cap n k : Nat} {eO eB : TypeId} {os : List Opx} {cells : List Value} {dvs : Nat → Value}
    (h : OwnOx wr base eO eB (.slice (some ⟨g, 0, none⟩) n cap) os cells dvs) (hn : os.length = n) (hk : k < n) (hE : eO ≠ eB) (q a : Int) (ys : List Int) (dv : Value)
    (ho : OwnB wr base eB dv ys) (hfr : ∀ i g', i < n → (dvs i).ownBlock = some g' → dv.ownBlock ≠ some g') :
    OwnOx (((wr.setCell ⟨g, k * 3, none⟩ (.int .i64 q)).setCell ⟨g, k * 3 + 1, none⟩ (.int .i64 a)).setCell ⟨g, k * 3 + 2, none⟩ dv) base eO eB (.slice (some ⟨g, 0, none⟩) n cap) (os.set k (q, a, ys)) (((cells.set (k * 3) (.int .i64 q)).set (k * 3 + 1) (.int .i64 a)).set (k * 3 + 2) dv) (fun i => if i = k then dv else dvs i) := by
  obtain ⟨cur, hcur⟩ := h.row_elem
  obtain ⟨row, at0, at1, at2, data, apart⟩ := h
  rw [hn] at row
  have hst := (World.ownsRow.stored (World.ownsRow.stored (World.ownsRow.stored row (k * 3) (.int .i64 q)).1 (k * 3 + 1) (.int .i64 a)).1 (k * 3 + 2) dv).1
  have hlen : cells.length = n * 3 := row.1
  have hps : (os.set k (q, a, ys)).length = n := by simp [hn]
  have hD : ∀ {v : Value} {xs : List Int}, OwnB wr base eB v xs → OwnB (((wr.setCell ⟨g, k * 3, none⟩ (.int .i64 q)).setCell ⟨g, k * 3 + 1, none⟩ (.int .i64 a)).setCell ⟨g, k * 3 + 2, none⟩ dv) base eB v xs := by
    intro v xs hv
    have := hv.ne_row hcur hE
    exact ((hv.set this _).set this _).set this _
  have hget : ∀ i, i ≠ k → (os.set k (q, a, ys)).getD i Opx.zero = os.getD i Opx.zero := by
    intro i e
    simp only [List.getD_eq_getElem?_getD, List.getElem?_set_ne (fun h => e h.symm)]
  have hgetk : (os.set k (q, a, ys)).getD k Opx.zero = (q, a, ys) := by simp [List.getD_eq_getElem?_getD, hn, hk]
  refine ⟨?_, ?_, ?_, ?_, ?_, ?_⟩
  · rw [hps]; exact hst
  · intro i hi
    rw [hps] at hi
    rw [List.getElem?_set_ne (by omega), List.getElem?_set_ne (by omega)]
    by_cases e : i = k
    · subst e; rw [List.getElem?_set_self (by omega), hgetk]
    · rw [List.getElem?_set_ne (by omega), at0 i (by omega), hget i e]
  · intro i hi
    rw [hps] at hi
    rw [List.getElem?_set_ne (by omega)]
    by_cases e : i = k
    · subst e; rw [List.getElem?_set_self (by simp; omega), hgetk]
    · rw [List.getElem?_set_ne (by omega), List.getElem?_set_ne (by omega), at1 i (by omega), hget i e]
  · intro i hi
    rw [hps] at hi
    by_cases e : i = k
    · subst e; rw [List.getElem?_set_self (by simp; omega)]; simp
    · rw [List.getElem?_set_ne (by omega), List.getElem?_set_ne (by omega), List.getElem?_set_ne (by omega), at2 i (by omega), if_neg e]
  · intro i hi
    rw [hps] at hi
    by_cases e : i = k
    · subst e; simp only [if_true]; rw [hgetk]; exact hD ho
    · rw [hget i e, if_neg e]; exact hD (data i (by omega))
  · intro i j g' hij hj
    rw [hps] at hj
    by_cases e : i = k
    · subst e
      rw [if_pos rfl, if_neg (by omega)]
      intro h1 h2
      exact hfr j g' hj h2 h1
    · rw [if_neg e]
      by_cases e' : j = k
      · subst e'; rw [if_pos rfl]; intro h1; exact hfr i g' (by omega) h1
      · rw [if_neg e']; exact apart i j g' hij (by omega)

/-- How much a list of operations counts. -/
def cntO (os : List Opx) : Nat := (os.map fun o => o.2.2.length + 1).sum

theorem cntO_ge (os : List Opx) : os.length ≤ cntO os := by
  unfold cntO
  induction os with
  | nil => simp
  | cons p r ih => simp at *; omega

theorem cntO_take_succ (os : List Opx) (k : Nat) (h : k < os.length) : cntO (os.take (k + 1)) = cntO (os.take k) + ((os.getD k Opx.zero).2.2.length + 1) := by
  unfold cntO
  rw [List.take_succ_eq_append_getElem h, List.map_append, List.sum_append_nat]
  simp [List.getD_eq_getElem?_getD, h]

theorem cntO_split (os : List Opx) (k : Nat) : cntO os = cntO (os.take k) + cntO (os.drop k) := by
  unfold cntO; rw [← List.sum_append_nat, ← List.map_append, List.take_append_drop]

theorem cntO_take_le (os : List Opx) (k : Nat) : cntO (os.take k) ≤ cntO os := by
  have := cntO_split os k; omega

theorem cntO_rest (os : List Opx) (k : Nat) : cntO (os.take k) + (os.length - k) ≤ cntO os := by
  have h1 := cntO_split os k
  have h2 := cntO_ge (os.drop k)
  rw [List.length_drop] at h2
  omega

theorem cntO_data {os : List Opx} {i : Nat} (h : i < os.length) : (os.getD i Opx.zero).2.2.length + 1 ≤ cntO os := by
  have h1 := cntO_take_succ os i h
  have h2 := cntO_take_le os (i + 1)
  omega

end Go.Proofs.Ytplfehjaakkldaa
