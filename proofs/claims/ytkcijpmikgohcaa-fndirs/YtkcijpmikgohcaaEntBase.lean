/- Entries as they are seen in memory and owned; the law's helpers over them: szEntryS, toEntryS, eqEntryS. -/
import Derived.Test.YtkcijpmikgohcaaSzB
import Derived.Deep.RegionWith
namespace Go.Proofs.Ytkcijpmikgohcaa
open Go.RowKit

abbrev Ent := Int × ByteArray
def Ent.none : Ent := (0, ⟨#[]⟩)

/-- The cells of one of them. -/
def EAt (w : World) (b off : Nat) (t : Ent) : Prop := w.cell? ⟨b, off, none⟩ = some (.int .i64 t.1) ∧ w.cell? ⟨b, off + 1, none⟩ = some (.string t.2)
def EView (w : World) (lo hi : Nat) (v : Value) (ts : List Ent) : Prop :=
  ∃ ao cap, v = .slice ao ts.length cap ∧ ts.length ≤ 9223372036854775807 ∧ ts.length ≤ cap ∧
    (ts = [] ∨ ∃ b off, ao = some ⟨b, off, none⟩ ∧ lo ≤ b ∧ b < hi ∧ ∀ i, i < ts.length → EAt w b (off + i * 2) (ts.getD i Ent.none))

theorem EAt.chg {w w' : World} {l r b off : Nat} {t : Ent} (h : EAt w b off t) (c : Chg l r w w') (d : b < l ∨ r ≤ b) : EAt w' b off t := ⟨c.cell h.1 d, c.cell h.2 d⟩
theorem EView.chg {w w' : World} {lo hi l r : Nat} {v : Value} {ts : List Ent} (h : EView w lo hi v ts) (c : Chg l r w w') (d : hi ≤ l ∨ r ≤ lo ∨ r ≤ l) : EView w' lo hi v ts := by
  obtain ⟨ao, cap, hv, h1, h2, h3⟩ := h
  refine ⟨ao, cap, hv, h1, h2, ?_⟩
  rcases h3 with h3 | ⟨b, off, hao, hb, hb', h3⟩
  · exact Or.inl h3
  · exact Or.inr ⟨b, off, hao, hb, hb', fun i hi => (h3 i hi).chg c (by omega)⟩
theorem EView.slice {w : World} {lo hi : Nat} {v : Value} {ts : List Ent} (h : EView w lo hi v ts) : ∃ ao cap, v = .slice ao ts.length cap := by
  obtain ⟨ao, cap, rfl, _⟩ := h; exact ⟨ao, cap, rfl⟩
theorem EView.nil (w : World) (lo hi : Nat) : EView w lo hi (.slice none 0 0) [] := ⟨none, 0, rfl, by simp, by simp, Or.inl rfl⟩

/-- Owned. -/
def cellsE (ts : List Ent) : List Value := ts.flatMap fun t => [.int .i64 t.1, .string t.2]
theorem cellsE_len (ts : List Ent) : (cellsE ts).length = ts.length * 2 := by
  unfold cellsE
  induction ts with
  | nil => rfl
  | cons t r ih => rw [List.flatMap_cons, List.length_append, ih, List.length_cons]; simp; omega
theorem cellsE_get (ts : List Ent) : ∀ i, i < ts.length → (cellsE ts)[i * 2]? = some (.int .i64 (ts.getD i Ent.none).1) ∧ (cellsE ts)[i * 2 + 1]? = some (.string (ts.getD i Ent.none).2) := by
  unfold cellsE
  induction ts with
  | nil => intro i h; simp at h
  | cons t r ih =>
    intro i hi
    rw [List.flatMap_cons]
    cases i with
    | zero => simp
    | succ j =>
      have := ih j (by simpa using hi)
      rw [show (j + 1) * 2 = j * 2 + 2 by omega]
      simpa using this
theorem cellsE_app (a b : List Ent) : cellsE (a ++ b) = cellsE a ++ cellsE b := by unfold cellsE; rw [List.flatMap_append]
theorem cellsE_set (ts : List Ent) : ∀ i t, i < ts.length → ((cellsE ts).set (i * 2) (.int .i64 t.1)).set (i * 2 + 1) (.string t.2) = cellsE (ts.set i t) := by
  unfold cellsE
  induction ts with
  | nil => intro i t h; simp at h
  | cons u r ih =>
    intro i t hi
    cases i with
    | zero => simp
    | succ j =>
      have := ih j t (by simpa using hi)
      rw [show (j + 1) * 2 = j * 2 + 2 by omega]
      simpa using this

def OwnE (w : World) (base : Nat) (e : TypeId) (v : Value) (ts : List Ent) : Prop := w.ownsRow base e 2 v ts.length (cellsE ts)
theorem OwnE.lt {w : World} {base : Nat} {e : TypeId} {v : Value} {ts : List Ent} (h : OwnE w base e v ts) : ∀ g, v.ownBlock = some g → base ≤ g ∧ g < w.heap.size := World.ownsRow.lt h
theorem OwnE.chg {w w' : World} {base l r : Nat} {e : TypeId} {v : Value} {ts : List Ent} (h : OwnE w base e v ts) (c : Chg l r w w') (d : ∀ g, v.ownBlock = some g → g < l ∨ r ≤ g) : OwnE w' base e v ts := by
  obtain ⟨h1, h2⟩ := h
  refine ⟨h1, ?_⟩
  rcases h2 with h2 | ⟨g, cap, cur, hv, hg, hh, r⟩
  · exact Or.inl h2
  · refine Or.inr ⟨g, cap, cur, hv, hg, ?_, r⟩
    rw [c.block g (Array.getElem?_eq_some_iff.1 hh).1 (d g (by rw [hv]; rfl))]; exact hh
theorem OwnE.view {w : World} {base : Nat} {e : TypeId} {v : Value} {ts : List Ent} (h : OwnE w base e v ts) (hl : ts.length ≤ 9223372036854775807) {hi : Nat} (hb : ∀ g, v.ownBlock = some g → g < hi) : EView w base hi v ts := by
  have h' := h
  obtain ⟨_, h2⟩ := h
  rcases h2 with ⟨rfl, h0⟩ | ⟨g, cap, cur, rfl, hg, hh, hc, hm, hs, ht⟩
  · obtain rfl : ts = [] := List.eq_nil_of_length_eq_zero h0
    exact EView.nil _ _ _
  · refine ⟨_, cap, rfl, hl, hc, Or.inr ⟨g, 0, rfl, hg, hb g rfl, fun i hi => ?_⟩⟩
    have := cellsE_get ts i hi
    constructor
    · rw [Nat.zero_add, World.ownsRow.cellAt h' (i * 2) (by omega)]; exact this.1
    · rw [Nat.zero_add, World.ownsRow.cellAt h' (i * 2 + 1) (by omega)]; exact this.2

/-- How much they hold. -/
def cntE (ts : List Ent) : Nat := (ts.map fun t => t.2.size + 1).sum
theorem cntE_ge (ts : List Ent) : ts.length ≤ cntE ts := by
  unfold cntE
  induction ts with
  | nil => simp
  | cons p r ih => simp at *; omega
theorem cntE_take_succ (ts : List Ent) (k : Nat) (h : k < ts.length) : cntE (ts.take (k + 1)) = cntE (ts.take k) + ((ts.getD k Ent.none).2.size + 1) := by
  unfold cntE
  rw [List.take_succ_eq_append_getElem h, List.map_append, List.sum_append_nat]
  simp [List.getD_eq_getElem?_getD, h]
theorem cntE_split (ts : List Ent) (k : Nat) : cntE ts = cntE (ts.take k) + cntE (ts.drop k) := by
  unfold cntE; rw [← List.sum_append_nat, ← List.map_append, List.take_append_drop]
theorem cntE_take_le (ts : List Ent) (k : Nat) : cntE (ts.take k) ≤ cntE ts := by have := cntE_split ts k; omega
theorem cntE_rest (ts : List Ent) (k : Nat) : cntE (ts.take k) + (ts.length - k) ≤ cntE ts := by
  have h1 := cntE_split ts k
  have h2 := cntE_ge (ts.drop k)
  rw [List.length_drop] at h2
  omega
theorem cntE_at {ts : List Ent} {k : Nat} (h : k < ts.length) : (ts.getD k Ent.none).2.size ≤ cntE ts := by
  have := cntE_take_succ ts k h; have := cntE_take_le ts (k + 1); omega

/-- Each name has a size that a text may have. -/
def Sized (ts : List Ent) : Prop := ∀ i, i < ts.length → (ts.getD i Ent.none).2.size ≤ 9223372036854775807

end Go.Proofs.Ytkcijpmikgohcaa
