/-
  Memory as the disk's texts see it: worlds that are the same, worlds that differ within an interval of blocks alone, slices of numbers and of writes seen in memory. Nothing of the program is named here.
-/
import Derived.WalkKit
import Derived.Deep.QuietTactic
import Derived.BigQuiet
import Derived.Laws.CopyOwn
namespace Go.Proofs.Ytplfehjaakkldaa
open Go.RowKit

/-- Nothing has turned but the count of draws. -/
structure Same (w w' : World) : Prop where
  heap : w'.heap = w.heap
  os : w'.os = w.os
  tape : w'.tape = w.tape
  output : w'.output = w.output

theorem Same.refl (w : World) : Same w w := ⟨rfl, rfl, rfl, rfl⟩
theorem Same.trans {a b c : World} (h : Same a b) (k : Same b c) : Same a c := ⟨k.heap.trans h.heap, k.os.trans h.os, k.tape.trans h.tape, k.output.trans h.output⟩
theorem Same.symm {a b : World} (h : Same a b) : Same b a := ⟨h.heap.symm, h.os.symm, h.tape.symm, h.output.symm⟩
theorem Same.drewN {a b : World} (h : Same a b) (n : Nat) : Same a (b.drewN n) := ⟨h.heap, h.os, h.tape, h.output⟩
theorem Same.drew {a b : World} (h : Same a b) : Same a b.drew := ⟨h.heap, h.os, h.tape, h.output⟩
theorem Same.cell {a b : World} (h : Same a b) (p : Addr) : b.cell? p = a.cell? p := World.cell?_of_block (by rw [h.heap])
theorem Same.frozen {a b : World} (h : Same a b) (p : Addr) : b.frozen? p = a.frozen? p := World.frozen?_of_block (by rw [h.heap])

/-- Of the blocks that were there, those outside lo .. hi - 1 are as they were. -/
structure Chg (lo hi : Nat) (w w' : World) : Prop where
  os : w'.os = w.os
  tape : w'.tape = w.tape
  output : w'.output = w.output
  size : w.heap.size ≤ w'.heap.size
  block : ∀ k, k < w.heap.size → k < lo ∨ hi ≤ k → w'.heap[k]? = w.heap[k]?

theorem Chg.refl (lo hi : Nat) (w : World) : Chg lo hi w w := ⟨rfl, rfl, rfl, Nat.le_refl _, fun _ _ _ => rfl⟩
theorem Chg.trans {lo hi : Nat} {a b c : World} (h : Chg lo hi a b) (k : Chg lo hi b c) : Chg lo hi a c :=
  ⟨k.os.trans h.os, k.tape.trans h.tape, k.output.trans h.output, Nat.le_trans h.size k.size, fun i hi ho => (k.block i (Nat.lt_of_lt_of_le hi h.size) ho).trans (h.block i hi ho)⟩
theorem Same.chg {w w' : World} (h : Same w w') (lo hi : Nat) : Chg lo hi w w' := ⟨h.os, h.tape, h.output, by rw [h.heap]; exact Nat.le_refl _, fun _ _ _ => by rw [h.heap]⟩
theorem Chg.widen {lo hi lo' hi' : Nat} {w w' : World} (h : Chg lo hi w w') (a : lo' ≤ lo ∨ hi ≤ lo) (b : hi ≤ hi' ∨ hi ≤ lo) : Chg lo' hi' w w' :=
  ⟨h.os, h.tape, h.output, h.size, fun k hk ho => h.block k hk (by omega)⟩
theorem Chg.alloc {lo hi : Nat} {a w : World} (h : Chg lo hi a w) (o : Obj) : Chg lo hi a (w.alloc o) :=
  h.trans ⟨rfl, rfl, rfl, by simp, fun k hk _ => Below.heap_alloc _ _ _ hk⟩
theorem Chg.setCell {lo hi : Nat} {a w : World} (h : Chg lo hi a w) {p : Addr} (hp : (lo ≤ p.block ∧ p.block < hi) ∨ a.heap.size ≤ p.block) (u : Value) : Chg lo hi a (w.setCell p u) :=
  ⟨h.os, h.tape, h.output, by simpa [World.setCell] using h.size, fun k hk ho => (Below.heap_setCell _ _ _ _ (by omega)).trans (h.block k hk ho)⟩
theorem Chg.drew {lo hi : Nat} {a w : World} (h : Chg lo hi a w) : Chg lo hi a w.drew := ⟨h.os, h.tape, h.output, h.size, h.block⟩
theorem Chg.drewN {lo hi : Nat} {a w : World} (h : Chg lo hi a w) (n : Nat) : Chg lo hi a (w.drewN n) := ⟨h.os, h.tape, h.output, h.size, h.block⟩
theorem Chg.below {lo hi : Nat} {w w' : World} (h : Chg lo hi w w') (e : hi ≤ lo ∨ w.heap.size ≤ lo) : Below w.heap.size w w' := ⟨h.os, h.tape, h.output, h.size, fun k hk => h.block k hk (by omega)⟩
theorem Chg.ofBelow {w w' : World} (h : Below w.heap.size w w') (lo hi : Nat) : Chg lo hi w w' := ⟨h.os, h.tape, h.output, h.size, fun k hk _ => h.block k hk⟩
theorem Chg.ofGrown {lo hi : Nat} {w w' : World} {row : Option Nat} (h : w.grownBy w' row) (hr : ∀ k, row = some k → k < w.heap.size → lo ≤ k ∧ k < hi) : Chg lo hi w w' :=
  ⟨h.os, h.tape, h.output, h.size, fun k hk ho => h.block k hk (fun e => by have := hr k e.symm hk; omega)⟩
/-- Two steps, the second of which turns what is new to the first. -/
theorem Chg.step {lo hi l r : Nat} {a b c : World} (h : Chg lo hi a b) (k : Chg l r b c) (hk : (lo ≤ l ∧ r ≤ hi) ∨ a.heap.size ≤ l ∨ r ≤ l) : Chg lo hi a c :=
  ⟨k.os.trans h.os, k.tape.trans h.tape, k.output.trans h.output, Nat.le_trans h.size k.size, fun i hi' ho => (k.block i (Nat.lt_of_lt_of_le hi' h.size) (by omega)).trans (h.block i hi' ho)⟩

theorem lt_of_cell {w : World} {b o : Nat} {x : Value} (h : w.cell? ⟨b, o, none⟩ = some x) : b < w.heap.size := by
  rcases Nat.lt_or_ge b w.heap.size with h' | h'
  · exact h'
  · rw [World.cell?, Array.getElem?_eq_none h'] at h; cases h

theorem Chg.cell {lo hi : Nat} {w w' : World} (h : Chg lo hi w w') {b o : Nat} {x : Value} (hc : w.cell? ⟨b, o, none⟩ = some x) (ho : b < lo ∨ hi ≤ b) : w'.cell? ⟨b, o, none⟩ = some x :=
  (World.cell?_of_block (a := ⟨b, o, none⟩) (h.block b (lt_of_cell hc) ho)).trans hc

/-- Both cells of one block are written. -/
theorem Chg.set2 (w : World) (s : Nat) (a b : Value) : Chg s (s + 1) w ((w.setCell ⟨s, 0, none⟩ a).setCell ⟨s, 1, none⟩ b) :=
  Chg.setCell (Chg.setCell (Chg.refl _ _ _) (p := ⟨s, 0, none⟩) (Or.inl ⟨Nat.le_refl _, Nat.lt_succ_self _⟩) a) (p := ⟨s, 1, none⟩) (Or.inl ⟨Nat.le_refl _, Nat.lt_succ_self _⟩) b

/-- A block of two cells: its cells, and that none of them is frozen. -/
theorem two_cells {w : World} {s : Nat} {a b : Value} {t : TypeId} (h : w.heap[s]? = some (.cells #[a, b] t (0, 0))) :
    w.cell? ⟨s, 0, none⟩ = some a ∧ w.cell? ⟨s, 1, none⟩ = some b ∧ w.frozen? ⟨s, 0, none⟩ = false ∧ w.frozen? ⟨s, 1, none⟩ = false := by
  simp [World.cell?, World.frozen?, h]
theorem heap_new (w : World) (o : Obj) : (w.alloc o).heap[w.heap.size]? = some o := by
  show (w.heap.push o)[w.heap.size]? = _; simp

theorem alloc3 (w : World) (o1 o2 o3 : Obj) : (((w.alloc o1).alloc o2).alloc o3).heap.size = w.heap.size + 3 ∧ (((w.alloc o1).alloc o2).alloc o3).heap[w.heap.size]? = some o1 ∧
    (((w.alloc o1).alloc o2).alloc o3).heap[w.heap.size + 1]? = some o2 ∧ (((w.alloc o1).alloc o2).alloc o3).heap[w.heap.size + 1 + 1]? = some o3 := by
  have e1 : (w.alloc o1).heap.size = w.heap.size + 1 := by simp
  have e2 : ((w.alloc o1).alloc o2).heap.size = w.heap.size + 1 + 1 := by simp
  refine ⟨by simp, ?_, ?_, ?_⟩
  · rw [Below.heap_alloc _ _ _ (by omega), Below.heap_alloc _ _ _ (by omega)]; exact heap_new _ _
  · rw [Below.heap_alloc _ _ _ (by omega), ← e1]; exact heap_new _ _
  · rw [← e2]; exact heap_new _ _
theorem alloc2 (w : World) (o1 o2 : Obj) : ((w.alloc o1).alloc o2).heap.size = w.heap.size + 2 ∧ ((w.alloc o1).alloc o2).heap[w.heap.size]? = some o1 ∧
    ((w.alloc o1).alloc o2).heap[w.heap.size + 1]? = some o2 := by
  have e1 : (w.alloc o1).heap.size = w.heap.size + 1 := by simp
  refine ⟨by simp, ?_, ?_⟩
  · rw [Below.heap_alloc _ _ _ (by omega)]; exact heap_new _ _
  · rw [← e1]; exact heap_new _ _

/-- A slice of numbers, as it is seen in memory; its cells lie in the blocks lo .. hi - 1. -/
def View (w : World) (lo hi : Nat) (k : IntKind) (v : Value) (xs : List Int) : Prop :=
  ∃ ao cap, v = .slice ao xs.length cap ∧ xs.length ≤ 9223372036854775807 ∧ (xs.length ≤ cap ∧ (ao = none → cap = 0)) ∧
    (xs = [] ∨ ∃ b off, ao = some ⟨b, off, none⟩ ∧ lo ≤ b ∧ b < hi ∧ ∀ i, i < xs.length → w.cell? ⟨b, off + i, none⟩ = some (.int k (xs.getD i 0)))

theorem View.chg {w w' : World} {lo hi l r : Nat} {k : IntKind} {v : Value} {xs : List Int} (h : View w lo hi k v xs) (c : Chg l r w w') (d : hi ≤ l ∨ r ≤ lo ∨ r ≤ l) : View w' lo hi k v xs := by
  obtain ⟨ao, cap, hv, hl, hc, h⟩ := h
  refine ⟨ao, cap, hv, hl, hc, ?_⟩
  rcases h with h | ⟨b, off, ha, h1, h2, h3⟩
  · exact Or.inl h
  · exact Or.inr ⟨b, off, ha, h1, h2, fun i hi => c.cell (h3 i hi) (by omega)⟩

theorem View.same {w w' : World} {lo hi : Nat} {k : IntKind} {v : Value} {xs : List Int} (h : View w lo hi k v xs) (c : Same w w') : View w' lo hi k v xs := h.chg (c.chg 0 0) (by omega)

theorem View.mono {w : World} {lo hi lo' hi' : Nat} {k : IntKind} {v : Value} {xs : List Int} (h : View w lo hi k v xs) (a : lo' ≤ lo) (b : hi ≤ hi') : View w lo' hi' k v xs := by
  obtain ⟨ao, cap, hv, hl, hc, h⟩ := h
  refine ⟨ao, cap, hv, hl, hc, ?_⟩
  rcases h with h | ⟨x, off, ha, h1, h2, h3⟩
  · exact Or.inl h
  · exact Or.inr ⟨x, off, ha, by omega, by omega, h3⟩

theorem View.nil (w : World) (lo hi : Nat) (k : IntKind) : View w lo hi k (.slice none 0 0) [] := ⟨none, 0, rfl, by simp, ⟨by simp, by simp⟩, Or.inl rfl⟩

/-- A list of writes: each its block's number and its bytes. -/
abbrev Wr : Type := Int × List Int

/-- A slice of writes, as it is seen in memory. -/
def PView (w : World) (lo hi : Nat) (v : Value) (ps : List Wr) : Prop :=
  ∃ ao cap, v = .slice ao ps.length cap ∧ ps.length ≤ 9223372036854775807 ∧ ps.length ≤ cap ∧
    (ps = [] ∨ ∃ b off, ao = some ⟨b, off, none⟩ ∧ lo ≤ b ∧ b < hi ∧ ∀ i, i < ps.length → ∃ dv,
      w.cell? ⟨b, off + i * 2, none⟩ = some (.int .i64 (ps.getD i (0, [])).1) ∧ w.cell? ⟨b, off + i * 2 + 1, none⟩ = some dv ∧ View w lo hi .u8 dv (ps.getD i (0, [])).2)

theorem PView.chg {w w' : World} {lo hi l r : Nat} {v : Value} {ps : List Wr} (h : PView w lo hi v ps) (c : Chg l r w w') (d : hi ≤ l ∨ r ≤ lo ∨ r ≤ l) : PView w' lo hi v ps := by
  obtain ⟨ao, cap, hv, hl, hc, h⟩ := h
  refine ⟨ao, cap, hv, hl, hc, ?_⟩
  rcases h with h | ⟨b, off, ha, h1, h2, h3⟩
  · exact Or.inl h
  · refine Or.inr ⟨b, off, ha, h1, h2, fun i hi => ?_⟩
    obtain ⟨dv, c1, c2, vw⟩ := h3 i hi
    exact ⟨dv, c.cell c1 (by omega), c.cell c2 (by omega), vw.chg c d⟩

theorem PView.mono {w : World} {lo hi lo' hi' : Nat} {v : Value} {ps : List Wr} (h : PView w lo hi v ps) (a : lo' ≤ lo) (b : hi ≤ hi') : PView w lo' hi' v ps := by
  obtain ⟨ao, cap, hv, hl, hc, h⟩ := h
  refine ⟨ao, cap, hv, hl, hc, ?_⟩
  rcases h with h | ⟨x, off, ha, h1, h2, h3⟩
  · exact Or.inl h
  · refine Or.inr ⟨x, off, ha, by omega, by omega, fun i hi => ?_⟩
    obtain ⟨dv, c1, c2, vw⟩ := h3 i hi
    exact ⟨dv, c1, c2, vw.mono a b⟩

theorem PView.nil (w : World) (lo hi : Nat) : PView w lo hi (.slice none 0 0) [] := ⟨none, 0, rfl, by simp, by simp, Or.inl rfl⟩

/-- A disk: its durable bytes, its pending writes. -/
structure Dsk where
  dur : List Int
  pend : List Wr

def DView (w : World) (lo hi : Nat) (v : Value) (d : Dsk) : Prop := ∃ dv pv, v = .agg #[dv, pv] ∧ View w lo hi .u8 dv d.dur ∧ PView w lo hi pv d.pend

theorem DView.chg {w w' : World} {lo hi l r : Nat} {v : Value} {d : Dsk} (h : DView w lo hi v d) (c : Chg l r w w') (e : hi ≤ l ∨ r ≤ lo ∨ r ≤ l) : DView w' lo hi v d := by
  obtain ⟨dv, pv, hv, h1, h2⟩ := h
  exact ⟨dv, pv, hv, h1.chg c e, h2.chg c e⟩
theorem DView.mono {w : World} {lo hi lo' hi' : Nat} {v : Value} {d : Dsk} (h : DView w lo hi v d) (a : lo' ≤ lo) (b : hi ≤ hi') : DView w lo' hi' v d := by
  obtain ⟨dv, pv, hv, h1, h2⟩ := h
  exact ⟨dv, pv, hv, h1.mono a b, h2.mono a b⟩

/-! ### what a call has made for itself -/

/-- A row of bytes that is this slice's own (e: the type of a byte). -/
def OwnB (w : World) (base : Nat) (e : TypeId) (v : Value) (xs : List Int) : Prop := w.ownsRow base e 1 v xs.length (xs.map (Value.int .u8))

theorem OwnB.view {w : World} {base : Nat} {e : TypeId} {v : Value} {xs : List Int} (h : OwnB w base e v xs) (hl : xs.length ≤ 9223372036854775807) {hi : Nat} (hb : ∀ g, v.ownBlock = some g → g < hi) : View w base hi .u8 v xs := by
  have h' := h
  obtain ⟨_, h2⟩ := h
  rcases h2 with ⟨rfl, h0⟩ | ⟨g, cap, cur, rfl, hg, hh, hc, hm, hs, ht⟩
  · obtain rfl : xs = [] := List.eq_nil_of_length_eq_zero h0
    exact View.nil _ _ _ _
  · refine ⟨_, cap, rfl, hl, ⟨hc, by simp⟩, ?_⟩
    refine Or.inr ⟨g, 0, rfl, hg, hb g rfl, fun i hi => ?_⟩
    have := World.ownsRow.cellAt h' i (by simpa using hi)
    rw [Nat.zero_add, this]
    simp [hi]

theorem OwnB.chg {w w' : World} {base l r : Nat} {e : TypeId} {v : Value} {xs : List Int} (h : OwnB w base e v xs) (c : Chg l r w w') (d : ∀ g, v.ownBlock = some g → g < l ∨ r ≤ g) : OwnB w' base e v xs := by
  obtain ⟨h1, h2⟩ := h
  refine ⟨h1, ?_⟩
  rcases h2 with h2 | ⟨g, cap, cur, hv, hg, hh, r⟩
  · exact Or.inl h2
  · refine Or.inr ⟨g, cap, cur, hv, hg, ?_, r⟩
    rw [c.block g (Array.getElem?_eq_some_iff.1 hh).1 (d g (by rw [hv]; rfl))]; exact hh


theorem OwnB.base {w : World} {base base' : Nat} {e : TypeId} {v : Value} {xs : List Int} (h : OwnB w base e v xs) (hb : ∀ g, v.ownBlock = some g → base' ≤ g) : OwnB w base' e v xs := by
  obtain ⟨h1, h2⟩ := h
  refine ⟨h1, ?_⟩
  rcases h2 with h2 | ⟨g, cap, cur, hv, hg, hh, r⟩
  · exact Or.inl h2
  · exact Or.inr ⟨g, cap, cur, hv, hb g (by rw [hv]; rfl), hh, r⟩

theorem OwnB.set {w : World} {base : Nat} {e : TypeId} {v : Value} {xs : List Int} (h : OwnB w base e v xs) {p : Addr} (hp : v.ownBlock ≠ some p.block) (u : Value) : OwnB (w.setCell p u) base e v xs := ownsRow_setCell_other h hp u

theorem OwnB.lt {w : World} {base : Nat} {e : TypeId} {v : Value} {xs : List Int} (h : OwnB w base e v xs) : ∀ g, v.ownBlock = some g → base ≤ g ∧ g < w.heap.size := World.ownsRow.lt h

theorem OwnB.elem {w : World} {base : Nat} {e : TypeId} {v : Value} {xs : List Int} {g : Nat} (h : OwnB w base e v xs) (hg : v.ownBlock = some g) : ∃ cur, w.heap[g]? = some (.cells cur e (0, 0)) := by
  obtain ⟨_, h2⟩ := h
  rcases h2 with ⟨rfl, _⟩ | ⟨g', cap, cur, rfl, _, hh, _⟩
  · cases hg
  · cases hg; exact ⟨cur, hh⟩

/-- A row of writes that is this slice's own, each write's bytes a row of its own. -/
structure OwnPx (w : World) (base : Nat) (eW eB : TypeId) (v : Value) (ps : List Wr) (cells : List Value) (dvs : Nat → Value) : Prop where
  row : w.ownsRow base eW 2 v ps.length cells
  at0 : ∀ i, i < ps.length → cells[i * 2]? = some (.int .i64 (ps.getD i (0, [])).1)
  at1 : ∀ i, i < ps.length → cells[i * 2 + 1]? = some (dvs i)
  data : ∀ i, i < ps.length → OwnB w base eB (dvs i) (ps.getD i (0, [])).2
  apart : ∀ i j g, i < j → j < ps.length → (dvs i).ownBlock = some g → (dvs j).ownBlock ≠ some g

theorem OwnPx.chg {w w' : World} {base l r : Nat} {eW eB : TypeId} {v : Value} {ps : List Wr} {cells : List Value} {dvs : Nat → Value} (h : OwnPx w base eW eB v ps cells dvs) (c : Chg l r w w')
    (d : ∀ g, v.ownBlock = some g → g < l ∨ r ≤ g) (d' : ∀ i g, i < ps.length → (dvs i).ownBlock = some g → g < l ∨ r ≤ g) : OwnPx w' base eW eB v ps cells dvs := by
  refine ⟨?_, h.at0, h.at1, fun i hi => (h.data i hi).chg c (d' i · hi), h.apart⟩
  obtain ⟨h1, h2⟩ := h.row
  refine ⟨h1, ?_⟩
  rcases h2 with h2 | ⟨g, cap, cur, hv, hg, hh, r⟩
  · exact Or.inl h2
  · refine Or.inr ⟨g, cap, cur, hv, hg, ?_, r⟩
    rw [c.block g (Array.getElem?_eq_some_iff.1 hh).1 (d g (by rw [hv]; rfl))]; exact hh

theorem OwnPx.view {w : World} {base : Nat} {eW eB : TypeId} {v : Value} {ps : List Wr} {cells : List Value} {dvs : Nat → Value} (h : OwnPx w base eW eB v ps cells dvs)
    (hl : ps.length ≤ 9223372036854775807) (hl' : ∀ i, i < ps.length → (ps.getD i (0, [])).2.length ≤ 9223372036854775807) {hi : Nat} (hb : ∀ g, v.ownBlock = some g → g < hi)
    (hb' : ∀ i g, i < ps.length → (dvs i).ownBlock = some g → g < hi) : PView w base hi v ps := by
  obtain ⟨row, at0, at1, data, _⟩ := h
  have row' := row
  obtain ⟨_, h2⟩ := row
  rcases h2 with ⟨rfl, h0⟩ | ⟨g, cap, cur, rfl, hg, hh, hc, hm, hs, ht⟩
  · obtain rfl : ps = [] := List.eq_nil_of_length_eq_zero h0
    exact PView.nil _ _ _
  · refine ⟨_, cap, rfl, hl, hc, Or.inr ⟨g, 0, rfl, hg, hb g rfl, fun i hi => ⟨dvs i, ?_, ?_, (data i hi).view (hl' i hi) (hb' i · hi)⟩⟩⟩
    · rw [Nat.zero_add, World.ownsRow.cellAt row' (i * 2) (by omega)]; exact at0 i hi
    · rw [Nat.zero_add, World.ownsRow.cellAt row' (i * 2 + 1) (by omega)]; exact at1 i hi

/-- The rows of the writes' bytes stay while a cell of the writes' own row is written. -/
theorem OwnPx.data_set {wr : World} {base g cap n : Nat} {eW eB : TypeId} {ps : List Wr} {cells : List Value} {dvs : Nat → Value}
    (h : OwnPx wr base eW eB (.slice (some ⟨g, 0, none⟩) n cap) ps cells dvs) (hE : eW ≠ eB) (j : Nat) (u : Value) {i : Nat} (hi : i < ps.length) :
    OwnB (wr.setCell ⟨g, j, none⟩ u) base eB (dvs i) (ps.getD i (0, [])).2 := by
  refine (h.data i hi).chg (Chg.setCell (lo := g) (hi := g + 1) (Chg.refl _ _ _) (Or.inl ⟨Nat.le_refl _, Nat.lt_succ_self _⟩) _) ?_
  intro g' hg'
  have : g' ≠ g := by
    intro e
    subst e
    obtain ⟨cur', hcur'⟩ := (h.data i hi).elem hg'
    rcases h.row.2 with ⟨h', _⟩ | ⟨g', cap', cur, h', hb, hg, _⟩
    · cases h'
    · simp only [Value.slice.injEq, Option.some.injEq, Addr.mk.injEq, and_true] at h'
      obtain ⟨rfl, _⟩ := h'
      rw [hg] at hcur'
      simp only [Option.some.injEq, Obj.cells.injEq] at hcur'
      exact hE hcur'.2.1
  omega

/-- One write's number and bytes are written anew in their places. -/
theorem OwnPx.step {wr w2 : World} {base g cap n k : Nat} {eW eB : TypeId} {ps : List Wr} {cells : List Value} {dvs : Nat → Value}
    (h : OwnPx wr base eW eB (.slice (some ⟨g, 0, none⟩) n cap) ps cells dvs) (hn : ps.length = n) (hk : k < n) (hE : eW ≠ eB) (q : Int) (ys : List Int)
    (ho : OwnB w2 base eB (dvs k) ys) (hc : ∀ g', (dvs k).ownBlock = some g' → Chg g' (g' + 1) (wr.setCell ⟨g, k * 2, none⟩ (.int .i64 q)) w2)
    (hc0 : (dvs k).ownBlock = none → w2 = wr.setCell ⟨g, k * 2, none⟩ (.int .i64 q)) :
    OwnPx w2 base eW eB (.slice (some ⟨g, 0, none⟩) n cap) (ps.set k (q, ys)) (cells.set (k * 2) (.int .i64 q)) dvs := by
  obtain ⟨row, at0, at1, data, apart⟩ := h
  rw [hn] at row
  have hst := (World.ownsRow.stored row (k * 2) (.int .i64 q)).1
  have hlen : cells.length = n * 2 := row.1
  have hrow1 : ∃ cur, wr.heap[g]? = some (.cells cur eW (0, 0)) := by
    rcases row.2 with ⟨h', _⟩ | ⟨g', cap', cur, h', hb, hg, _⟩
    · cases h'
    · simp only [Value.slice.injEq, Option.some.injEq, Addr.mk.injEq, and_true, true_and] at h'
      obtain ⟨rfl, rfl⟩ := h'
      exact ⟨cur, hg⟩
  obtain ⟨cur, hcur⟩ := hrow1
  have hne : ∀ i g', i < n → (dvs i).ownBlock = some g' → g' ≠ g := by
    intro i g' hi hg' e
    subst e
    obtain ⟨cur', hcur'⟩ := (data i (by omega)).elem hg'
    rw [hcur] at hcur'
    simp only [Option.some.injEq, Obj.cells.injEq] at hcur'
    exact hE hcur'.2.1
  have c1 : ∀ i, i < n → OwnB (wr.setCell ⟨g, k * 2, none⟩ (.int .i64 q)) base eB (dvs i) (ps.getD i (0, [])).2 := by
    intro i hi
    refine (data i (by omega)).chg (Chg.setCell (lo := g) (hi := g + 1) (Chg.refl _ _ _) (Or.inl ⟨Nat.le_refl _, Nat.lt_succ_self _⟩) _) ?_
    intro g' hg'
    have := hne i g' hi hg'
    omega
  have K : ∀ m, (∀ g', (dvs k).ownBlock = some g' → m ≠ g') → m < (wr.setCell ⟨g, k * 2, none⟩ (.int .i64 q)).heap.size → w2.heap[m]? = (wr.setCell ⟨g, k * 2, none⟩ (.int .i64 q)).heap[m]? := by
    intro m hm hlt
    cases hb : (dvs k).ownBlock with
    | none => rw [hc0 hb]
    | some g' => exact (hc g' hb).block m hlt (by have := hm g' hb; omega)
  have hlt2 : ∀ {m : Nat} {o : Obj} , (wr.setCell ⟨g, k * 2, none⟩ (.int .i64 q)).heap[m]? = some o → m < (wr.setCell ⟨g, k * 2, none⟩ (.int .i64 q)).heap.size := fun h => (Array.getElem?_eq_some_iff.1 h).1
  have hps : (ps.set k (q, ys)).length = n := by simp [hn]
  refine ⟨?_, ?_, ?_, ?_, ?_⟩
  · rw [hps]
    obtain ⟨h1, h2⟩ := hst
    refine ⟨h1, ?_⟩
    rcases h2 with h2 | ⟨g', cap', cur', hv, hg, hh, r⟩
    · exact Or.inl h2
    · refine Or.inr ⟨g', cap', cur', hv, hg, ?_, r⟩
      simp only [Value.slice.injEq, Option.some.injEq, Addr.mk.injEq, and_true, true_and] at hv
      obtain ⟨rfl, rfl⟩ := hv
      rw [K g (fun g' hg' e => hne k g' hk hg' e.symm) (hlt2 hh)]; exact hh
  · intro i hi
    rw [hps] at hi
    by_cases e : i = k
    · subst e; rw [List.getElem?_set_self (by omega)]; simp [hn, hi]
    · rw [List.getElem?_set_ne (by omega), at0 i (by omega)]
      simp only [List.getD_eq_getElem?_getD, List.getElem?_set_ne (fun h => e h.symm)]
  · intro i hi
    rw [hps] at hi
    rw [List.getElem?_set_ne (by omega)]; exact at1 i (by omega)
  · intro i hi
    rw [hps] at hi
    by_cases e : i = k
    · subst e
      simpa [List.getD_eq_getElem?_getD, hn, hi] using ho
    · have := c1 i hi
      have e2 : (ps.set k (q, ys)).getD i (0, []) = ps.getD i (0, []) := by
        simp only [List.getD_eq_getElem?_getD, List.getElem?_set_ne (fun h => e h.symm)]
      rw [e2]
      obtain ⟨h1, h2⟩ := this
      refine ⟨h1, ?_⟩
      rcases h2 with h2 | ⟨g', cap', cur', hv, hg, hh, r⟩
      · exact Or.inl h2
      · refine Or.inr ⟨g', cap', cur', hv, hg, ?_, r⟩
        rw [K g' ?_ (hlt2 hh)]; exact hh
        intro g'' hg'' e3
        subst e3
        have hi' : (dvs i).ownBlock = some g' := by rw [hv]; rfl
        rcases Nat.lt_or_gt_of_ne e with h | h
        · exact apart i k g' h (by omega) hi' hg''
        · exact apart k i g' h (by omega) hg'' hi'
  · intro i j g' hij hj
    rw [hps] at hj
    exact apart i j g' hij (by omega)

theorem OwnPx.row_elem {w : World} {base g n cap : Nat} {eW eB : TypeId} {ps : List Wr} {cells : List Value} {dvs : Nat → Value} (h : OwnPx w base eW eB (.slice (some ⟨g, 0, none⟩) n cap) ps cells dvs) : ∃ cur, w.heap[g]? = some (.cells cur eW (0, 0)) := by
  rcases h.row.2 with ⟨h', _⟩ | ⟨g', cap', cur, h', hb, hg, _⟩
  · cases h'
  · simp only [Value.slice.injEq, Option.some.injEq, Addr.mk.injEq, and_true] at h'
    obtain ⟨rfl, _⟩ := h'
    exact ⟨cur, hg⟩

/-- A row of bytes and a row of writes lie in two blocks. -/
theorem OwnB.ne_row {w : World} {base g : Nat} {eW eB : TypeId} {cur : Array Value} {v : Value} {xs : List Int} (h : OwnB w base eB v xs) (hg : w.heap[g]? = some (.cells cur eW (0, 0))) (hE : eW ≠ eB) : v.ownBlock ≠ some g := by
  intro e
  obtain ⟨cur', hcur'⟩ := h.elem e
  rw [hg] at hcur'
  simp only [Option.some.injEq, Obj.cells.injEq] at hcur'
  exact hE hcur'.2.1

/-- One write is put in its place, its bytes a new row. -/
theorem OwnPx.put {wr : World} {base g cap n k : Nat} {eW eB : TypeId} {ps : List Wr} {cells : List Value} {dvs : Nat → Value}
    (h : OwnPx wr base eW eB (.slice (some ⟨g, 0, none⟩) n cap) ps cells dvs) (hn : ps.length = n) (hk : k < n) (hE : eW ≠ eB) (q : Int) (ys : List Int) (dv : Value)
    (ho : OwnB wr base eB dv ys) (hfr : ∀ i g', i < n → (dvs i).ownBlock = some g' → dv.ownBlock ≠ some g') :
    OwnPx ((wr.setCell ⟨g, k * 2, none⟩ (.int .i64 q)).setCell ⟨g, k * 2 + 1, none⟩ dv) base eW eB (.slice (some ⟨g, 0, none⟩) n cap) (ps.set k (q, ys)) ((cells.set (k * 2) (.int .i64 q)).set (k * 2 + 1) dv) (fun i => if i = k then dv else dvs i) := by
  obtain ⟨cur, hcur⟩ := h.row_elem
  obtain ⟨row, at0, at1, data, apart⟩ := h
  rw [hn] at row
  have hst := (World.ownsRow.stored (World.ownsRow.stored row (k * 2) (.int .i64 q)).1 (k * 2 + 1) dv).1
  have hlen : cells.length = n * 2 := row.1
  have hps : (ps.set k (q, ys)).length = n := by simp [hn]
  have hD : ∀ {v : Value} {xs : List Int}, OwnB wr base eB v xs → OwnB ((wr.setCell ⟨g, k * 2, none⟩ (.int .i64 q)).setCell ⟨g, k * 2 + 1, none⟩ dv) base eB v xs := by
    intro v xs hv
    have := hv.ne_row hcur hE
    exact (hv.set this _).set this _
  refine ⟨?_, ?_, ?_, ?_, ?_⟩
  · rw [hps]; exact hst
  · intro i hi
    rw [hps] at hi
    rw [List.getElem?_set_ne (by omega)]
    by_cases e : i = k
    · subst e; rw [List.getElem?_set_self (by omega)]; simp [hn, hi]
    · rw [List.getElem?_set_ne (by omega), at0 i (by omega)]
      simp only [List.getD_eq_getElem?_getD, List.getElem?_set_ne (fun h => e h.symm)]
  · intro i hi
    rw [hps] at hi
    by_cases e : i = k
    · subst e; rw [List.getElem?_set_self (by simp; omega)]; simp
    · rw [List.getElem?_set_ne (by omega), List.getElem?_set_ne (by omega), at1 i (by omega), if_neg e]
  · intro i hi
    rw [hps] at hi
    by_cases e : i = k
    · subst e
      simp only [if_true]
      have : (ps.set i (q, ys)).getD i (0, []) = (q, ys) := by simp [List.getD_eq_getElem?_getD, hn, hi]
      rw [this]
      exact hD ho
    · have e2 : (ps.set k (q, ys)).getD i (0, []) = ps.getD i (0, []) := by
        simp only [List.getD_eq_getElem?_getD, List.getElem?_set_ne (fun h => e h.symm)]
      rw [e2, if_neg e]
      exact hD (data i (by omega))
  · intro i j g' hij hj
    rw [hps] at hj
    by_cases e : i = k
    · subst e
      rw [if_pos rfl, if_neg (by omega)]
      intro h1 h2
      exact hfr j g' hj h2 h1
    · rw [if_neg e]
      by_cases e' : j = k
      · subst e'; rw [if_pos rfl]; intro h1; exact hfr i g' (by omega) h1
      · rw [if_neg e']; exact apart i j g' hij (by omega)

/-- What a disk of one's own is: its bytes and its writes lie apart, in the blocks lo .. hi - 1. -/
structure OwnDx (w : World) (lo hi : Nat) (eW eB : TypeId) (v : Value) (d : Dsk) (dv pv : Value) (cells : List Value) (dvs : Nat → Value) : Prop where
  agg : v = .agg #[dv, pv]
  dur : OwnB w lo eB dv d.dur
  pend : OwnPx w lo eW eB pv d.pend cells dvs
  apart : ∀ i g, i < d.pend.length → dv.ownBlock = some g → (dvs i).ownBlock ≠ some g
  hiD : ∀ g, dv.ownBlock = some g → g < hi
  hiP : ∀ g, pv.ownBlock = some g → g < hi
  hiX : ∀ i g, i < d.pend.length → (dvs i).ownBlock = some g → g < hi

def OwnD (w : World) (lo hi : Nat) (eW eB : TypeId) (v : Value) (d : Dsk) : Prop := ∃ dv pv cells dvs, OwnDx w lo hi eW eB v d dv pv cells dvs

/-- All lists of a disk are short enough. -/
structure Dsk.Fits (d : Dsk) : Prop where
  dur : d.dur.length ≤ 140737488355328
  pend : d.pend.length ≤ 140737488355328
  data : ∀ i, i < d.pend.length → (d.pend.getD i (0, [])).2.length ≤ 140737488355328

theorem OwnD.view {w : World} {lo hi : Nat} {eW eB : TypeId} {v : Value} {d : Dsk} (h : OwnD w lo hi eW eB v d) (hf : d.Fits) : DView w lo hi v d := by
  obtain ⟨dv, pv, cells, dvs, h⟩ := h
  exact ⟨dv, pv, h.agg, h.dur.view (by have := hf.dur; omega) h.hiD, h.pend.view (by have := hf.pend; omega) (fun i hi => by have := hf.data i hi; omega) h.hiP h.hiX⟩

theorem row_slice {w : World} {base : Nat} {e : TypeId} {size : Nat} {v : Value} {n : Nat} {xs : List Value} (h : w.ownsRow base e size v n xs) : ∃ ao l c, v = .slice ao l c := by
  rcases h.2 with ⟨rfl, _⟩ | ⟨g, cap, cur, rfl, _⟩
  · exact ⟨_, _, _, rfl⟩
  · exact ⟨_, _, _, rfl⟩

theorem OwnD.agg {w : World} {lo hi : Nat} {eW eB : TypeId} {v : Value} {d : Dsk} (h : OwnD w lo hi eW eB v d) : ∃ a l c a' l' c', v = .agg #[.slice a l c, .slice a' l' c'] := by
  obtain ⟨dv, pv, _, _, h⟩ := h
  obtain ⟨a, l, c, h1⟩ := row_slice h.dur
  obtain ⟨a', l', c', h2⟩ := row_slice h.pend.row
  exact ⟨a, l, c, a', l', c', by rw [h.agg, h1, h2]⟩

theorem OwnD.chg {w w' : World} {lo hi l r : Nat} {eW eB : TypeId} {v : Value} {d : Dsk} (h : OwnD w lo hi eW eB v d) (c : Chg l r w w') (e : hi ≤ l ∨ r ≤ lo ∨ r ≤ l) : OwnD w' lo hi eW eB v d := by
  obtain ⟨dv, pv, cells, dvs, h⟩ := h
  have a1 : ∀ g, dv.ownBlock = some g → g < l ∨ r ≤ g := fun g hg => by have := h.hiD g hg; have := h.dur.lt g hg; omega
  have a2 : ∀ g, pv.ownBlock = some g → g < l ∨ r ≤ g := fun g hg => by have := h.hiP g hg; have := World.ownsRow.lt h.pend.row g hg; omega
  have a3 : ∀ i g, i < d.pend.length → (dvs i).ownBlock = some g → g < l ∨ r ≤ g := fun i g hi hg => by have := h.hiX i g hi hg; have := (h.pend.data i hi).lt g hg; omega
  exact ⟨dv, pv, cells, dvs, h.agg, h.dur.chg c a1, h.pend.chg c a2 a3, h.apart, h.hiD, h.hiP, h.hiX⟩

/-! ### marks and counts -/

theorem ret_int {k : IntKind} {a b : Int} (h : a = b) : Ending.returned (.int k a) = .returned (.int k b) := by rw [h]

/-- The marks k, k + 1, .., as bytes. -/
def marks (k n : Nat) : List Int := (List.range n).map fun i => ((k + i : Nat) : Int) % 256

theorem marks_length (k n : Nat) : (marks k n).length = n := by simp [marks]

theorem marks_getD (k n i : Nat) (h : i < n) : (marks k n).getD i 0 = ((k + i : Nat) : Int) % 256 := by
  simp [marks, h]

theorem marks_succ (k0 k : Nat) : marks k0 (k + 1) = marks k0 k ++ [((k0 + k : Nat) : Int) % 256] := by
  simp [marks, List.range_succ]

/-- What lies in a row when its first k cells bear the marks. -/
theorem marks_set (k0 k : Nat) (xs : List Int) (h : k < xs.length) :
    ((marks k0 k ++ xs.drop k).map (Value.int .u8)).set k (.int .u8 (((k0 + k : Nat) : Int) % 256)) = (marks k0 (k + 1) ++ xs.drop (k + 1)).map (Value.int .u8) := by
  have hd : xs.drop k = xs[k] :: xs.drop (k + 1) := by simp
  rw [hd, marks_succ, List.map_append, List.map_cons, List.set_append]
  simp [marks_length]

/-- How many marks a list of writes takes. -/
def cnt (ps : List Wr) : Nat := (ps.map fun p => p.2.length + 1).sum

theorem cnt_ge (ps : List Wr) : ps.length ≤ cnt ps := by
  unfold cnt
  induction ps with
  | nil => simp
  | cons p r ih => simp at *; omega

theorem cnt_take_succ (ps : List Wr) (k : Nat) (h : k < ps.length) : cnt (ps.take (k + 1)) = cnt (ps.take k) + ((ps.getD k (0, [])).2.length + 1) := by
  unfold cnt
  rw [List.take_succ_eq_append_getElem h, List.map_append, List.sum_append_nat]
  simp [List.getD_eq_getElem?_getD, h]

theorem cnt_take_le (ps : List Wr) (k : Nat) : cnt (ps.take k) ≤ cnt ps := by
  have : cnt ps = cnt (ps.take k) + cnt (ps.drop k) := by
    unfold cnt; rw [← List.sum_append_nat, ← List.map_append, List.take_append_drop]
  omega

/-- The i-th write, marked. -/
def mkW (k0 : Nat) (ps : List Wr) (i : Nat) : Wr := (((k0 + cnt (ps.take i) : Nat) : Int), marks (k0 + cnt (ps.take i) + 1) (ps.getD i (0, [])).2.length)

/-- The writes, the first k of them marked. -/
def mkTo (k0 : Nat) (ps : List Wr) (k : Nat) : List Wr := (List.range ps.length).map fun i => if i < k then mkW k0 ps i else ps.getD i (0, [])

theorem mkTo_length (k0 : Nat) (ps : List Wr) (k : Nat) : (mkTo k0 ps k).length = ps.length := by simp [mkTo]

theorem mkTo_getD (k0 : Nat) (ps : List Wr) (k i : Nat) (h : i < ps.length) : (mkTo k0 ps k).getD i (0, []) = if i < k then mkW k0 ps i else ps.getD i (0, []) := by
  simp [mkTo, List.getD_eq_getElem?_getD, h]

theorem mkTo_zero (k0 : Nat) (ps : List Wr) : mkTo k0 ps 0 = ps := by
  apply List.ext_getElem (by simp [mkTo])
  intro i h1 h2
  simp [mkTo, List.getD_eq_getElem?_getD, h2]

theorem mkTo_succ (k0 : Nat) (ps : List Wr) (k : Nat) : (mkTo k0 ps k).set k (mkW k0 ps k) = mkTo k0 ps (k + 1) := by
  apply List.ext_getElem (by simp [mkTo])
  intro i h1 h2
  rw [List.getElem_set]
  simp only [mkTo, List.getElem_map, List.getElem_range]
  by_cases e : k = i
  · subst e; simp
  · rw [if_neg e]
    by_cases e2 : i < k
    · rw [if_pos e2, if_pos (by omega)]
    · rw [if_neg e2, if_neg (by omega)]

/-- A disk whose cells bear the marks from k0 on, and how many there are. -/
def mkD (k0 : Nat) (d : Dsk) : Dsk := ⟨marks k0 d.dur.length, mkTo (k0 + d.dur.length) d.pend d.pend.length⟩

def cntD (d : Dsk) : Nat := d.dur.length + cnt d.pend

theorem mkD_fits {d : Dsk} (h : d.Fits) (k0 : Nat) : (mkD k0 d).Fits := by
  refine ⟨by simpa [mkD, marks_length] using h.dur, by simpa [mkD, mkTo_length] using h.pend, ?_⟩
  intro i hi
  have hi' : i < d.pend.length := by simpa [mkD, mkTo_length] using hi
  simp only [mkD]
  rw [mkTo_getD _ _ _ _ hi', if_pos hi']
  simp only [mkW, marks_length]
  exact h.data i hi'

def Dsk.none : Dsk := ⟨[], []⟩

theorem OwnB.nil (w : World) (base : Nat) (e : TypeId) : OwnB w base e (.slice Option.none 0 0) [] := World.ownsRow_nil _ _ _ _
theorem OwnPx.nil (w : World) (base : Nat) (eW eB : TypeId) : OwnPx w base eW eB (.slice Option.none 0 0) [] [] (fun _ => .slice Option.none 0 0) :=
  ⟨World.ownsRow_nil _ _ _ _, by simp, by simp, by simp, by simp⟩
theorem OwnD.none (w : World) (lo hi : Nat) (eW eB : TypeId) : OwnD w lo hi eW eB (.agg #[.slice Option.none 0 0, .slice Option.none 0 0]) Dsk.none :=
  ⟨_, _, [], _, rfl, OwnB.nil _ _ _, OwnPx.nil _ _ _ _, by simp [Dsk.none], by simp [Value.ownBlock], by simp [Value.ownBlock], by simp [Dsk.none]⟩

end Go.Proofs.Ytplfehjaakkldaa
