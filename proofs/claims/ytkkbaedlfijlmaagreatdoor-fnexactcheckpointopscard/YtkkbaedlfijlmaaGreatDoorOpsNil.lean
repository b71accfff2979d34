/- Several short texts in one: Ops, RowsE, OpsApp, OpsNil. -/
import Derived.Test.YtkkbaedlfijlmaaGreatDoorMem
import Derived.Test.YtkkbaedlfijlmaaGreatDoorRows
import Derived.Deep.MidRow
namespace Go.Proofs.YtkkbaedlfijlmaaGreatDoor
open Go.RowKit

/-- One operation: its kind, its block, its bytes. -/
abbrev Opx : Type := Int × Int × List Int

abbrev Opx.zero : Opx := (0, 0, [])

/-- A slice of operations, as it is seen in memory. -/
def OView (w : World) (lo hi : Nat) (v : Value) (os : List Opx) : Prop :=
  ∃ ao cap, v = .slice ao os.length cap ∧ os.length ≤ 9223372036854775807 ∧ os.length ≤ cap ∧
    (os = [] ∨ ∃ b off, ao = some ⟨b, off, none⟩ ∧ lo ≤ b ∧ b < hi ∧ ∀ i, i < os.length → ∃ dv,
      w.cell? ⟨b, off + i * 3, none⟩ = some (.int .i64 (os.getD i Opx.zero).1) ∧ w.cell? ⟨b, off + i * 3 + 1, none⟩ = some (.int .i64 (os.getD i Opx.zero).2.1) ∧
      w.cell? ⟨b, off + i * 3 + 2, none⟩ = some dv ∧ View w lo hi .u8 dv (os.getD i Opx.zero).2.2)

theorem OView.chg {w w' : World} {lo hi l r : Nat} {v : Value} {os : List Opx} (h : OView w lo hi v os) (c : Chg l r w w') (d : hi ≤ l ∨ r ≤ lo ∨ r ≤ l) : OView w' lo hi v os := by
  obtain ⟨ao, cap, hv, hl, hc, h⟩ := h
  refine ⟨ao, cap, hv, hl, hc, ?_⟩
  rcases h with h | ⟨b, off, ha, h1, h2, h3⟩
  · exact Or.inl h
  · refine Or.inr ⟨b, off, ha, h1, h2, fun i hi => ?_⟩
    obtain ⟨dv, c1, c2, c3, vw⟩ := h3 i hi
    exact ⟨dv, c.cell c1 (by omega), c.cell c2 (by omega), c.cell c3 (by omega), vw.chg c d⟩

theorem OView.nil (w : World) (lo hi : Nat) : OView w lo hi (.slice none 0 0) [] := ⟨none, 0, rfl, by simp, by simp, Or.inl rfl⟩

/-- A row of operations that is this slice's own, each one's bytes a row of its own. -/
structure OwnOx (w : World) (base : Nat) (eO eB : TypeId) (v : Value) (os : List Opx) (cells : List Value) (dvs : Nat → Value) : Prop where
  row : w.ownsRow base eO 3 v os.length cells
  at0 : ∀ i, i < os.length → cells[i * 3]? = some (.int .i64 (os.getD i Opx.zero).1)
  at1 : ∀ i, i < os.length → cells[i * 3 + 1]? = some (.int .i64 (os.getD i Opx.zero).2.1)
  at2 : ∀ i, i < os.length → cells[i * 3 + 2]? = some (dvs i)
  data : ∀ i, i < os.length → OwnB w base eB (dvs i) (os.getD i Opx.zero).2.2
  apart : ∀ i j g, i < j → j < os.length → (dvs i).ownBlock = some g → (dvs j).ownBlock ≠ some g

theorem OwnOx.chg {w w' : World} {base l r : Nat} {eO eB : TypeId} {v : Value} {os : List Opx} {cells : List Value} {dvs : Nat → Value} (h : OwnOx w base eO eB v os cells dvs) (c : Chg l r w w')
    (d : ∀ g, v.ownBlock = some g → g < l ∨ r ≤ g) (d' : ∀ i g, i < os.length → (dvs i).ownBlock = some g → g < l ∨ r ≤ g) : OwnOx w' base eO eB v os cells dvs := by
  refine ⟨?_, h.at0, h.at1, h.at2, fun i hi => (h.data i hi).chg c (d' i · hi), h.apart⟩
  obtain ⟨h1, h2⟩ := h.row
  refine ⟨h1, ?_⟩
  rcases h2 with h2 | ⟨g, cap, cur, hv, hg, hh, r⟩
  · exact Or.inl h2
  · refine Or.inr ⟨g, cap, cur, hv, hg, ?_, r⟩
    rw [c.block g (Array.getElem?_eq_some_iff.1 hh).1 (d g (by rw [hv]; rfl))]; exact hh

theorem OwnOx.row_elem {w : World} {base g n cap : Nat} {eO eB : TypeId} {os : List Opx} {cells : List Value} {dvs : Nat → Value} (h : OwnOx w base eO eB (.slice (some ⟨g, 0, none⟩) n cap) os cells dvs) : ∃ cur, w.heap[g]? = some (.cells cur eO (0, 0)) := by
  rcases h.row.2 with ⟨h', _⟩ | ⟨g', cap', cur, h', hb, hg, _⟩
  · cases h'
  · simp only [Value.slice.injEq, Option.some.injEq, Addr.mk.injEq, and_true] at h'
    obtain ⟨rfl, _⟩ := h'
    exact ⟨cur, hg⟩

theorem OwnOx.view {w : World} {base : Nat} {eO eB : TypeId} {v : Value} {os : List Opx} {cells : List Value} {dvs : Nat → Value} (h : OwnOx w base eO eB v os cells dvs) (hl : os.length ≤ 9223372036854775807)
    (hd : ∀ i, i < os.length → (os.getD i Opx.zero).2.2.length ≤ 9223372036854775807) {hi : Nat} (hb : ∀ g, v.ownBlock = some g → g < hi) (hb' : ∀ i g, i < os.length → (dvs i).ownBlock = some g → g < hi) : OView w base hi v os := by
  have hrow := h.row
  rcases hrow.2 with ⟨rfl, h0⟩ | ⟨g, cap, cur, rfl, hg, hh, hc, _⟩
  · obtain rfl : os = [] := List.eq_nil_of_length_eq_zero h0
    exact OView.nil _ _ _
  · refine ⟨_, cap, rfl, hl, hc, Or.inr ⟨g, 0, rfl, hg, hb g rfl, fun i hi => ⟨dvs i, ?_, ?_, ?_, (h.data i hi).view (hd i hi) (hb' i · hi)⟩⟩⟩
    · rw [Nat.zero_add, World.ownsRow.cellAt hrow (i * 3) (by omega)]; exact h.at0 i hi
    · rw [Nat.zero_add, World.ownsRow.cellAt hrow (i * 3 + 1) (by omega)]; exact h.at1 i hi
    · rw [Nat.zero_add, World.ownsRow.cellAt hrow (i * 3 + 2) (by omega)]; exact h.at2 i hi

/-- One operation is put in its place, its bytes a new row. -/
theorem OwnOx.put {wr : World} {base g cap n k : Nat} {eO eB : TypeId} {os : List Opx} {cells : List Value} {dvs : Nat → Value}
    (h : OwnOx wr base eO eB (.slice (some ⟨g, 0, none⟩) n cap) os cells dvs) (hn : os.length = n) (hk : k < n) (hE : eO ≠ eB) (q a : Int) (ys : List Int) (dv : Value)
    (ho : OwnB wr base eB dv ys) (hfr : ∀ i g', i < n → (dvs i).ownBlock = some g' → dv.ownBlock ≠ some g') :
    OwnOx (((wr.setCell ⟨g, k * 3, none⟩ (.int .i64 q)).setCell ⟨g, k * 3 + 1, none⟩ (.int .i64 a)).setCell ⟨g, k * 3 + 2, none⟩ dv) base eO eB (.slice (some ⟨g, 0, none⟩) n cap) (os.set k (q, a, ys)) (((cells.set (k * 3) (.int .i64 q)).set (k * 3 + 1) (.int .i64 a)).set (k * 3 + 2) dv) (fun i => if i = k then dv else dvs i) := by
  obtain ⟨cur, hcur⟩ := h.row_elem
  obtain ⟨row, at0, at1, at2, data, apart⟩ := h
  rw [hn] at row
  have hst := (World.ownsRow.stored (World.ownsRow.stored (World.ownsRow.stored row (k * 3) (.int .i64 q)).1 (k * 3 + 1) (.int .i64 a)).1 (k * 3 + 2) dv).1
  have hlen : cells.length = n * 3 := row.1
  have hps : (os.set k (q, a, ys)).length = n := by simp [hn]
  have hD : ∀ {v : Value} {xs : List Int}, OwnB wr base eB v xs → OwnB (((wr.setCell ⟨g, k * 3, none⟩ (.int .i64 q)).setCell ⟨g, k * 3 + 1, none⟩ (.int .i64 a)).setCell ⟨g, k * 3 + 2, none⟩ dv) base eB v xs := by
    intro v xs hv
    have := hv.ne_row hcur hE
    exact ((hv.set this _).set this _).set this _
  have hget : ∀ i, i ≠ k → (os.set k (q, a, ys)).getD i Opx.zero = os.getD i Opx.zero := by
    intro i e
    simp only [List.getD_eq_getElem?_getD, List.getElem?_set_ne (fun h => e h.symm)]
  have hgetk : (os.set k (q, a, ys)).getD k Opx.zero = (q, a, ys) := by simp [List.getD_eq_getElem?_getD, hn, hk]
  refine ⟨?_, ?_, ?_, ?_, ?_, ?_⟩
  · rw [hps]; exact hst
  · intro i hi
    rw [hps] at hi
    rw [List.getElem?_set_ne (by omega), List.getElem?_set_ne (by omega)]
    by_cases e : i = k
    · subst e; rw [List.getElem?_set_self (by omega), hgetk]
    · rw [List.getElem?_set_ne (by omega), at0 i (by omega), hget i e]
  · intro i hi
    rw [hps] at hi
    rw [List.getElem?_set_ne (by omega)]
    by_cases e : i = k
    · subst e; rw [List.getElem?_set_self (by simp; omega), hgetk]
    · rw [List.getElem?_set_ne (by omega), List.getElem?_set_ne (by omega), at1 i (by omega), hget i e]
  · intro i hi
    rw [hps] at hi
    by_cases e : i = k
    · subst e; rw [List.getElem?_set_self (by simp; omega)]; simp
    · rw [List.getElem?_set_ne (by omega), List.getElem?_set_ne (by omega), List.getElem?_set_ne (by omega), at2 i (by omega), if_neg e]
  · intro i hi
    rw [hps] at hi
    by_cases e : i = k
    · subst e; simp only [if_true]; rw [hgetk]; exact hD ho
    · rw [hget i e, if_neg e]; exact hD (data i (by omega))
  · intro i j g' hij hj
    rw [hps] at hj
    by_cases e : i = k
    · subst e
      rw [if_pos rfl, if_neg (by omega)]
      intro h1 h2
      exact hfr j g' hj h2 h1
    · rw [if_neg e]
      by_cases e' : j = k
      · subst e'; rw [if_pos rfl]; intro h1; exact hfr i g' (by omega) h1
      · rw [if_neg e']; exact apart i j g' hij (by omega)

/-- How much a list of operations counts. -/
def cntO (os : List Opx) : Nat := (os.map fun o => o.2.2.length + 1).sum

theorem cntO_ge (os : List Opx) : os.length ≤ cntO os := by
  unfold cntO
  induction os with
  | nil => simp
  | cons p r ih => simp at *; omega

theorem cntO_take_succ (os : List Opx) (k : Nat) (h : k < os.length) : cntO (os.take (k + 1)) = cntO (os.take k) + ((os.getD k Opx.zero).2.2.length + 1) := by
  unfold cntO
  rw [List.take_succ_eq_append_getElem h, List.map_append, List.sum_append_nat]
  simp [List.getD_eq_getElem?_getD, h]

theorem cntO_split (os : List Opx) (k : Nat) : cntO os = cntO (os.take k) + cntO (os.drop k) := by
  unfold cntO; rw [← List.sum_append_nat, ← List.map_append, List.take_append_drop]

theorem cntO_take_le (os : List Opx) (k : Nat) : cntO (os.take k) ≤ cntO os := by
  have := cntO_split os k; omega

theorem cntO_rest (os : List Opx) (k : Nat) : cntO (os.take k) + (os.length - k) ≤ cntO os := by
  have h1 := cntO_split os k
  have h2 := cntO_ge (os.drop k)
  rw [List.length_drop] at h2
  omega

theorem cntO_data {os : List Opx} {i : Nat} (h : i < os.length) : (os.getD i Opx.zero).2.2.length + 1 ≤ cntO os := by
  have h1 := cntO_take_succ os i h
  have h2 := cntO_take_le os (i + 1)
  omega

end Go.Proofs.YtkkbaedlfijlmaaGreatDoor

namespace Go.Proofs.YtkkbaedlfijlmaaGreatDoor
open Go.RowKit

theorem OwnB.same {w w' : World} {base : Nat} {e : TypeId} {v : Value} {xs : List Int} (h : OwnB w base e v xs) (hs : ∀ j, v.ownBlock = some j → w'.heap[j]? = w.heap[j]?) : OwnB w' base e v xs := by
  obtain ⟨h1, h2⟩ := h
  refine ⟨h1, ?_⟩
  rcases h2 with h2 | ⟨g, cap, cur, hv, hg, hh, r⟩
  · exact Or.inl h2
  · exact Or.inr ⟨g, cap, cur, hv, hg, (hs g (by rw [hv]; rfl)).trans hh, r⟩

theorem row_elem' {w : World} {base : Nat} {e : TypeId} {size n : Nat} {v : Value} {xs : List Value} (h : w.ownsRow base e size v n xs) {j : Nat} (hj : v.ownBlock = some j) : ∃ cur, w.heap[j]? = some (.cells cur e (0, 0)) := by
  rcases h.2 with ⟨h', _⟩ | ⟨g', cap', cur, h', hb, hg, _⟩
  · rw [h'] at hj; cases hj
  · rw [h'] at hj; cases hj; exact ⟨cur, hg⟩

theorem cells_ne {w : World} {i j : Nat} {c c' : Array Value} {t t' : TypeId} (h : w.heap[i]? = some (.cells c t (0, 0))) (h' : w.heap[j]? = some (.cells c' t' (0, 0))) (ht : t ≠ t') : i ≠ j := by
  intro e
  rw [e, h'] at h
  simp only [Option.some.injEq, Obj.cells.injEq] at h
  exact ht h.2.1.symm

end Go.Proofs.YtkkbaedlfijlmaaGreatDoor

namespace Go.Proofs.YtkkbaedlfijlmaaGreatDoor
open Go.RowKit

theorem Tryz.infoOp : (Tryz.prog.info? 44).map (fun i => (i.zero, i.size, i.bytes)) = some (some (.agg #[.int .i64 0, .int .i64 0, .slice none 0 0]), 3, 40) := by kernel_rfl

theorem OwnOx.base {w : World} {base base' : Nat} {eO eB : TypeId} {v : Value} {os : List Opx} {cells : List Value} {dvs : Nat → Value} (h : OwnOx w base eO eB v os cells dvs) (hb : base' ≤ base) : OwnOx w base' eO eB v os cells dvs := by
  refine ⟨?_, h.at0, h.at1, h.at2, fun i hi => (h.data i hi).base (fun g hg => Nat.le_trans hb ((h.data i hi).lt g hg).1), h.apart⟩
  obtain ⟨h1, h2⟩ := h.row
  refine ⟨h1, ?_⟩
  rcases h2 with h2 | ⟨g, cap, cur, hv, hg, r⟩
  · exact Or.inl h2
  · exact Or.inr ⟨g, cap, cur, hv, by omega, r⟩

/-- Two lists in a row. -/
theorem OwnOx.join {w w' : World} {base base2 : Nat} {eO eB : TypeId} {v v2 v' : Value} {os ts : List Opx} {cells cells2 : List Value} {dvs dvs2 : Nat → Value} (h : OwnOx w base eO eB v os cells dvs) (h2 : OwnOx w base2 eO eB v2 ts cells2 dvs2)
    (hrow : w'.ownsRow base eO 3 v' (os.length + ts.length) (cells ++ cells2)) (hd : ∀ i, i < os.length → OwnB w' base eB (dvs i) (os.getD i Opx.zero).2.2) (hd2 : ∀ i, i < ts.length → OwnB w' base eB (dvs2 i) (ts.getD i Opx.zero).2.2)
    (hfr : ∀ i j g, i < os.length → j < ts.length → (dvs i).ownBlock = some g → (dvs2 j).ownBlock ≠ some g) :
    OwnOx w' base eO eB v' (os ++ ts) (cells ++ cells2) (fun i => if i < os.length then dvs i else dvs2 (i - os.length)) := by
  have hl : cells.length = os.length * 3 := h.row.1
  have hg1 : ∀ i, i < os.length → (os ++ ts).getD i Opx.zero = os.getD i Opx.zero := fun i e => by rw [List.getD_eq_getElem?_getD, List.getD_eq_getElem?_getD, List.getElem?_append_left e]
  have hg2 : ∀ i, ¬ i < os.length → (os ++ ts).getD i Opx.zero = ts.getD (i - os.length) Opx.zero := fun i e => by rw [List.getD_eq_getElem?_getD, List.getD_eq_getElem?_getD, List.getElem?_append_right (by omega)]
  refine ⟨by rw [List.length_append]; exact hrow, ?_, ?_, ?_, ?_, ?_⟩
  · intro i hi
    rw [List.length_append] at hi
    by_cases e : i < os.length
    · rw [List.getElem?_append_left (by omega), h.at0 i e, hg1 i e]
    · rw [List.getElem?_append_right (by omega), hl, hg2 i e, show i * 3 - os.length * 3 = (i - os.length) * 3 by omega, h2.at0 _ (by omega)]
  · intro i hi
    rw [List.length_append] at hi
    by_cases e : i < os.length
    · rw [List.getElem?_append_left (by omega), h.at1 i e, hg1 i e]
    · rw [List.getElem?_append_right (by omega), hl, hg2 i e, show i * 3 + 1 - os.length * 3 = (i - os.length) * 3 + 1 by omega, h2.at1 _ (by omega)]
  · intro i hi
    rw [List.length_append] at hi
    by_cases e : i < os.length
    · rw [List.getElem?_append_left (by omega), h.at2 i e, if_pos e]
    · rw [List.getElem?_append_right (by omega), hl, if_neg e, show i * 3 + 2 - os.length * 3 = (i - os.length) * 3 + 2 by omega, h2.at2 _ (by omega)]
  · intro i hi
    rw [List.length_append] at hi
    by_cases e : i < os.length
    · show OwnB w' base eB (if i < os.length then dvs i else dvs2 (i - os.length)) _
      rw [if_pos e, hg1 i e]; exact hd i e
    · show OwnB w' base eB (if i < os.length then dvs i else dvs2 (i - os.length)) _
      rw [if_neg e, hg2 i e]; exact hd2 _ (by omega)
  · intro i j g hij hj
    rw [List.length_append] at hj
    by_cases e : i < os.length
    · rw [if_pos e]
      by_cases e' : j < os.length
      · rw [if_pos e']; exact h.apart i j g hij e'
      · rw [if_neg e']; exact hfr i _ g e (by omega)
    · rw [if_neg e, if_neg (by omega)]
      exact h2.apart _ _ g (by omega) (by omega)

/-- append(s, x...): s and x are one's own, x is not empty. -/
theorem wp_app_ops {o : Oper} {a : Act} {w : World} {K : Act → World → Prop} {Q : Exit → Act → World → Prop} (s x : Operand)
    (ho : o.op = .call { callee := .builtin .append, args := #[s, x], argTypes := #[26, 26] }) (base N : Nat) (v xv : Value) (os ts : List Opx) (cells cells2 : List Value) (dvs dvs2 : Nat → Value)
    (hs : a.eval s = v) (hown : OwnOx w base 44 5 v os cells dvs) (hx : a.eval x = xv) (hxo : OwnOx w N 44 5 xv ts cells2 dvs2) (hN : base ≤ N) (hbase : base ≤ w.heap.size)
    (h0 : 0 < ts.length) (hk : os.length + ts.length ≤ 2097152)
    (hfr : ∀ i j g, i < os.length → j < ts.length → (dvs i).ownBlock = some g → (dvs2 j).ownBlock ≠ some g)
    (h : ∀ v' w', (∃ g cap, v' = .slice (some ⟨g, 0, none⟩) (os.length + ts.length) cap) → (∃ cells' dvs', OwnOx w' base 44 5 v' (os ++ ts) cells' dvs') → Chg base w.heap.size w w' →
      (∀ (j : Nat) (cur : Array Value) (t : TypeId), t ≠ 44 → w.heap[j]? = some (.cells cur t (0, 0)) → w'.heap[j]? = some (.cells cur t (0, 0))) → K (a.put o.dst v') w') : o.wp Tryz.prog a w K Q := by
  obtain ⟨i, hi, hz0, hz1, hz2⟩ := info_parts Tryz.infoOp
  have hxr := hxo.row
  obtain ⟨g2, c2, rfl⟩ : ∃ g2 c2, xv = .slice (some ⟨g2, 0, none⟩) ts.length c2 := by
    rcases hxr.2 with ⟨_, h'⟩ | ⟨g2, c2, _, e, _⟩
    · omega
    · exact ⟨g2, c2, e⟩
  have hl2 : cells2.length = ts.length * 3 := hxr.1
  have hsrc : ∀ j u, cells2[j]? = some u → w.cell? ((⟨g2, 0, none⟩ : Addr).add j) = some u := by
    intro j u hj
    have hjl : j < cells2.length := (List.getElem?_eq_some_iff.1 hj).1
    rw [Addr.add_mid, Nat.zero_add, World.ownsRow.cellAt hxr j (by omega)]
    exact hj
  have hone : ∀ u ∈ cells2, u.oneCell' = true := by
    intro u hu
    obtain ⟨j, hj, rfl⟩ := List.mem_iff_getElem.1 hu
    have hd : j / 3 < ts.length := by omega
    have hm : j % 3 = 0 ∨ j % 3 = 1 ∨ j % 3 = 2 := by omega
    have hq : cells2[j]? = some cells2[j] := List.getElem?_eq_getElem hj
    rcases hm with hm | hm | hm
    · have := hxo.at0 (j / 3) hd
      rw [show j / 3 * 3 = j by omega, hq] at this
      rw [Option.some.inj this]; rfl
    · have := hxo.at1 (j / 3) hd
      rw [show j / 3 * 3 + 1 = j by omega, hq] at this
      rw [Option.some.inj this]; rfl
    · have := hxo.at2 (j / 3) hd
      rw [show j / 3 * 3 + 2 = j by omega, hq] at this
      rw [Option.some.inj this]
      rcases (hxo.data (j / 3) hd).2 with ⟨e, _⟩ | ⟨_, _, _, e, _⟩ <;> rw [e] <;> rfl
  refine wp_append_own w s x 26 ho base 44 i _ 3 40 Tryz.underlying26 hi hz0 hz1 hz2 rfl (by omega) v os.length _ hs hown.row ⟨g2, 0, none⟩ ts.length c2 cells2 hx hl2 hsrc hone (by unfold maxLen; omega) (by omega) hbase ?_
  intro v' w' h1 h2 _
  have K8 : ∀ j, j < w.heap.size → v.ownBlock ≠ some j → w'.heap[j]? = w.heap[j]? := fun j hj hne' => h2.block j hj (fun e => hne' e.symm)
  have hpE : ∀ j, v.ownBlock = some j → ∃ cur, w.heap[j]? = some (.cells cur 44 (0, 0)) := fun j hj => row_elem' hown.row hj
  have hS : ∀ {N' : Nat} {u : Value} {ys : List Int}, OwnB w N' 5 u ys → OwnB w' N' 5 u ys := fun hu => hu.same (fun j hj => K8 j (hu.lt j hj).2 (fun e => by obtain ⟨cur, hcur⟩ := hpE _ e; obtain ⟨cur', hcur'⟩ := hu.elem hj; exact cells_ne hcur hcur' (by decide) rfl))
  refine h v' w' ?_ ⟨_, _, hown.join hxo h1 (fun i hi => hS (hown.data i hi)) (fun i hi => (hS (hxo.data i hi)).base (fun g hg => Nat.le_trans hN ((hxo.data i hi).lt g hg).1)) hfr⟩ (Chg.ofGrown h2 (fun g hg hlt => ⟨(World.ownsRow.lt hown.row g hg).1, hlt⟩)) ?_
  · rcases h1.2 with ⟨_, h0'⟩ | ⟨g', cap', cur, e', _⟩
    · omega
    · exact ⟨g', cap', e'⟩
  · intro j cur t ht hj
    rw [K8 j (Array.getElem?_eq_some_iff.1 hj).1 (fun e => by obtain ⟨cur', hcur'⟩ := hpE _ e; exact cells_ne hj hcur' ht rfl)]
    exact hj

theorem wpList_app_ops {ops : Array Oper} {rest : List Oper} {o : Oper} {a : Act} {w : World} {Q : Exit → Act → World → Prop} (hgd : o.guard = none) (s x : Operand)
    (ho : o.op = .call { callee := .builtin .append, args := #[s, x], argTypes := #[26, 26] }) (base N : Nat) (v xv : Value) (os ts : List Opx) (cells cells2 : List Value) (dvs dvs2 : Nat → Value)
    (hs : a.eval s = v) (hown : OwnOx w base 44 5 v os cells dvs) (hx : a.eval x = xv) (hxo : OwnOx w N 44 5 xv ts cells2 dvs2) (hN : base ≤ N) (hbase : base ≤ w.heap.size)
    (h0 : 0 < ts.length) (hk : os.length + ts.length ≤ 2097152)
    (hfr : ∀ i j g, i < os.length → j < ts.length → (dvs i).ownBlock = some g → (dvs2 j).ownBlock ≠ some g)
    (h : ∀ v' w', Hid (∃ g cap, v' = .slice (some ⟨g, 0, none⟩) (os.length + ts.length) cap) → Hid (∃ cells' dvs', OwnOx w' base 44 5 v' (os ++ ts) cells' dvs') → Chg base w.heap.size w w' →
      Hid (∀ (j : Nat) (cur : Array Value) (t : TypeId), t ≠ 44 → w.heap[j]? = some (.cells cur t (0, 0)) → w'.heap[j]? = some (.cells cur t (0, 0))) → wpList Tryz.prog ops Q rest (a.put o.dst v') w') : wpList Tryz.prog ops Q (o :: rest) a w :=
  wpList_plain hgd fun _ hK => wp_app_ops s x ho base N v xv os ts cells cells2 dvs dvs2 hs hown hx hxo hN hbase h0 hk hfr fun v' w' h2 h3 h4 h5 => hK _ _ (h v' w' h2 h3 h4 h5)

theorem fill3 (A : Array Value) (hr : A.size = 3) (a b c : Value) : Instr.fill (fun i => some (i * 3, 3)) A [(0, .agg #[a, b, c])] = some #[a, b, c] := by
  obtain ⟨l⟩ := A
  match l, hr with
  | [x, y, z], _ => simp [Instr.fill, Value.cells]

/-- One operation, laid out. -/
theorem oneOp_own (w : World) (base : Nat) (q adr : Int) (dv : Value) (ys : List Int) (hb : base ≤ w.heap.size) (ho : OwnB w base 5 dv ys) :
    OwnOx (w.alloc (.cells #[.int .i64 q, .int .i64 adr, dv] 44)) base 44 5 (.slice (some ⟨w.heap.size, 0, none⟩) 1 1) [(q, adr, ys)] [.int .i64 q, .int .i64 adr, dv] (fun _ => dv) := by
  have hrow := World.ownsRow_lit (base := base) (e := 44) (size := 3) w #[.int .i64 q, .int .i64 adr, dv] 1 hb (by unfold maxLen; omega) rfl
  have c1 : Chg 0 0 w (w.alloc (.cells #[.int .i64 q, .int .i64 adr, dv] 44)) := Chg.alloc (Chg.refl 0 0 w) _
  have h1 : ∀ i, i < 1 → i = 0 := fun i h => by omega
  refine ⟨by simpa using hrow, ?_, ?_, ?_, ?_, ?_⟩
  · intro i hi; obtain rfl := h1 i hi; rfl
  · intro i hi; obtain rfl := h1 i hi; rfl
  · intro i hi; obtain rfl := h1 i hi; rfl
  · intro i hi; obtain rfl := h1 i hi; exact ho.chg c1 (by intro g _; omega)
  · intro i j g hij hj
    have := h1 j hj
    omega

end Go.Proofs.YtkkbaedlfijlmaaGreatDoor

namespace Go.Proofs.YtkkbaedlfijlmaaGreatDoor
open Go.RowKit

theorem OwnOx.nil (w : World) (base : Nat) (hb : base ≤ w.heap.size) : OwnOx (w.alloc (.cells #[] 44)) base 44 5 (.slice (some ⟨w.heap.size, 0, none⟩) 0 0) [] [] (fun _ => .slice none 0 0) := by
  have := World.ownsRow_lit (base := base) (e := 44) (size := 3) w #[] 0 hb (by unfold maxLen; omega) rfl
  exact ⟨by simpa using this, fun i h => absurd h (Nat.not_lt_zero i), fun i h => absurd h (Nat.not_lt_zero i), fun i h => absurd h (Nat.not_lt_zero i), fun i h => absurd h (Nat.not_lt_zero i), fun _ j _ _ h => absurd h (Nat.not_lt_zero j)⟩

/-- An operation more: its bytes are new. -/
theorem more_apart {N : Nat} {nv : Value} {os : List Opx} {dvs : Nat → Value} (hN : ∀ i g, i < os.length → (dvs i).ownBlock = some g → g < N) (hy : ∀ g, nv.ownBlock = some g → N ≤ g) :
    ∀ (i j : Nat) (g : Nat), i < os.length → j < 1 → (dvs i).ownBlock = some g → nv.ownBlock ≠ some g := fun i j g hi _ hg e => by have := hN i g hi hg; have := hy g e; omega

end Go.Proofs.YtkkbaedlfijlmaaGreatDoor
