/- Rows of homes that are one's own, whose data are seen. -/
import Derived.Test.YtmfcaiadcmgjbaaSurvMath
import Derived.Test.YtmfcaiadcmgjbaaCopy
import Derived.Test.YtmfcaiadcmgjbaaRowZ
import Derived.Test.YtmfcaiadcmgjbaaCells
import Derived.Test.YtmfcaiadcmgjbaaRowsE
import Derived.Test.YtmfcaiadcmgjbaaHeld
import Derived.Test.YtmfcaiadcmgjbaaWeak
import Derived.Deep.DeepCutAuto
import Derived.Great.BuildSlice
namespace Go.Proofs.Ytmfcaiadcmgjbaa
open Go.RowKit

/-- A home: its block, the value of its data, what these are. -/
abbrev Hv := Int × (Value × List Int)
abbrev hK (e : Hv) : List Value := [.int .i64 e.1, e.2.1]
def cellsH (es : List Hv) : List Value := es.flatMap hK
def OwnH (w : World) (base : Nat) (v : Value) (es : List Hv) : Prop := w.ownsRow base 44 2 v es.length (cellsH es)
/-- Their data, as they are seen. -/
def SeenH (w : World) (lo : Nat) (es : List Hv) : Prop := ∀ e ∈ es, OwnB w lo 5 e.2.1 e.2.2
theorem SeenH.chg {w w' : World} {lo l r : Nat} {es : List Hv} (h : SeenH w lo es) (c : Chg l r w w') (d : r ≤ lo ∨ r ≤ l ∨ w.heap.size ≤ l) : SeenH w' lo es :=
  fun e he => (h e he).chg c (fun g hg => by have := (h e he).lt g hg; omega)
/-- Bytes stay where only rows of homes change. -/
theorem OwnB.keepH {w w' : World} {lo : Nat} {v : Value} {xs : List Int} (h : OwnB w lo 5 v xs) (hk : ∀ (j : Nat) (cur : Array Value) (t : TypeId), t ≠ 44 → w.heap[j]? = some (.cells cur t (0, 0)) → w'.heap[j]? = some (.cells cur t (0, 0))) : OwnB w' lo 5 v xs :=
  h.same fun j hj => by
    obtain ⟨cur, hc⟩ := h.elem hj
    exact (hk j cur _ (by decide) hc).trans hc.symm
theorem cellsH_app (a b : List Hv) : cellsH (a ++ b) = cellsH a ++ cellsH b := by unfold cellsH; rw [List.flatMap_append]
theorem cellsH_len (qs : List Hv) : (cellsH qs).length = qs.length * 2 := by
  induction qs with
  | nil => rfl
  | cons q r ih =>
    show (hK q ++ cellsH r).length = _
    rw [List.length_append, ih, List.length_cons]
    simp
    omega
theorem cellsH_at (es : List Hv) (k : Nat) (h : k < es.length) : (cellsH es)[k * 2]? = some (.int .i64 es[k].1) ∧ (cellsH es)[k * 2 + 1]? = some es[k].2.1 := by
  induction es generalizing k with
  | nil => simp at h
  | cons e es ih =>
    cases k with
    | zero => exact ⟨rfl, rfl⟩
    | succ k =>
      have h' : k < es.length := by simpa using h
      obtain ⟨a, b⟩ := ih k h'
      have e1 : cellsH (e :: es) = hK e ++ cellsH es := rfl
      have e2 : (k + 1) * 2 = (hK e).length + k * 2 := by simp; omega
      have e3 : (k + 1) * 2 + 1 = (hK e).length + (k * 2 + 1) := by simp; omega
      rw [e1, e3, e2, List.getElem?_append_right (by omega), List.getElem?_append_right (by omega), Nat.add_sub_cancel_left, Nat.add_sub_cancel_left]
      exact ⟨a, b⟩
theorem OwnH.lt {w : World} {base : Nat} {v : Value} {es : List Hv} (h : OwnH w base v es) : ∀ g, v.ownBlock = some g → base ≤ g ∧ g < w.heap.size := World.ownsRow.lt h
theorem OwnH.chg {w w' : World} {base l r : Nat} {v : Value} {es : List Hv} (h : OwnH w base v es) (c : Chg l r w w') (d : r ≤ base ∨ r ≤ l ∨ w.heap.size ≤ l) : OwnH w' base v es := by
  obtain ⟨h1, h2⟩ := h
  refine ⟨h1, ?_⟩
  rcases h2 with h2 | ⟨g, cap, cur, hv, hg, hh, rr⟩
  · exact Or.inl h2
  · have := (Array.getElem?_eq_some_iff.1 hh).1
    exact Or.inr ⟨g, cap, cur, hv, hg, (c.block g this (by omega)).trans hh, rr⟩
theorem OwnH.low {w : World} {base base' : Nat} {v : Value} {es : List Hv} (h : OwnH w base v es) (hb : base' ≤ base) : OwnH w base' v es := by
  obtain ⟨h1, h2⟩ := h
  refine ⟨h1, ?_⟩
  rcases h2 with h2 | ⟨g, cap, cur, hv, hg, rr⟩
  · exact Or.inl h2
  · exact Or.inr ⟨g, cap, cur, hv, by omega, rr⟩
theorem OwnH.nil (w : World) : OwnH (w.alloc (.cells #[] 44)) w.heap.size (.slice (some ⟨w.heap.size, 0, none⟩) 0 0) [] := by
  have := World.ownsRow_lit (base := w.heap.size) (e := 44) (size := 2) w #[] 0 (Nat.le_refl _) (by unfold maxLen; omega) (by simp)
  simpa [OwnH, cellsH] using this
theorem OwnH.slice {w : World} {base : Nat} {v : Value} {es : List Hv} (h : OwnH w base v es) : ∃ a c, v = .slice a es.length c := by
  rcases h.2 with ⟨e, h0⟩ | ⟨g, cap, cur, e, _⟩
  · exact ⟨_, _, by rw [h0]; exact e⟩
  · exact ⟨_, _, e⟩
theorem OwnH.cells {w : World} {base g cp n : Nat} {es : List Hv} (h : OwnH w base (.slice (some ⟨g, 0, none⟩) n cp) es) (k : Nat) (hk : k < es.length) : w.cell? ⟨g, k * 2, none⟩ = some (.int .i64 es[k].1) ∧ w.cell? ⟨g, k * 2 + 1, none⟩ = some es[k].2.1 := by
  have hn : n = es.length := by
    rcases h.2 with ⟨e, h0⟩ | ⟨g, cap, cur, e, _⟩
    · simp at e
    · simp only [Value.slice.injEq] at e; exact e.2.1
  subst hn
  have hl := cellsH_len es
  obtain ⟨a, b⟩ := cellsH_at es k hk
  have c1 := World.ownsRow.cellAt h (k * 2) (by omega)
  have c2 := World.ownsRow.cellAt h (k * 2 + 1) (by omega)
  exact ⟨c1.trans a, c2.trans b⟩

theorem fill2 (A : Array Value) (hr : A.size = 2) (a b : Value) : Instr.fill (fun i => some (i * 2, 2)) A [(0, .agg #[a, b])] = some #[a, b] := by
  obtain ⟨l⟩ := A
  match l, hr with
  | [x, y], _ => simp [Instr.fill, Value.cells]

/-- append of a home that a literal lays. -/
theorem wpList_app_h1 {ops : Array Oper} {rest : List Oper} {o : Oper} {a : Act} {W : World} {Q : Exit → Act → World → Prop} {q : Int} {dv : Value} (xs : List Int) (hgd : o.guard = none) (s x : Operand)
    (ho : o.op = .call { callee := .builtin .append, args := #[s, x], argTypes := #[24, 24] }) (base : Nat) (v : Value) (es : List Hv) (hs : a.eval s = v) (hown : OwnH W base v es) (hbase : base ≤ W.heap.size)
    (hx : a.eval x = .slice (some ⟨W.heap.size, 0, none⟩) 1 1) (hk : es.length ≤ 90000) (hd : ∃ a l c, dv = .slice a l c)
    (h : ∀ g cp w' r, OwnH w' base (.slice (some ⟨g, 0, none⟩) (es.length + 1) cp) (es ++ [(q, dv, xs)]) → Chg base r (W.alloc (.cells #[.int .i64 q, dv] 44)) w' → (∀ (j : Nat) (cur : Array Value) (t : TypeId), t ≠ 44 → (W.alloc (.cells #[.int .i64 q, dv] 44)).heap[j]? = some (.cells cur t (0, 0)) → w'.heap[j]? = some (.cells cur t (0, 0))) → wpList Try.prog ops Q rest (a.put o.dst (.slice (some ⟨g, 0, none⟩) (es.length + 1) cp)) w') :
    wpList Try.prog ops Q (o :: rest) a (W.alloc (.cells #[.int .i64 q, dv] 44)) := by
  have hO := hown.chg (w' := W.alloc (.cells #[.int .i64 q, dv] 44)) (Chg.alloc (Chg.refl 0 0 W) _) (by omega)
  obtain ⟨i, hi, hz0, hz1, hz2⟩ := info_parts Try.infoH
  refine wpList_append_own _ hgd s x 24 ho base 44 i _ 2 32 Try.underlying24 hi hz0 hz1 hz2 rfl (by omega) v es.length _ hs hO ⟨W.heap.size, 0, none⟩ 1 1 (cellsH [(q, dv, xs)]) hx ?_ ?_ ?_ (by unfold maxLen; omega) (by omega) (by simp; omega) ?_
  · rfl
  · intro j u hj
    rw [Go.WideShapes.add_plain, Nat.zero_add]
    simp only [World.cell?, heap_new W _]
    simpa [cellsH] using hj
  · intro u hu
    obtain ⟨a, l, c, rfl⟩ := hd
    simp [cellsH] at hu
    rcases hu with rfl | rfl <;> rfl
  · intro v' w' h1 h2 _
    obtain ⟨g', cap', e'⟩ : ∃ g cp, v' = .slice (some ⟨g, 0, none⟩) (es.length + 1) cp := by
      rcases h1.2 with ⟨_, h0⟩ | ⟨g', cap', cur, e', _⟩
      · omega
      · exact ⟨g', cap', e'⟩
    subst e'
    exact h g' cap' w' _ (by unfold OwnH; rw [List.length_append, cellsH_app]; exact h1) (Chg.ofGrown h2 (fun g hg hlt => ⟨(World.ownsRow.lt hO g hg).1, hlt⟩)) (fun j cur t ht hj => (h2.block j (Array.getElem?_eq_some_iff.1 hj).1 (fun e => by obtain ⟨cur', hcur'⟩ := row_elem' hO e.symm; exact cells_ne hj hcur' ht rfl)).trans hj)

/-- The same, where the operation stands alone. -/
theorem wp_app_h1 {o : Oper} {a : Act} {W : World} {K : Act → World → Prop} {Q : Exit → Act → World → Prop} {q : Int} {dv : Value} (xs : List Int) (s x : Operand)
    (ho : o.op = .call { callee := .builtin .append, args := #[s, x], argTypes := #[24, 24] }) (base : Nat) (v : Value) (es : List Hv) (hs : a.eval s = v) (hown : OwnH W base v es) (hbase : base ≤ W.heap.size)
    (hx : a.eval x = .slice (some ⟨W.heap.size, 0, none⟩) 1 1) (hk : es.length ≤ 90000) (hd : ∃ a l c, dv = .slice a l c)
    (h : ∀ g cp w' r, OwnH w' base (.slice (some ⟨g, 0, none⟩) (es.length + 1) cp) (es ++ [(q, dv, xs)]) → Chg base r (W.alloc (.cells #[.int .i64 q, dv] 44)) w' → (∀ (j : Nat) (cur : Array Value) (t : TypeId), t ≠ 44 → (W.alloc (.cells #[.int .i64 q, dv] 44)).heap[j]? = some (.cells cur t (0, 0)) → w'.heap[j]? = some (.cells cur t (0, 0))) → K (a.put o.dst (.slice (some ⟨g, 0, none⟩) (es.length + 1) cp)) w') :
    o.wp Try.prog a (W.alloc (.cells #[.int .i64 q, dv] 44)) K Q := by
  have hO := hown.chg (w' := W.alloc (.cells #[.int .i64 q, dv] 44)) (Chg.alloc (Chg.refl 0 0 W) _) (by omega)
  obtain ⟨i, hi, hz0, hz1, hz2⟩ := info_parts Try.infoH
  refine wp_append_own _ s x 24 ho base 44 i _ 2 32 Try.underlying24 hi hz0 hz1 hz2 rfl (by omega) v es.length _ hs hO ⟨W.heap.size, 0, none⟩ 1 1 (cellsH [(q, dv, xs)]) hx ?_ ?_ ?_ (by unfold maxLen; omega) (by omega) (by simp; omega) ?_
  · rfl
  · intro j u hj
    rw [Go.WideShapes.add_plain, Nat.zero_add]
    simp only [World.cell?, heap_new W _]
    simpa [cellsH] using hj
  · intro u hu
    obtain ⟨a, l, c, rfl⟩ := hd
    simp [cellsH] at hu
    rcases hu with rfl | rfl <;> rfl
  · intro v' w' h1 h2 _
    obtain ⟨g', cap', e'⟩ : ∃ g cp, v' = .slice (some ⟨g, 0, none⟩) (es.length + 1) cp := by
      rcases h1.2 with ⟨_, h0⟩ | ⟨g', cap', cur, e', _⟩
      · omega
      · exact ⟨g', cap', e'⟩
    subst e'
    exact h g' cap' w' _ (by unfold OwnH; rw [List.length_append, cellsH_app]; exact h1) (Chg.ofGrown h2 (fun g hg hlt => ⟨(World.ownsRow.lt hO g hg).1, hlt⟩)) (fun j cur t ht hj => (h2.block j (Array.getElem?_eq_some_iff.1 hj).1 (fun e => by obtain ⟨cur', hcur'⟩ := row_elem' hO e.symm; exact cells_ne hj hcur' ht rfl)).trans hj)

end Go.Proofs.Ytmfcaiadcmgjbaa
