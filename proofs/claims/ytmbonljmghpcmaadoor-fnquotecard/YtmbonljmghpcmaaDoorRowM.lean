/- Bytes of one's own that a conversion laid: a row with a mark behind its cells. -/
import Derived.Test.YtmbonljmghpcmaaDoorAppSeen
import Derived.Test.YtmbonljmghpcmaaDoorBytSeen
import Derived.Lib.ConvBytes
import Derived.Shelf.Strings.Builder1
namespace Go.Proofs.YtmbonljmghpcmaaDoor
open Go.RowKit

def RowM (w : World) (base : Nat) (v : Value) (xs : List Int) : Prop :=
  ∃ g cap cur fr, v = .slice (some ⟨g, 0, none⟩) xs.length cap ∧ base ≤ g ∧ w.heap[g]? = some (.cells cur 5 fr) ∧ cur.size ≤ fr.1 ∧ xs.length ≤ cap ∧ cap ≤ maxLen ∧ cur.size = cap ∧ ∀ i, i < xs.length → cur[i]? = some (.int .u8 (xs.getD i 0))
section
variable {w w' : World} {base : Nat} {v : Value} {xs : List Int}
theorem RowM.lt (h : RowM w base v xs) : ∀ g, v.ownBlock = some g → base ≤ g ∧ g < w.heap.size := by
  obtain ⟨g, cap, cur, fr, rfl, hb, hg, _⟩ := h
  intro g' e
  obtain rfl : g = g' := by simpa [Value.ownBlock] using e
  exact ⟨hb, (Array.getElem?_eq_some_iff.1 hg).1⟩
theorem RowM.elem (h : RowM w base v xs) {g : Nat} (e : v.ownBlock = some g) : ∃ cur fr, w.heap[g]? = some (.cells cur 5 fr) := by
  obtain ⟨g', cap, cur, fr, rfl, hb, hg, _⟩ := h
  obtain rfl : g' = g := by simpa [Value.ownBlock] using e
  exact ⟨_, _, hg⟩
theorem RowM.chg {l r : Nat} (h : RowM w base v xs) (c : Chg l r w w') (d : ∀ g, v.ownBlock = some g → g < l ∨ r ≤ g) : RowM w' base v xs := by
  obtain ⟨g, cap, cur, fr, rfl, hb, hg, rest⟩ := h
  exact ⟨g, cap, cur, fr, rfl, hb, (c.block g (Array.getElem?_eq_some_iff.1 hg).1 (d g rfl)).trans hg, rest⟩
theorem RowM.seen (h : RowM w base v xs) (hl : xs.length ≤ 1048576) : View w base w.heap.size .u8 v xs := by
  obtain ⟨g, cap, cur, fr, rfl, hb, hg, h1, h2, h3, h4, h5⟩ := h
  refine ⟨_, cap, rfl, by omega, ⟨h2, by simp⟩, ?_⟩
  refine Or.inr ⟨g, 0, rfl, hb, (Array.getElem?_eq_some_iff.1 hg).1, fun i hi => ?_⟩
  rw [Nat.zero_add, Lib.cell_of_heap hg]
  exact h5 i hi
theorem RowM.store {g n cap : Nat} (h : RowM w base (.slice (some ⟨g, 0, none⟩) n cap) xs) (hn : xs.length = n) (i : Nat) (hi : i < n) (x : Int) :
    (∃ u, w.cell? ⟨g, i, none⟩ = some u) ∧ w.frozen? ⟨g, i, none⟩ = false ∧ RowM (w.setCell ⟨g, i, none⟩ (.int .u8 x)) base (.slice (some ⟨g, 0, none⟩) n cap) (xs.set i x) := by
  subst hn
  obtain ⟨g', cap', cur, fr, e, hb, hg, h1, h2, h3, h4, h5⟩ := h
  simp only [Value.slice.injEq, Option.some.injEq, Addr.mk.injEq, true_and, and_true] at e
  obtain ⟨rfl, rfl⟩ := e
  refine ⟨⟨_, by rw [Lib.cell_of_heap hg]; exact h5 i hi⟩, ?_, ?_⟩
  · simp only [World.frozen?, hg]
    rw [decide_eq_false (by omega), Bool.false_and]
  · refine ⟨g, cap, cur.setIfInBounds i (.int .u8 x), fr, by rw [List.length_set], hb, ?_, by simpa using h1, by rw [List.length_set]; exact h2, h3, by simpa using h4, ?_⟩
    · rw [setCell_eq_setRow w g i cur 5 fr _ hg]
      exact setRow_heap w g cur _ 5 fr hg
    · intro j hj
      rw [List.length_set] at hj
      have hjc : j < cur.size := by omega
      rw [Array.getElem?_setIfInBounds]
      by_cases e : i = j
      · subst e
        rw [if_pos rfl, if_pos hjc]
        simp [List.getD_eq_getElem?_getD, hj]
      · rw [if_neg e, h5 j hj]
        simp [List.getD_eq_getElem?_getD, List.getElem?_set_ne e]
/-- []byte(s) -/
theorem RowM.conv (w : World) (s : ByteArray) (h : s.size ≤ 1048576) : RowM (Lib.bytesWorld w 5 s) w.heap.size (.slice (some ⟨w.heap.size, 0, none⟩) s.size (Go.grownCap w s.size 0 5)) (s.data.toList.map fun b => (b.toNat : Int)) := by
  have hl : (s.data.toList.map fun b => (b.toNat : Int)).length = s.size := by rw [List.length_map, ← Lib.size_eq]
  refine ⟨w.heap.size, _, _, _, by rw [hl], Nat.le_refl _, Lib.bytesWorld_at_new w _ s, Nat.le_refl _, by rw [hl]; exact grownCap_ge w _ _ _, grownCap_le_maxLen w _ _ _ (by unfold maxLen; omega), ?_, ?_⟩
  · have := grownCap_ge w s.size 0 5
    simp only [Lib.bytesCells, Array.size_append, Array.size_map, Array.size_replicate]
    have h2 : s.data.size = s.size := rfl
    omega
  · intro i hi
    rw [hl] at hi
    have hc := Lib.bytesWorld_cell w 5 s i hi
    rw [Lib.cell_of_heap (Lib.bytesWorld_at_new w 5 s)] at hc
    rw [hc]
    have hi2 : i < s.data.size := hi
    have hi3 : s.data[i]? = some s.data[i] := Array.getElem?_eq_getElem hi2
    simp [List.getD_eq_getElem?_getD, hi3]
/-- append(b, x): one byte. -/
theorem run_appM {g n cap : Nat} (h : RowM w base (.slice (some ⟨g, 0, none⟩) n cap) xs) (hn : xs.length = n) (hl : n < 1048576) (hb : base ≤ w.heap.size) (ty : TypeId) (d : Nat) (x : Int) (hd : w.cell? ⟨d, 0, none⟩ = some (.int .u8 x)) :
    ∃ v' w', (Builtin.append_ #[22, 22] ty #[.slice (some ⟨g, 0, none⟩) n cap, .slice (some ⟨d, 0, none⟩) 1 1]).run Tryd.prog w = .ok v' w' ∧ (∃ a c, v' = .slice a (n + 1) c) ∧ View w' base w'.heap.size .u8 v' (xs ++ [x]) ∧ Chg base w.heap.size w w' := by
  obtain ⟨i, hi, hz0, hz1, hz2⟩ := info_parts Tryd.infoU1
  subst hn
  have h' := h
  obtain ⟨g', cap', cur, fr, e, hbg, hg, h1, h2, h3, h4, h5⟩ := h
  simp only [Value.slice.injEq, Option.some.injEq, Addr.mk.injEq, true_and, and_true] at e
  obtain ⟨rfl, rfl⟩ := e
  have hlt := (Array.getElem?_eq_some_iff.1 hg).1
  have hnews : ∀ j u, [Value.int .u8 x][j]? = some u → w.cell? ((⟨d, 0, none⟩ : Addr).add j) = some u := by
    intro j u hj
    match j, hj with
    | 0, hj => simp at hj; subst hj; simpa [Addr.add] using hd
  by_cases hroom : xs.length + 1 ≤ cap
  · have hin : xs.length < cur.size := by omega
    have hcell : w.cell? ⟨g, xs.length, none⟩ = some cur[xs.length] := by simp [World.cell?, hg, hin]
    have hfro : w.frozen? ⟨g, xs.length, none⟩ = false := by
      simp only [World.frozen?, hg]
      rw [decide_eq_false (by omega), Bool.false_and]
    have hst : (store ⟨g, xs.length, none⟩ (.int .u8 x)).run Tryd.prog w = .ok () (w.setCell ⟨g, xs.length, none⟩ (.int .u8 x)) := by
      rw [run_store Tryd.prog w _ _ _ rfl, hcell]
      simp [hfro]
    have hf := run_firstCells_some (P := Tryd.prog) w 1 1 ⟨d, 0, none⟩ 1 1 [.int .u8 x] rfl hnews
    refine ⟨.slice (some ⟨g, 0, none⟩) (xs.length + 1) cap, w.setCell ⟨g, xs.length, none⟩ (.int .u8 x), ?_, ⟨_, _, rfl⟩, ?_, Chg.setCell (Chg.refl _ _ _) (p := ⟨g, xs.length, none⟩) (Or.inl ⟨hbg, hlt⟩) _⟩
    · simp [Builtin.append_, run_underlying Tryd.underlying22, Go.sizeOf, typeInfo, hi, hz1, Builtin.lenOf, hroom, hf, Addr.add_lit, storeCells, hst]
    · have key : RowM (w.setCell ⟨g, xs.length, none⟩ (.int .u8 x)) base (.slice (some ⟨g, 0, none⟩) (xs.length + 1) cap) (xs ++ [x]) := by
        refine ⟨g, cap, cur.setIfInBounds xs.length (.int .u8 x), fr, by simp, hbg, ?_, by simpa using h1, by simpa using hroom, h3, by simpa using h4, ?_⟩
        · rw [setCell_eq_setRow w g _ cur 5 fr _ hg]
          exact setRow_heap w g cur _ 5 fr hg
        · intro j hj
          rw [List.length_append, List.length_singleton] at hj
          rw [Array.getElem?_setIfInBounds]
          by_cases e : xs.length = j
          · subst e
            rw [if_pos rfl, if_pos hin]
            simp [List.getD_eq_getElem?_getD]
          · rw [if_neg e, h5 j (by omega)]
            simp [List.getD_eq_getElem?_getD, List.getElem?_append_left (show j < xs.length by omega)]
      exact key.seen (by simp; omega)
  · have holds : ∀ j u, (xs.map (Value.int .u8))[j]? = some u → w.cell? ((⟨g, 0, none⟩ : Addr).add j) = some u := by
      intro j u hj
      have hjl : j < xs.length := by have := (List.getElem?_eq_some_iff.1 hj).1; simpa using this
      rw [Addr.add_mid, Nat.zero_add, Lib.cell_of_heap hg, ← hj]
      rw [h5 j hjl]
      simp [List.getD_eq_getElem?_getD, hjl]
    have hr := run_append_grow (P := Tryd.prog) w 22 ty 5 i _ Tryd.underlying22 hi hz0 ⟨g, 0, none⟩ xs.length cap (xs.map (Value.int .u8)) (by rw [hz1]; simp) holds ⟨d, 0, none⟩ 1 1 [.int .u8 x] (by rw [hz1]; rfl) hnews (by omega) (by omega) (growslice_fits (by omega) (by rw [hz2]; omega))
    have hge := grownCap_ge w (xs.length + 1) cap 5
    refine ⟨_, _, hr, ⟨_, _, rfl⟩, ?_, (Chg.drew (Chg.refl _ _ w)).alloc _⟩
    refine ⟨_, _, by rw [List.length_append, List.length_singleton], by simp; omega, ⟨by simpa using hge, by simp⟩, ?_⟩
    refine Or.inr ⟨w.heap.size, 0, rfl, hb, by simp, fun j hj => ?_⟩
    rw [List.length_append, List.length_singleton] at hj
    have hh := Lib.cell_of_heap (j := j) (show (w.drew.alloc (.cells ((xs.map (Value.int .u8)).toArray ++ [Value.int .u8 x].toArray ++ Builtin.zeroCells (Value.int .u8 0).cells (grownCap w (xs.length + 1) cap 5 - (xs.length + 1))) 5)).heap[w.heap.size]? = _ from heap_new w.drew _)
    rw [Nat.zero_add]
    refine hh.trans ?_
    rw [← Array.getElem?_toList]
    simp only [Array.toList_append, List.append_assoc]
    rw [← List.append_assoc, List.getElem?_append_left (by simp; omega)]
    rw [show (List.map (Value.int IntKind.u8) xs ++ [Value.int IntKind.u8 x]) = (xs ++ [x]).map (Value.int .u8) by simp, List.getElem?_map, List.getD_eq_getElem?_getD, List.getElem?_eq_getElem (show j < (xs ++ [x]).length by simp; omega)]
    rfl
theorem wpList_appM {ops : Array Oper} {rest : List Oper} {o : Oper} {a : Act} {Q : Exit → Act → World → Prop} (hgd : o.guard = none) (s x : Operand)
    (ho : o.op = .call { callee := .builtin .append, args := #[s, x], argTypes := #[22, 22] }) {g n cap : Nat} (h : RowM w base (.slice (some ⟨g, 0, none⟩) n cap) xs) (hn : xs.length = n) (hl : n < 1048576) (hb : base ≤ w.heap.size) (d : Nat) (y : Int) (hd : w.cell? ⟨d, 0, none⟩ = some (.int .u8 y))
    (hs : a.eval s = .slice (some ⟨g, 0, none⟩) n cap) (hx : a.eval x = .slice (some ⟨d, 0, none⟩) 1 1)
    (hK : ∀ v' w', (∃ a c, v' = .slice a (n + 1) c) → View w' base w'.heap.size .u8 v' (xs ++ [y]) → Chg base w.heap.size w w' → wpList Tryd.prog ops Q rest (a.put o.dst v') w') : wpList Tryd.prog ops Q (o :: rest) a w := by
  refine wpList_plain hgd fun _ hK' => ?_
  obtain ⟨v', w', hr, h2, h3, h4⟩ := run_appM h hn hl hb o.type d y hd
  unfold Oper.wp execOp
  simp only [ho, resolve, invoke, builtin, Sem.run_bind, Sem.run_pure, Result.andThen_ok, List.map_toArray, List.map_cons, List.map_nil, hs, hx, hr]
  exact hK' _ _ (hK v' w' h2 h3 h4)
end

end Go.Proofs.YtmbonljmghpcmaaDoor
