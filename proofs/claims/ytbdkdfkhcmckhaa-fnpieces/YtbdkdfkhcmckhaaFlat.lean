/- Lists of structs that are so many numbers each, as they are seen in memory and owned. -/
import Derived.Test.YtbdkdfkhcmckhaaRows
import Derived.Test.YtbdkdfkhcmckhaaMem
namespace Go.Proofs.Ytbdkdfkhcmckhaa
open Go.RowKit

/-- k structs of n numbers each: all their numbers in a row. -/
def FView (n : Nat) (w : World) (lo hi : Nat) (v : Value) (k : Nat) (fs : List Int) : Prop :=
  ∃ ao cap, v = .slice ao k cap ∧ fs.length = k * n ∧ k ≤ 9223372036854775807 ∧ (k ≤ cap ∧ (ao = none → cap = 0)) ∧
    (k = 0 ∨ ∃ b off, ao = some ⟨b, off, none⟩ ∧ lo ≤ b ∧ b < hi ∧ ∀ j, j < k * n → w.cell? ⟨b, off + j, none⟩ = some (.int .i64 (fs.getD j 0)))

theorem FView.chg {n : Nat} {w w' : World} {lo hi l r : Nat} {v : Value} {k : Nat} {fs : List Int} (h : FView n w lo hi v k fs) (c : Chg l r w w') (d : hi ≤ l ∨ r ≤ lo ∨ r ≤ l) : FView n w' lo hi v k fs := by
  obtain ⟨ao, cap, hv, h1, h2, h3, h4⟩ := h
  refine ⟨ao, cap, hv, h1, h2, h3, ?_⟩
  rcases h4 with h4 | ⟨b, off, hao, hb, hb', h4⟩
  · exact Or.inl h4
  · exact Or.inr ⟨b, off, hao, hb, hb', fun j hj => c.cell (h4 j hj) (by show b < l ∨ r ≤ b; omega)⟩

theorem FView.slice {n : Nat} {w : World} {lo hi : Nat} {v : Value} {k : Nat} {fs : List Int} (h : FView n w lo hi v k fs) : ∃ ao cap, v = .slice ao k cap := by
  obtain ⟨ao, cap, rfl, _⟩ := h; exact ⟨ao, cap, rfl⟩

/-- The same, owned. -/
def OwnF (n : Nat) (w : World) (base : Nat) (e : TypeId) (v : Value) (k : Nat) (fs : List Int) : Prop := w.ownsRow base e n v k (fs.map (Value.int .i64))

theorem OwnF.lt {n : Nat} {w : World} {base : Nat} {e : TypeId} {v : Value} {k : Nat} {fs : List Int} (h : OwnF n w base e v k fs) : ∀ g, v.ownBlock = some g → base ≤ g ∧ g < w.heap.size := World.ownsRow.lt h

theorem OwnF.chg {n : Nat} {w w' : World} {base l r : Nat} {e : TypeId} {v : Value} {k : Nat} {fs : List Int} (h : OwnF n w base e v k fs) (c : Chg l r w w') (d : ∀ g, v.ownBlock = some g → g < l ∨ r ≤ g) : OwnF n w' base e v k fs := by
  obtain ⟨h1, h2⟩ := h
  refine ⟨h1, ?_⟩
  rcases h2 with h2 | ⟨g, cap, cur, hv, hg, hh, r⟩
  · exact Or.inl h2
  · refine Or.inr ⟨g, cap, cur, hv, hg, ?_, r⟩
    rw [c.block g (Array.getElem?_eq_some_iff.1 hh).1 (d g (by rw [hv]; rfl))]; exact hh

theorem OwnF.base {n : Nat} {w : World} {base base' : Nat} {e : TypeId} {v : Value} {k : Nat} {fs : List Int} (h : OwnF n w base e v k fs) (hb : ∀ g, v.ownBlock = some g → base' ≤ g) : OwnF n w base' e v k fs := by
  obtain ⟨h1, h2⟩ := h
  refine ⟨h1, ?_⟩
  rcases h2 with h2 | ⟨g, cap, cur, hv, hg, hh, r⟩
  · exact Or.inl h2
  · exact Or.inr ⟨g, cap, cur, hv, hb g (by rw [hv]; rfl), hh, r⟩

theorem OwnF.len {n : Nat} {w : World} {base : Nat} {e : TypeId} {v : Value} {k : Nat} {fs : List Int} (h : OwnF n w base e v k fs) : fs.length = k * n := by
  have := h.1; rwa [List.length_map] at this

theorem OwnF.view {n : Nat} {w : World} {base : Nat} {e : TypeId} {v : Value} {k : Nat} {fs : List Int} (h : OwnF n w base e v k fs) (hk : k ≤ 9223372036854775807) {hi : Nat} (hb : ∀ g, v.ownBlock = some g → g < hi) : FView n w base hi v k fs := by
  have h' := h
  have hlen := h.len
  obtain ⟨_, h2⟩ := h
  rcases h2 with ⟨rfl, h0⟩ | ⟨g, cap, cur, rfl, hg, hh, hc, hm, hs, ht⟩
  · subst h0; exact ⟨none, 0, rfl, hlen, hk, ⟨Nat.le_refl _, fun _ => rfl⟩, Or.inl rfl⟩
  · refine ⟨_, cap, rfl, hlen, hk, ⟨hc, fun h => by cases h⟩, Or.inr ⟨g, 0, rfl, hg, hb g rfl, fun j hj => ?_⟩⟩
    rw [Nat.zero_add, World.ownsRow.cellAt h' j hj]
    rw [List.getElem?_map, List.getElem?_eq_getElem (by omega)]
    simp [List.getD_eq_getElem?_getD, List.getElem?_eq_getElem (show j < fs.length by omega)]

/-- Numbers that count up. -/
def marksF (k0 m : Nat) : List Int := (List.range m).map fun i => ((k0 + i : Nat) : Int)
theorem marksF_length (k0 m : Nat) : (marksF k0 m).length = m := by simp [marksF]
theorem marksF_getD (k0 m i : Nat) (h : i < m) : (marksF k0 m).getD i 0 = ((k0 + i : Nat) : Int) := by simp [marksF, List.getD_eq_getElem?_getD, h]
theorem marksF_set (k0 m : Nat) (fs : List Int) (h : m < fs.length) : ((marksF k0 m ++ fs.drop m).map (Value.int .i64)).set m (.int .i64 ((k0 + m : Nat) : Int)) = (marksF k0 (m + 1) ++ fs.drop (m + 1)).map (Value.int .i64) := by
  rw [← List.map_set]
  congr 1
  rw [List.set_append, marksF_length, if_neg (by omega), Nat.sub_self, List.drop_eq_getElem_cons h, List.set_cons_zero]
  have : marksF k0 (m + 1) = marksF k0 m ++ [((k0 + m : Nat) : Int)] := by simp [marksF, List.range_succ]
  rw [this, List.append_assoc]; rfl

/-- append of structs that are seen to structs that are owned. -/
theorem wpList_app_flat {n : Nat} {P : Program} {w : World} {ops : Array Oper} {rest : List Oper} {o : Oper} {a : Act} {Q : Exit → Act → World → Prop} (hgd : o.guard = none) (s x : Operand) (t : TypeId)
    (ho : o.op = .call { callee := .builtin .append, args := #[s, x], argTypes := #[t, t] }) (base : Nat) (e : TypeId) (i : TypeInfo) (z : Value) (bytes : Nat) (ht : P.underlying t = some (.slice e)) (hi : P.info? e = some i) (hz : i.zero = some z)
    (hsize : i.size = n) (hby : i.bytes = bytes) (hzs : z.cells.size = n) (hsz : 0 < n) (v : Value) (k : Nat) (fs : List Int) (hs : a.eval s = v) (hown : OwnF n w base e v k fs)
    (b m c : Nat) (ys : List Int) (hx : a.eval x = .slice (some ⟨b, 0, none⟩) m c) (hl : ys.length = m * n) (hm : 0 < m) (hc : ∀ j, j < m * n → w.cell? ⟨b, j, none⟩ = some (.int .i64 (ys.getD j 0)))
    (hk : k + m ≤ 1048576) (hb64 : bytes ≤ 1024) (hbase : base ≤ w.heap.size)
    (h : ∀ v' w', (∃ g cap, v' = .slice (some ⟨g, 0, none⟩) (k + m) cap) → OwnF n w' base e v' (k + m) (fs ++ ys) → Chg base w.heap.size w w' → wpList P ops Q rest (a.put o.dst v') w') : wpList P ops Q (o :: rest) a w := by
  refine wpList_append_own w hgd s x t ho base e i z n bytes ht hi hz hsize hby hzs hsz v k _ hs hown ⟨b, 0, none⟩ m c (ys.map (Value.int .i64)) hx (by rw [List.length_map]; exact hl) ?_ ?_ (by unfold maxLen; omega) (Nat.le_trans (Nat.mul_le_mul hk hb64) (by omega)) hbase ?_
  · intro j u hj
    obtain ⟨hj', hu⟩ := List.getElem?_eq_some_iff.1 hj
    rw [List.length_map] at hj'
    have := hc j (by omega)
    rw [Go.WideShapes.add_plain, Nat.zero_add, this, ← hu]
    simp [List.getD_eq_getElem?_getD, List.getElem?_eq_getElem hj']
  · intro u hu
    obtain ⟨y, _, rfl⟩ := List.mem_map.1 hu
    rfl
  · intro v' w' h1 h2 _
    refine h v' w' ?_ (by unfold OwnF; rw [List.map_append]; exact h1) (Chg.ofGrown h2 (fun g hg hlt => ⟨(World.ownsRow.lt hown g hg).1, hlt⟩))
    rcases h1.2 with ⟨_, h0⟩ | ⟨g', cap', cur, e', _⟩
    · omega
    · exact ⟨g', cap', e'⟩

theorem OwnF.nil {n : Nat} (w : World) (e : TypeId) : OwnF n (w.alloc (.cells #[] e)) w.heap.size e (.slice (some ⟨w.heap.size, 0, none⟩) 0 0) 0 [] := by
  have := World.ownsRow_lit (base := w.heap.size) (e := e) (size := n) w #[] 0 (Nat.le_refl _) (by unfold maxLen; omega) (by simp)
  simpa [OwnF] using this

theorem OwnF.at {n : Nat} {w : World} {base : Nat} {e : TypeId} {v : Value} {k : Nat} {fs : List Int} (h : OwnF n w base e v k fs) (hk : 0 < k) : ∃ g cap, v = .slice (some ⟨g, 0, none⟩) k cap ∧ base ≤ g ∧ g < w.heap.size := by
  have hb := h.lt
  obtain ⟨_, h2⟩ := h
  rcases h2 with ⟨_, h0⟩ | ⟨g, cap, cur, rfl, hg, _⟩
  · omega
  · exact ⟨g, cap, rfl, hg, (hb g rfl).2⟩

theorem OwnF.cell {n : Nat} {w : World} {base : Nat} {e : TypeId} {g k cap : Nat} {fs : List Int} (h : OwnF n w base e (.slice (some ⟨g, 0, none⟩) k cap) k fs) (j : Nat) (hj : j < k * n) :
    w.cell? ⟨g, j, none⟩ = some (.int .i64 (fs.getD j 0)) ∧ w.frozen? ⟨g, j, none⟩ = false := by
  have hlen := h.len
  refine ⟨?_, World.ownsRow.frozenAt h j⟩
  rw [World.ownsRow.cellAt h j hj, List.getElem?_map, List.getElem?_eq_getElem (by omega)]
  simp [List.getD_eq_getElem?_getD, List.getElem?_eq_getElem (show j < fs.length by omega)]

theorem OwnF.put {n : Nat} {w : World} {base : Nat} {e : TypeId} {g k cap : Nat} {fs : List Int} (h : OwnF n w base e (.slice (some ⟨g, 0, none⟩) k cap) k fs) (j : Nat) (x : Int) :
    OwnF n (w.setCell ⟨g, j, none⟩ (.int .i64 x)) base e (.slice (some ⟨g, 0, none⟩) k cap) k (fs.set j x) := by
  have := (World.ownsRow.stored h j (.int .i64 x)).1
  unfold OwnF at *
  rw [List.map_set]; exact this

end Go.Proofs.Ytbdkdfkhcmckhaa
