/- toAnswer, eqAnswer of the laws. -/
import Derived.Test.YtoagahpoblcioaaDoorFmtArg2
namespace Go.Proofs.YtoagahpoblcioaaDoor
open Go.RowKit Go.Lib

abbrev zAns : Array Value := cAns 0 ⟨#[]⟩ (.slice none 0 0) 0 0 0 0 0 0 0 0 0 0

theorem three_new (w : World) (A B C : Obj) : (((w.alloc A).alloc B).alloc C).heap[w.heap.size]? = some A ∧ (((w.alloc A).alloc B).alloc C).heap[w.heap.size + 1]? = some B ∧ (((w.alloc A).alloc B).alloc C).heap[w.heap.size + 1 + 1]? = some C ∧ (((w.alloc A).alloc B).alloc C).heap.size = w.heap.size + 1 + 1 + 1 ∧ Chg 0 0 w (((w.alloc A).alloc B).alloc C) := by
  have s1 : (w.alloc A).heap.size = w.heap.size + 1 := by simp
  have s2 : ((w.alloc A).alloc B).heap.size = w.heap.size + 1 + 1 := by simp
  have hA := heap_new w A
  have hB := heap_new (w.alloc A) B
  have hC := heap_new ((w.alloc A).alloc B) C
  rw [s1] at hB
  rw [s2] at hC
  refine ⟨?_, ?_, hC, by simp, ((Chg.alloc (Chg.refl 0 0 w) _).alloc _).alloc _⟩
  · rw [Lib.alloc_old _ _ _ (by omega), Lib.alloc_old _ _ _ (by omega)]; exact hA
  · rw [Lib.alloc_old _ _ _ (by omega)]; exact hB

theorem cells_set {w : World} {b i : Nat} {cs : Array Value} {t : TypeId} {v : Value} (h : w.heap[b]? = some (.cells cs t (0, 0))) : (w.setCell ⟨b, i, none⟩ v).heap[b]? = some (.cells (cs.setIfInBounds i v) t (0, 0)) := by
  rw [setCell_eq_setRow w b i cs t (0, 0) v h]
  exact setRow_heap w b cs _ t (0, 0) h
theorem set_far (w : World) (b i : Nat) (v : Value) (j : Nat) (u : Value) (c : Nat) (h : c ≠ b) : ((w.setCell ⟨b, i, none⟩ v).setCell ⟨b, j, none⟩ u).heap[c]? = w.heap[c]? := by
  by_cases hc : c < w.heap.size
  · have c1 : Chg b (b + 1) w ((w.setCell ⟨b, i, none⟩ v).setCell ⟨b, j, none⟩ u) := ((Chg.refl _ _ w).setCell (p := ⟨b, i, none⟩) (Or.inl ⟨Nat.le_refl _, Nat.lt_succ_self _⟩) _).setCell (p := ⟨b, j, none⟩) (Or.inl ⟨Nat.le_refl _, Nat.lt_succ_self _⟩) _
    exact c1.block c hc (by omega)
  · rw [Array.getElem?_eq_none (show w.heap.size ≤ c by omega)]
    exact Array.getElem?_eq_none (by simp; omega)

theorem set_one (w : World) (b i : Nat) (v : Value) (c : Nat) (h : c ≠ b) : (w.setCell ⟨b, i, none⟩ v).heap[c]? = w.heap[c]? := by
  by_cases hc : c < w.heap.size
  · have c1 : Chg b (b + 1) w (w.setCell ⟨b, i, none⟩ v) := (Chg.refl _ _ w).setCell (p := ⟨b, i, none⟩) (Or.inl ⟨Nat.le_refl _, Nat.lt_succ_self _⟩) _
    exact c1.block c hc (by omega)
  · rw [Array.getElem?_eq_none (show w.heap.size ≤ c by omega)]
    exact Array.getElem?_eq_none (by simp; omega)

theorem Chg.put0 {w W : World} (h : Chg 0 0 w W) (b i : Nat) (v : Value) (hb : w.heap.size ≤ b) : Chg 0 0 w (W.setCell ⟨b, i, none⟩ v) := h.setCell (p := ⟨b, i, none⟩) (Or.inr hb) v

theorem toStat_calls (w : World) (k l s b : Int) : Calls Tryd.prog 15 #[.agg #[.int .i64 k, .int .i64 l, .int .i64 s, .int .i64 b]] w fun e w' => e = .returned (.agg #[.int .i64 k, .int .i64 l, .int .i64 s, .int .i64 b]) ∧ Chg 0 0 w w' := by
  go_enter Tryd.func15, Tryd.ntmps15
  go_wp2
  exact bodyPost_ret (v := .agg #[.int .i64 k, .int .i64 l, .int .i64 s, .int .i64 b]) (by simp [results, Tryd.results15, go_sem]) rfl ⟨rfl, ((Chg.alloc (Chg.refl 0 0 w) _).alloc _).alloc _⟩
theorem toTxnState_calls (w : World) (sq hd us rn cm : Int) : Calls Tryd.prog 16 #[.agg #[.int .i64 sq, .int .i64 hd, .int .i64 us, .int .i64 rn, .int .i64 cm]] w fun e w' => e = .returned (.agg #[.int .i64 sq, .int .i64 hd, .int .i64 us, .int .i64 rn, .int .i64 cm]) ∧ Chg 0 0 w w' := by
  go_enter Tryd.func16, Tryd.ntmps16
  go_wp2
  exact bodyPost_ret (v := .agg #[.int .i64 sq, .int .i64 hd, .int .i64 us, .int .i64 rn, .int .i64 cm]) (by simp [results, Tryd.results16, go_sem]) rfl ⟨rfl, ((Chg.alloc (Chg.refl 0 0 w) _).alloc _).alloc _⟩

set_option maxRecDepth 20000 in
set_option maxHeartbeats 4000000 in
theorem toAnswer_calls (w : World) (code : Int) (data : ByteArray) (na : Option Addr) (nc : Nat) (names : List ByteArray) (handle k l s b sq hd us rn cm : Int) {lo hi : Nat} (hl : names.length ≤ 1048576) (hN : SView w lo hi (.slice na names.length nc) names) :
    Calls Tryd.prog 8 #[.agg (cAns code data (.slice na names.length nc) handle k l s b sq hd us rn cm)] w fun e w' => ∃ g, e = .returned (.agg (cAns code data (.slice (some ⟨g, 0, none⟩) names.length names.length) handle k l s b sq hd us rn cm)) ∧ w.heap.size ≤ g ∧ w'.heap[g]? = some (cN 9 names) ∧ Chg 0 0 w w' := by
  have f3 := three_new w (.cells (cAns code data (.slice na names.length nc) handle k l s b sq hd us rn cm) 30) (.cells zAns 39) (.cells (cAns code data (.slice none 0 0) 0 0 0 0 0 0 0 0 0 0) 39)
  obtain ⟨fA, fZ, fO, fs, fc⟩ := f3
  have hS := toStringS_calls (((w.alloc (.cells (cAns code data (.slice na names.length nc) handle k l s b sq hd us rn cm) 30)).alloc (.cells zAns 39)).alloc (.cells (cAns code data (.slice none 0 0) 0 0 0 0 0 0 0 0 0 0) 39)) names hl (hN.chg fc (by omega))
  clear hN
  go_enter Tryd.func8, Tryd.ntmps8
  go_wp2_with fail
  generalize ((w.alloc (.cells (cAns code data (.slice na names.length nc) handle k l s b sq hd us rn cm) 30)).alloc (.cells zAns 39)).alloc (.cells (cAns code data (.slice none 0 0) 0 0 0 0 0 0 0 0 0 0) 39) = w1 at *
  refine hS.mono ?_
  rintro e w2 ⟨rfl, hg2, c2⟩
  have gA := (c2.block _ (by omega) (by omega)).trans fA
  have gZ := (c2.block _ (by omega) (by omega)).trans fZ
  have gO := (c2.block _ (by omega) (by omega)).trans fO
  have HC2 : Hid (Chg 0 0 w w2) := fc.trans c2
  have hA : ∀ j, w2.cell? ⟨w.heap.size, j, none⟩ = (cAns code data (.slice na names.length nc) handle k l s b sq hd us rn cm)[j]? := Lib.cell_of_heap gA
  have hZ : ∀ j, w2.cell? ⟨w.heap.size + 1, j, none⟩ = zAns[j]? := Lib.cell_of_heap gZ
  have hO : ∀ j, w2.cell? ⟨w.heap.size + 1 + 1, j, none⟩ = (cAns code data (.slice none 0 0) 0 0 0 0 0 0 0 0 0 0)[j]? := Lib.cell_of_heap gO
  have zZ : ∀ j, w2.frozen? ⟨w.heap.size + 1, j, none⟩ = false := fun j => Lib.frozen_of_heap gZ j
  have zO : ∀ j, w2.frozen? ⟨w.heap.size + 1 + 1, j, none⟩ = false := fun j => Lib.frozen_of_heap gO j
  rw [fs] at hg2
  have Hg : Hid (w2.heap[w.heap.size + 1 + 1 + 1]? = some (cN 9 names)) := hg2
  clear hS c2 fA fZ fO fc hg2
  have hT := fun W => toStat_calls W k l s b
  go_wp2_with fail
  -- names, handle are put
  have aO := cells_set (i := 3) (v := .int .i64 handle) (cells_set (i := 2) (v := .slice (some ⟨w.heap.size + 1 + 1 + 1, 0, none⟩) names.length names.length) gO)
  have aA := (set_far w2 (w.heap.size + 1 + 1) 2 (.slice (some ⟨w.heap.size + 1 + 1 + 1, 0, none⟩) names.length names.length) 3 (.int .i64 handle) w.heap.size (by omega)).trans gA
  have aZ := (set_far w2 (w.heap.size + 1 + 1) 2 (.slice (some ⟨w.heap.size + 1 + 1 + 1, 0, none⟩) names.length names.length) 3 (.int .i64 handle) (w.heap.size + 1) (by omega)).trans gZ
  have aG : Hid (((w2.setCell ⟨w.heap.size + 1 + 1, 2, none⟩ (.slice (some ⟨w.heap.size + 1 + 1 + 1, 0, none⟩) names.length names.length)).setCell ⟨w.heap.size + 1 + 1, 3, none⟩ (.int .i64 handle)).heap[w.heap.size + 1 + 1 + 1]? = some (cN 9 names)) := (set_far w2 (w.heap.size + 1 + 1) 2 (.slice (some ⟨w.heap.size + 1 + 1 + 1, 0, none⟩) names.length names.length) 3 (.int .i64 handle) (w.heap.size + 1 + 1 + 1) (by omega)).trans Hg.out
  have aC : Hid (Chg 0 0 w ((w2.setCell ⟨w.heap.size + 1 + 1, 2, none⟩ (.slice (some ⟨w.heap.size + 1 + 1 + 1, 0, none⟩) names.length names.length)).setCell ⟨w.heap.size + 1 + 1, 3, none⟩ (.int .i64 handle))) := (HC2.out.setCell (p := ⟨w.heap.size + 1 + 1, 2, none⟩) (Or.inr (show w.heap.size ≤ w.heap.size + 1 + 1 by omega)) _).setCell (p := ⟨w.heap.size + 1 + 1, 3, none⟩) (Or.inr (show w.heap.size ≤ w.heap.size + 1 + 1 by omega)) _
  have aS : w2.heap.size ≤ ((w2.setCell ⟨w.heap.size + 1 + 1, 2, none⟩ (.slice (some ⟨w.heap.size + 1 + 1 + 1, 0, none⟩) names.length names.length)).setCell ⟨w.heap.size + 1 + 1, 3, none⟩ (.int .i64 handle)).heap.size := by simp
  have hgl : w.heap.size + 1 + 1 + 1 < w2.heap.size := (Array.getElem?_eq_some_iff.1 Hg.out).1
  clear hA hZ hO zZ zO gA gZ gO Hg HC2
  generalize (w2.setCell ⟨w.heap.size + 1 + 1, 2, none⟩ (.slice (some ⟨w.heap.size + 1 + 1 + 1, 0, none⟩) names.length names.length)).setCell ⟨w.heap.size + 1 + 1, 3, none⟩ (.int .i64 handle) = w3 at *
  refine (hT _).mono ?_
  rintro e w4 ⟨rfl, c4⟩
  have bA := (c4.block _ (by omega) (by omega)).trans aA
  have bZ := (c4.block _ (by omega) (by omega)).trans aZ
  have bO := (c4.block _ (by omega) (by omega)).trans aO
  have bG : Hid (w4.heap[w.heap.size + 1 + 1 + 1]? = some (cN 9 names)) := (c4.block _ (by omega) (by omega)).trans aG.out
  have bC : Hid (Chg 0 0 w w4) := aC.out.trans c4
  have hA : ∀ j, w4.cell? ⟨w.heap.size, j, none⟩ = (cAns code data (.slice na names.length nc) handle k l s b sq hd us rn cm)[j]? := Lib.cell_of_heap bA
  have hO : ∀ j, w4.cell? ⟨w.heap.size + 1 + 1, j, none⟩ = (cAns code data (.slice (some ⟨w.heap.size + 1 + 1 + 1, 0, none⟩) names.length names.length) handle 0 0 0 0 0 0 0 0 0)[j]? := Lib.cell_of_heap bO
  have zO : ∀ j, w4.frozen? ⟨w.heap.size + 1 + 1, j, none⟩ = false := fun j => Lib.frozen_of_heap bO j
  clear c4 aA aZ aO aG aC hT
  have hT := fun W => toTxnState_calls W sq hd us rn cm
  go_wp2_with fail
  have aO := cells_set (i := 7) (v := .int .i64 b) (cells_set (i := 6) (v := .int .i64 s) (cells_set (i := 5) (v := .int .i64 l) (cells_set (i := 4) (v := .int .i64 k) bO)))
  have aZ : ((((w4.setCell ⟨w.heap.size + 1 + 1, 4, none⟩ (.int .i64 k)).setCell ⟨w.heap.size + 1 + 1, 5, none⟩ (.int .i64 l)).setCell ⟨w.heap.size + 1 + 1, 6, none⟩ (.int .i64 s)).setCell ⟨w.heap.size + 1 + 1, 7, none⟩ (.int .i64 b)).heap[w.heap.size + 1]? = some (.cells zAns 39 (0, 0)) := ((set_far _ (w.heap.size + 1 + 1) 6 _ 7 _ (w.heap.size + 1) (by omega)).trans (set_far _ (w.heap.size + 1 + 1) 4 _ 5 _ (w.heap.size + 1) (by omega))).trans bZ
  have aG : Hid (((((w4.setCell ⟨w.heap.size + 1 + 1, 4, none⟩ (.int .i64 k)).setCell ⟨w.heap.size + 1 + 1, 5, none⟩ (.int .i64 l)).setCell ⟨w.heap.size + 1 + 1, 6, none⟩ (.int .i64 s)).setCell ⟨w.heap.size + 1 + 1, 7, none⟩ (.int .i64 b)).heap[w.heap.size + 1 + 1 + 1]? = some (cN 9 names)) := ((set_far _ (w.heap.size + 1 + 1) 6 _ 7 _ (w.heap.size + 1 + 1 + 1) (by omega)).trans (set_far _ (w.heap.size + 1 + 1) 4 _ 5 _ (w.heap.size + 1 + 1 + 1) (by omega))).trans bG.out
  have aC : Hid (Chg 0 0 w ((((w4.setCell ⟨w.heap.size + 1 + 1, 4, none⟩ (.int .i64 k)).setCell ⟨w.heap.size + 1 + 1, 5, none⟩ (.int .i64 l)).setCell ⟨w.heap.size + 1 + 1, 6, none⟩ (.int .i64 s)).setCell ⟨w.heap.size + 1 + 1, 7, none⟩ (.int .i64 b))) := (((bC.out.setCell (p := ⟨w.heap.size + 1 + 1, 4, none⟩) (Or.inr (show w.heap.size ≤ w.heap.size + 1 + 1 by omega)) _).setCell (p := ⟨w.heap.size + 1 + 1, 5, none⟩) (Or.inr (show w.heap.size ≤ w.heap.size + 1 + 1 by omega)) _).setCell (p := ⟨w.heap.size + 1 + 1, 6, none⟩) (Or.inr (show w.heap.size ≤ w.heap.size + 1 + 1 by omega)) _).setCell (p := ⟨w.heap.size + 1 + 1, 7, none⟩) (Or.inr (show w.heap.size ≤ w.heap.size + 1 + 1 by omega)) _
  have hgl5 : w.heap.size + 1 + 1 + 1 < ((((w4.setCell ⟨w.heap.size + 1 + 1, 4, none⟩ (.int .i64 k)).setCell ⟨w.heap.size + 1 + 1, 5, none⟩ (.int .i64 l)).setCell ⟨w.heap.size + 1 + 1, 6, none⟩ (.int .i64 s)).setCell ⟨w.heap.size + 1 + 1, 7, none⟩ (.int .i64 b)).heap.size := (Array.getElem?_eq_some_iff.1 aG.out).1
  clear hA hO zO bA bZ bO bG bC
  generalize (((w4.setCell ⟨w.heap.size + 1 + 1, 4, none⟩ (.int .i64 k)).setCell ⟨w.heap.size + 1 + 1, 5, none⟩ (.int .i64 l)).setCell ⟨w.heap.size + 1 + 1, 6, none⟩ (.int .i64 s)).setCell ⟨w.heap.size + 1 + 1, 7, none⟩ (.int .i64 b) = w5 at *
  refine (hT _).mono ?_
  rintro e w6 ⟨rfl, c6⟩
  have bZ := (c6.block _ (by omega) (by omega)).trans aZ
  have bO := (c6.block _ (by omega) (by omega)).trans aO
  have bG : Hid (w6.heap[w.heap.size + 1 + 1 + 1]? = some (cN 9 names)) := (c6.block _ (by omega) (by omega)).trans aG.out
  have bC : Hid (Chg 0 0 w w6) := aC.out.trans c6
  have hO : ∀ j, w6.cell? ⟨w.heap.size + 1 + 1, j, none⟩ = (cAns code data (.slice (some ⟨w.heap.size + 1 + 1 + 1, 0, none⟩) names.length names.length) handle k l s b 0 0 0 0 0)[j]? := Lib.cell_of_heap bO
  have zO : ∀ j, w6.frozen? ⟨w.heap.size + 1 + 1, j, none⟩ = false := fun j => Lib.frozen_of_heap bO j
  have hZ : ∀ j, w6.cell? ⟨w.heap.size + 1, j, none⟩ = zAns[j]? := Lib.cell_of_heap bZ
  have zZ : ∀ j, w6.frozen? ⟨w.heap.size + 1, j, none⟩ = false := fun j => Lib.frozen_of_heap bZ j
  clear c6 aZ aO aG aC hT
  go_wp2
  refine bodyPost_ret (v := .agg (cAns code data (.slice (some ⟨w.heap.size + 1 + 1 + 1, 0, none⟩) names.length names.length) handle k l s b sq hd us rn cm)) (by simp [results, Tryd.results8, go_sem, *]) rfl ⟨w.heap.size + 1 + 1 + 1, rfl, by omega, ?_, ?_⟩
  · repeat rw [set_one _ _ _ _ _ (by omega)]
    exact bG.out
  · repeat refine Chg.put0 ?_ _ _ _ (by omega)
    exact bC.out

end Go.Proofs.YtoagahpoblcioaaDoor
