/- eqAnswer of the laws. -/
import Derived.Test.YtoagahpoblcioaaDoorFmtArg3
namespace Go.Proofs.YtoagahpoblcioaaDoor
open Go.RowKit Go.Lib

set_option maxHeartbeats 1000000 in
theorem eqStat_calls (w : World) (k l s b : Int) : Calls Tryd.prog 21 #[.agg #[.int .i64 k, .int .i64 l, .int .i64 s, .int .i64 b], .agg #[.int .i64 k, .int .i64 l, .int .i64 s, .int .i64 b]] w fun e w' => e = .returned (.bool true) ∧ Chg 0 0 w w' := by
  have HC : Hid (∀ A B : Obj, Chg 0 0 w ((w.alloc A).alloc B)) := fun A B => (Chg.alloc (Chg.refl 0 0 w) A).alloc B
  have e1 : ∀ x : Int, (x != x) = false := fun x => by simp
  go_enter Tryd.func21, Tryd.ntmps21
  go_wp2
  go_ret
  exact ⟨rfl, HC.out _ _⟩

set_option maxHeartbeats 1000000 in
theorem eqTxnState_calls (w : World) (sq hd us rn cm : Int) : Calls Tryd.prog 22 #[.agg #[.int .i64 sq, .int .i64 hd, .int .i64 us, .int .i64 rn, .int .i64 cm], .agg #[.int .i64 sq, .int .i64 hd, .int .i64 us, .int .i64 rn, .int .i64 cm]] w fun e w' => e = .returned (.bool true) ∧ Chg 0 0 w w' := by
  have HC : Hid (∀ A B : Obj, Chg 0 0 w ((w.alloc A).alloc B)) := fun A B => (Chg.alloc (Chg.refl 0 0 w) A).alloc B
  have e1 : ∀ x : Int, (x != x) = false := fun x => by simp
  go_enter Tryd.func22, Tryd.ntmps22
  go_wp2
  go_ret
  exact ⟨rfl, HC.out _ _⟩

theorem two_new (w : World) (A B : Obj) : ((w.alloc A).alloc B).heap[w.heap.size]? = some A ∧ ((w.alloc A).alloc B).heap[w.heap.size + 1]? = some B ∧ ((w.alloc A).alloc B).heap.size = w.heap.size + 1 + 1 ∧ Chg 0 0 w ((w.alloc A).alloc B) := by
  have s1 : (w.alloc A).heap.size = w.heap.size + 1 := by simp
  have hA := heap_new w A
  have hB := heap_new (w.alloc A) B
  rw [s1] at hB
  refine ⟨?_, hB, by simp, (Chg.alloc (Chg.refl 0 0 w) _).alloc _⟩
  rw [Lib.alloc_old _ _ _ (by omega)]; exact hA

set_option maxRecDepth 20000 in
set_option maxHeartbeats 2000000 in
theorem eqAnswer_calls (w : World) (code : Int) (data : ByteArray) (v1 v2 : Value) (names : List ByteArray) (handle k l s b sq hd us rn cm : Int) {lo hi lo' hi' : Nat} (h1 : SView w lo hi v1 names) (h2 : SView w lo' hi' v2 names) :
    Calls Tryd.prog 10 #[.agg (cAns code data v1 handle k l s b sq hd us rn cm), .agg (cAns code data v2 handle k l s b sq hd us rn cm)] w fun e w' => e = .returned (.bool true) ∧ Chg 0 0 w w' := by
  obtain ⟨fA, fB, fs, fc⟩ := two_new w (.cells (cAns code data v1 handle k l s b sq hd us rn cm) 39) (.cells (cAns code data v2 handle k l s b sq hd us rn cm) 39)
  have hE := eqStringS_calls _ (h1.chg fc (by omega)) (h2.chg fc (by omega))
  have e1 : ∀ x : Int, (x != x) = false := fun x => by simp
  have e2 : (data.toList != data.toList) = false := by simp
  have e3 : (data.toList == data.toList) = true := by simp
  clear h1 h2
  go_enter Tryd.func10, Tryd.ntmps10
  go_wp2_with fail
  generalize (w.alloc (.cells (cAns code data v1 handle k l s b sq hd us rn cm) 39)).alloc (.cells (cAns code data v2 handle k l s b sq hd us rn cm) 39) = w1 at *
  refine hE.mono ?_
  rintro e w2 ⟨rfl, h2⟩
  have c2 : Chg 0 0 w1 w2 := by first | exact h2 | (rw [h2]; exact Chg.refl _ _ _)
  have gA := (c2.block _ (by omega) (by omega)).trans fA
  have gB := (c2.block _ (by omega) (by omega)).trans fB
  have HC2 : Hid (Chg 0 0 w w2) := fc.trans c2
  have sz2 := c2.size
  have hA : ∀ j, w2.cell? ⟨w.heap.size, j, none⟩ = (cAns code data v1 handle k l s b sq hd us rn cm)[j]? := Lib.cell_of_heap gA
  have hB : ∀ j, w2.cell? ⟨w.heap.size + 1, j, none⟩ = (cAns code data v2 handle k l s b sq hd us rn cm)[j]? := Lib.cell_of_heap gB
  clear h2 hE c2 fc fA fB
  have hT := fun W => eqStat_calls W k l s b
  go_wp2_with fail
  refine (hT _).mono ?_
  rintro e w3 ⟨rfl, c3⟩
  have HC3 : Hid (Chg 0 0 w w3) := HC2.out.trans c3
  have gA3 := (c3.block _ (by omega) (by omega)).trans gA
  have gB3 := (c3.block _ (by omega) (by omega)).trans gB
  clear c3 hT hA hB gA gB
  have hA : ∀ j, w3.cell? ⟨w.heap.size, j, none⟩ = (cAns code data v1 handle k l s b sq hd us rn cm)[j]? := Lib.cell_of_heap gA3
  have hB : ∀ j, w3.cell? ⟨w.heap.size + 1, j, none⟩ = (cAns code data v2 handle k l s b sq hd us rn cm)[j]? := Lib.cell_of_heap gB3
  have hT := fun W => eqTxnState_calls W sq hd us rn cm
  go_wp2_with fail
  refine (hT _).mono ?_
  rintro e w4 ⟨rfl, c4⟩
  have HC4 : Hid (Chg 0 0 w w4) := HC3.out.trans c4
  clear c4 hT hA hB gA3 gB3
  go_wp2
  go_ret
  exact ⟨rfl, HC4.out⟩

end Go.Proofs.YtoagahpoblcioaaDoor
