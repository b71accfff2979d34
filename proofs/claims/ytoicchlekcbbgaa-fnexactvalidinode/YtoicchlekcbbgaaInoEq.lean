/- Inodes of the program held against each other. -/
import Derived.Test.YtoicchlekcbbgaaInoC
import Derived.Stop.BytesEq
namespace Go.Proofs.Ytoicchlekcbbgaa
open Go.RowKit

theorem eqIn_eight (w : World) (d : Nat) {xs ys : List Int} (hx : xs.length = 8) (hy : ys.length = 8) :
    (Op.equalIn (d + 2) 34 (.agg (xs.map (Value.int .i64)).toArray) (.agg (ys.map (Value.int .i64)).toArray)).run Try.prog w = .ok (decide (xs = ys)) w := by
  have hsz : ∀ w, (sizeOf 2).run Try.prog w = .ok 1 w := fun w => by kernel_rfl
  have hp : ∀ (zs : List Int) (i : Nat) (w : World), i < zs.length → (part 2 (zs.map (Value.int .i64)).toArray (i * 1)).run Try.prog w = .ok (.int .i64 (zs.getD i 0)) w := fun zs i w hi => by
    simp [part, isAgg, run_underlying Try.underlying2, List.getD_eq_getElem?_getD, hi]
  have he : ∀ (a b : Int) (w : World), (Op.equalIn (d + 1) 2 (.int .i64 a) (.int .i64 b)).run Try.prog w = .ok (a == b) w := fun a b w => by
    rw [Op.equalIn]
    simp [run_underlying Try.underlying2]
  have hr : decide (xs = ys) = (List.range' 0 8 1).all fun i => xs.getD i 0 == ys.getD i 0 := by
    obtain ⟨a0, a1, a2, a3, a4, a5, a6, a7, rfl⟩ := eightI hx
    obtain ⟨b0, b1, b2, b3, b4, b5, b6, b7, rfl⟩ := eightI hy
    rw [show List.range' 0 8 1 = [0, 1, 2, 3, 4, 5, 6, 7] from rfl, Bool.eq_iff_iff]
    simp
  rw [hr, Op.equalIn]
  simp only [Sem.run_bind, run_underlying Try.underlying34, Result.andThen_ok, hsz, Std.Legacy.Range.forIn_eq_forIn_range', Std.Legacy.Range.size, Nat.sub_zero, Nat.add_sub_cancel, Nat.div_one]
  have hl : ∀ i ∈ List.range' 0 8 1, i < 8 := fun i hi => by simpa using (List.mem_range'_1.1 hi).2
  clear hr
  generalize List.range' 0 8 1 = l at hl ⊢
  induction l with
  | nil => simp
  | cons i l ih =>
    have hi : i < 8 := hl i (by simp)
    simp only [List.forIn_cons, Sem.run_bind, hp xs i _ (by omega), hp ys i _ (by omega), he, Result.andThen_ok, List.all_cons]
    cases xs.getD i 0 == ys.getD i 0
    · simp
    · simp only [Bool.not_true, Bool.false_eq_true, if_false, Sem.run_pure, Result.andThen_ok, Bool.true_and]
      exact ih (fun j hj => hl j (by simp [hj]))

theorem nC_part {i : Ino} (h : i.dir.length = 8) (w : World) : (part 34 (nC i).toArray 3).run Try.prog w = .ok (.agg (i.dir.map (Value.int .i64)).toArray) w := by
  obtain ⟨a0, a1, a2, a3, a4, a5, a6, a7, e⟩ := eightI h
  have hsz : (sizeOf 34).run Try.prog w = .ok 8 w := by kernel_rfl
  simp only [part, isAgg, Sem.run_bind, run_underlying Try.underlying34, Result.andThen_ok, Sem.run_pure, if_true, hsz]
  unfold nC
  rw [e]
  rfl
theorem nC_pint {i : Ino} {j : Nat} {v : Int} (h : (nC i)[j]? = some (.int .i64 v)) (w : World) : (part 2 (nC i).toArray j).run Try.prog w = .ok (.int .i64 v) w := by
  simp [part, isAgg, run_underlying Try.underlying2, h]

/-- Two inodes are the same. -/
def sameI (i k : Ino) : Bool := decide (i.kind = k.kind) && decide (i.links = k.links) && decide (i.size = k.size) && decide (i.dir = k.dir) && decide (i.ind = k.ind)

theorem eq_inodes (w : World) {i k : Ino} (hi : i.dir.length = 8) (hk : k.dir.length = 8) :
    (Op.equalIn 10000 36 (.agg (nC i).toArray) (.agg (nC k).toArray)).run Try.prog w = .ok (sameI i k) w := by
  have he : ∀ (a b : Int) (w : World), (Op.equalIn 9999 2 (.int .i64 a) (.int .i64 b)).run Try.prog w = .ok (a == b) w := fun a b w => by
    rw [Op.equalIn]
    simp [run_underlying Try.underlying2]
  have h8 : ∀ w, (Op.equalIn 9999 34 (.agg (i.dir.map (Value.int .i64)).toArray) (.agg (k.dir.map (Value.int .i64)).toArray)).run Try.prog w = .ok (decide (i.dir = k.dir)) w := fun w => eqIn_eight w 9997 hi hk
  have a0 := fun w => nC_pint (nC_0 i) w
  have a1 := fun w => nC_pint (nC_1 i) w
  have a2 := fun w => nC_pint (nC_2 i) w
  have a3 := fun w => nC_part hi w
  have a4 := fun w => nC_pint (nC_i hi) w
  have b0 := fun w => nC_pint (nC_0 k) w
  have b1 := fun w => nC_pint (nC_1 k) w
  have b2 := fun w => nC_pint (nC_2 k) w
  have b3 := fun w => nC_part hk w
  have b4 := fun w => nC_pint (nC_i hk) w
  rw [run_equalIn_struct w 9999 36 _ _ (by kernel_rfl) (by kernel_rfl)]
  have hf : (Try.prog.fieldsOf 36).toList.map (fun f => (f.name == "_", f.type, f.offset)) = [(false, 2, 0), (false, 2, 1), (false, 2, 2), (false, 34, 3), (false, 2, 11)] := by kernel_rfl
  generalize (Try.prog.fieldsOf 36).toList = fs at hf
  have hl : fs.length = 5 := by have := congrArg List.length hf; simpa using this
  obtain ⟨f0, f1, f2, f3, f4, rfl⟩ : ∃ f0 f1 f2 f3 f4, fs = [f0, f1, f2, f3, f4] := by
    match fs, hl with
    | [f0, f1, f2, f3, f4], _ => exact ⟨f0, f1, f2, f3, f4, rfl⟩
  simp only [List.map_cons, List.map_nil, List.cons.injEq, Prod.mk.injEq, and_true, beq_eq_false_iff_ne] at hf
  obtain ⟨⟨n0, t0, o0⟩, ⟨n1, t1, o1⟩, ⟨n2, t2, o2⟩, ⟨n3, t3, o3⟩, ⟨n4, t4, o4⟩⟩ := hf
  unfold sameI
  simp only [Op.eqFields, n0, n1, n2, n3, n4, t0, t1, t2, t3, t4, o0, o1, o2, o3, o4, ne_eq, not_false_eq_true, if_true]
  generalize (nC i).toArray = A at *
  generalize (nC k).toArray = B at *
  by_cases e0 : i.kind = k.kind
  · by_cases e1 : i.links = k.links
    · by_cases e2 : i.size = k.size
      · generalize decide (i.dir = k.dir) = D at *
        cases D
        · simp [e0, e1, e2, he, h8, a0, a1, a2, a3, b0, b1, b2, b3]
        · by_cases e4 : i.ind = k.ind
          · simp [e0, e1, e2, e4, he, h8, a0, a1, a2, a3, a4, b0, b1, b2, b3, b4]
          · simp [e0, e1, e2, e4, he, h8, a0, a1, a2, a3, a4, b0, b1, b2, b3, b4]
      · simp [e0, e1, e2, he, a0, a1, a2, b0, b1, b2]
    · simp [e0, e1, he, a0, a1, b0, b1]
  · simp [e0, he, a0, b0]

theorem exec_neq_ino {o : Oper} {a : Act} {X Y : Array Value} {D : Bool} (x y : Operand) (ho : o.op = .binOp .neq 36 x y 36) (hx : a.eval x = .agg X) (hy : a.eval y = .agg Y)
    (he : ∀ w, (Op.equalIn 10000 36 (.agg X) (.agg Y)).run Try.prog w = .ok D w) (w : World) : (execOp a.eval o).run Try.prog w = .ok (.value (.bool (!D))) w := by
  have hm : Try.prog.eqGuardType Try.prog.depth 36 = false := by kernel_rfl
  unfold execOp
  simp only [ho, hx, hy, Sem.run_bind, run_eqGuard_agg _ _ _ _ _ _ _ hm, run_neq_struct, he, Result.andThen_ok, Sem.run_pure]
theorem wpList_eql_ino {ops : Array Oper} {rest : List Oper} {o : Oper} {a : Act} {w : World} {Q : Exit → Act → World → Prop} (hgd : o.guard = none) {X Y : Array Value} {D : Bool} (x y : Operand) (ho : o.op = .binOp .eql 36 x y 36) (hx : a.eval x = .agg X) (hy : a.eval y = .agg Y)
    (he : ∀ w, (Op.equalIn 10000 36 (.agg X) (.agg Y)).run Try.prog w = .ok D w) (h : wpList Try.prog ops Q rest (a.put o.dst (.bool D)) w) : wpList Try.prog ops Q (o :: rest) a w := by
  have hm : Try.prog.eqGuardType Try.prog.depth 36 = false := by kernel_rfl
  refine wpList_plain hgd fun K hK => ?_
  unfold Oper.wp execOp
  simp only [ho, hx, hy, Sem.run_bind, run_eqGuard_agg _ _ _ _ _ _ _ hm, run_eql_struct, he, Result.andThen_ok, Sem.run_pure]
  exact hK _ _ h

end Go.Proofs.Ytoicchlekcbbgaa
