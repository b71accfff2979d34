/- Several short texts in one: InoCut, InoEq, IsWithin, BlkImpl. -/
import Derived.Test.YtedjnnfaahkppaaRowZ
import Derived.Stop.BytesEq
import Derived.Test.YtedjnnfaahkppaaMem
import Derived.Test.YtedjnnfaahkppaaRows
namespace Go.Proofs.Ytedjnnfaahkppaa
open Go.RowKit

/-- The first k numbers, without those behind the end. -/
def cutTo (s : Int) (ds : List Int) : Nat → List Int
  | 0 => ds
  | k + 1 => if s ≤ (k : Int) * 64 then (cutTo s ds k).set k 0 else cutTo s ds k
theorem cutTo_len (s : Int) (ds : List Int) : ∀ k, (cutTo s ds k).length = ds.length
  | 0 => rfl
  | k + 1 => by unfold cutTo; split <;> simp [cutTo_len s ds k]
def cutI (i : Ino) : Ino := ⟨i.kind, i.links, i.size, cutTo i.size i.dir 8, if i.size ≤ 512 then 0 else i.ind⟩
theorem cutI_len {i : Ino} (h : i.dir.length = 8) : (cutI i).dir.length = 8 := by unfold cutI; rw [cutTo_len]; exact h

set_option maxRecDepth 20000 in
set_option maxHeartbeats 2000000 in
theorem withinSize_calls (w : World) (i : Ino) (hd : i.dir.length = 8) :
    Calls Try.prog 36 #[.agg (nC i).toArray] w fun e w' => e = .returned (.agg (nC (cutI i)).toArray) ∧ Chg 0 0 w w' := by
  have u43 := Try.underlying39
  have HD : Hid (i.dir.length = 8) := hd
  clear hd
  go_enter Try.func36, Try.ntmps36
  go_wp2
  simp only [Z12_eq]
  have hA0 : ArrC ((w.alloc (.cells (nC i).toArray 39)).alloc (.cells Z12.toArray 39)) w.heap.size 39 (nC i) := (alloc2 w _ _).2.1
  have hA1 : ArrC ((w.alloc (.cells (nC i).toArray 39)).alloc (.cells Z12.toArray 39)) (w.heap.size + 1) 39 Z12 := (alloc2 w _ _).2.2
  have hC : Chg 0 0 w ((w.alloc (.cells (nC i).toArray 39)).alloc (.cells Z12.toArray 39)) := (Chg.alloc (Chg.refl 0 0 w) _).alloc _
  generalize ((w.alloc (.cells (nC i).toArray 39)).alloc (.cells Z12.toArray 39)) = w1 at *
  go_loopw [4] (fun x wr => ∃ k : Nat, k ≤ 8 ∧ x = .int .i64 k ∧ ArrC wr w.heap.size 39 (nC { i with dir := cutTo i.size i.dir k }) ∧ ArrC wr (w.heap.size + 1) 39 Z12 ∧ Chg 0 0 w wr) (fun x _ => 8 - (intOf x).toNat)
  case atStart => exact ⟨0, Nat.zero_le _, rfl, hA0, hA1, hC⟩
  case round =>
    clear hA0 hA1 hC
    obtain ⟨k, hk, rfl, hA, hZ, hC⟩ := hrel
    by_cases hlt : k < 8
    · have hi : (k : Int) < 8 := by omega
      have c2 := hA.cell 2 (nC_2 _)
      have q1 : IntKind.i64.wrap ((k : Int) * 64) = (k : Int) * 64 := by rw [IntKind.wrap_i64]; omega
      have hcl : (cutTo i.size i.dir k).length = 8 := by rw [cutTo_len]; exact HD.out
      have cd := hA.cell (3 + k) (nC_d { i with dir := cutTo i.size i.dir k } (j := k) (by show k < (cutTo i.size i.dir k).length; omega))
      have fd := hA.frozen (3 + k)
      have HP := hA.put (3 + k) (.int .i64 0)
      rw [nC_setd (i := { i with dir := cutTo i.size i.dir k }) hcl hlt] at HP
      have HP' : Hid (ArrC (wr.setCell ⟨w.heap.size, 3 + k, none⟩ (.int .i64 0)) w.heap.size 39 (nC { i with dir := (cutTo i.size i.dir k).set k 0 })) := HP
      have HZ : Hid (ArrC (wr.setCell ⟨w.heap.size, 3 + k, none⟩ (.int .i64 0)) (w.heap.size + 1) 39 Z12) := hZ.chg (Chg.setCell (Chg.refl w.heap.size (w.heap.size + 1) wr) (p := ⟨w.heap.size, 3 + k, none⟩) (Or.inl ⟨Nat.le_refl _, Nat.lt_succ_self _⟩) _) (by omega)
      have HC : Hid (Chg 0 0 w (wr.setCell ⟨w.heap.size, 3 + k, none⟩ (.int .i64 0))) := hC.setCell (Or.inr (Nat.le_refl _)) _
      have HA : Hid (ArrC wr w.heap.size 39 (nC { i with dir := cutTo i.size i.dir k })) := hA
      have HZ0 : Hid (ArrC wr (w.heap.size + 1) 39 Z12) := hZ
      have HC0 : Hid (Chg 0 0 w wr) := hC
      have H1 : Hid (i.size ≤ (k : Int) * 64 → cutTo i.size i.dir (k + 1) = (cutTo i.size i.dir k).set k 0) := fun h => if_pos h
      have H2 : Hid (¬ i.size ≤ (k : Int) * 64 → cutTo i.size i.dir (k + 1) = cutTo i.size i.dir k) := fun h => if_neg h
      have c2' : wr.cell? ⟨w.heap.size, 2, none⟩ = some (.int .i64 i.size) := c2
      clear c2 HP hA hZ hC hcl
      by_cases hs : i.size ≤ (k : Int) * 64
      · have H3 : Hid (cutTo i.size i.dir (k + 1) = (cutTo i.size i.dir k).set k 0) := H1.out hs
        clear H1 H2
        go_wp2
        go_roundw
        case rel => exact ⟨k + 1, by omega, by go_num, by rw [H3.out]; exact HP'.out, HZ.out, HC.out⟩
        case measure => simp [intOf]; omega
      · have H3 : Hid (cutTo i.size i.dir (k + 1) = cutTo i.size i.dir k) := H2.out hs
        clear H1 H2
        go_wp2
        go_roundw
        case rel => exact ⟨k + 1, by omega, by go_num, by rw [H3.out]; exact HA.out, HZ0.out, HC0.out⟩
        case measure => simp [intOf]; omega
    · obtain rfl : k = 8 := by omega
      have hcl : (cutTo i.size i.dir 8).length = 8 := by rw [cutTo_len]; exact HD.out
      have c2 : wr.cell? ⟨w.heap.size, 2, none⟩ = some (.int .i64 i.size) := hA.cell 2 (nC_2 _)
      have c11 := hA.cell 11 (nC_i (i := { i with dir := cutTo i.size i.dir 8 }) hcl)
      have f11 := hA.frozen 11
      have c11' : wr.cell? ⟨w.heap.size, 11, none⟩ = some (.int .i64 i.ind) := c11
      clear c11
      have hP := hA.put 11 (.int .i64 0)
      rw [nC_seti (i := { i with dir := cutTo i.size i.dir 8 }) hcl] at hP
      by_cases hs : i.size ≤ 512
      · have hE : cutI i = ⟨i.kind, i.links, i.size, cutTo i.size i.dir 8, 0⟩ := by unfold cutI; rw [if_pos hs]
        have HP : Hid (ArrC (wr.setCell ⟨w.heap.size, 11, none⟩ (.int .i64 0)) w.heap.size 39 (nC (cutI i))) := by show ArrC _ _ _ _; rw [hE]; exact hP
        have HZ : Hid (ArrC (wr.setCell ⟨w.heap.size, 11, none⟩ (.int .i64 0)) (w.heap.size + 1) 39 Z12) := hZ.chg (Chg.setCell (Chg.refl w.heap.size (w.heap.size + 1) wr) (p := ⟨w.heap.size, 11, none⟩) (Or.inl ⟨Nat.le_refl _, Nat.lt_succ_self _⟩) _) (by omega)
        have HC : Hid (Chg 0 0 w (wr.setCell ⟨w.heap.size, 11, none⟩ (.int .i64 0))) := hC.setCell (Or.inr (Nat.le_refl _)) _
        have hln : (nC (cutI i)).length = 12 := nC_len (cutI_len HD.out)
        have HV : Hid (∀ v ∈ nC (cutI i), v.oneCell' = true) := nC_one _
        have HR : Hid ((wr.setCell ⟨w.heap.size, 11, none⟩ (.int .i64 0)).rangeAt w.heap.size 0 (nC (cutI i))) := HP.out.range
        have hics : (Try.prog.info? 39).map (·.size) = some (nC (cutI i)).length := by rw [hln]; exact Try.sizeIno
        have Hln : Hid ((nC (cutI i)).length = 12) := hln
        clear hE hP hA hZ hC hln
        generalize hcs : nC (cutI i) = cs at *
        have Hcs : Hid (nC (cutI i) = cs) := hcs
        clear hcs
        go_wp2_with (first
          | (refine wpList_load_mid rfl 39 (.tmp 1) rfl w.heap.size 0 rfl cs _ HR.out u43 rfl hics ?_)
          | (refine wpList_store_row rfl 39 (.tmp 2) (.tmp 20) rfl rfl (w.heap.size + 1) rfl cs Z12 39 rfl HZ.out (by rw [Z12_length]; exact Hln.out) hics HV.out ?_; intro wg hbg hcg))
        have HCg : Hid (Chg 0 0 w wg) := HC.out.step hcg (by omega)
        have hl1 : (loadVar 39 ⟨w.heap.size + 1, 0, none⟩).run Try.prog wg = .ok (.agg cs.toArray) wg := run_loadVar_mid _ _ _ _ cs _ (row_rng hbg) u43 rfl hics
        go_wp2
        exact bodyPost_ret (v := .agg cs.toArray) (results_one Try.results36 rfl hl1) rfl ⟨by rw [Hcs.out], HCg.out⟩
      · have hE : cutI i = ⟨i.kind, i.links, i.size, cutTo i.size i.dir 8, i.ind⟩ := by unfold cutI; rw [if_neg hs]
        have HP : Hid (ArrC wr w.heap.size 39 (nC (cutI i))) := by show ArrC _ _ _ _; rw [hE]; exact hA
        have HZ : Hid (ArrC wr (w.heap.size + 1) 39 Z12) := hZ
        have HC : Hid (Chg 0 0 w wr) := hC
        have hln : (nC (cutI i)).length = 12 := nC_len (cutI_len HD.out)
        have HV : Hid (∀ v ∈ nC (cutI i), v.oneCell' = true) := nC_one _
        have HR : Hid (wr.rangeAt w.heap.size 0 (nC (cutI i))) := HP.out.range
        have hics : (Try.prog.info? 39).map (·.size) = some (nC (cutI i)).length := by rw [hln]; exact Try.sizeIno
        have Hln : Hid ((nC (cutI i)).length = 12) := hln
        clear hE hP hA hZ hC hln
        generalize hcs : nC (cutI i) = cs at *
        have Hcs : Hid (nC (cutI i) = cs) := hcs
        clear hcs
        go_wp2_with (first
          | (refine wpList_load_mid rfl 39 (.tmp 1) rfl w.heap.size 0 rfl cs _ HR.out u43 rfl hics ?_)
          | (refine wpList_store_row rfl 39 (.tmp 2) (.tmp 20) rfl rfl (w.heap.size + 1) rfl cs Z12 39 rfl HZ.out (by rw [Z12_length]; exact Hln.out) hics HV.out ?_; intro wg hbg hcg))
        have HCg : Hid (Chg 0 0 w wg) := HC.out.step hcg (by omega)
        have hl1 : (loadVar 39 ⟨w.heap.size + 1, 0, none⟩).run Try.prog wg = .ok (.agg cs.toArray) wg := run_loadVar_mid _ _ _ _ cs _ (row_rng hbg) u43 rfl hics
        go_wp2
        exact bodyPost_ret (v := .agg cs.toArray) (results_one Try.results36 rfl hl1) rfl ⟨by rw [Hcs.out], HCg.out⟩

/-- Whether the record leaves out one of the first k blocks, ahead of the end. -/
abbrev holeTo (s : Int) (ds : List Int) (k : Nat) : Prop := ∃ j, j < k ∧ ds.getD j 0 = 0 ∧ (j : Int) * 64 < s
def holeB (i : Ino) : Bool := decide (holeTo i.size i.dir 8) || (decide (i.ind = 0) && decide (512 < i.size))

set_option maxRecDepth 20000 in
set_option maxHeartbeats 2000000 in
theorem hasHole_calls (w : World) (i : Ino) (hd : i.dir.length = 8) :
    Calls Try.prog 37 #[.agg (nC i).toArray] w fun e w' => e = .returned (.bool (holeB i)) ∧ Chg 0 0 w w' := by
  have hA0 := ArrC.new w 39 (nC i)
  have HC : Hid (Chg 0 0 w (w.alloc (.cells (nC i).toArray 39))) := Chg.alloc (Chg.refl 0 0 w) _
  have c2 := hA0.cell 2 (nC_2 i)
  have c11 := hA0.cell 11 (nC_i hd)
  have HR : Hid ((w.alloc (.cells (nC i).toArray 39)).rangeAt w.heap.size 3 (i.dir.map (Value.int .i64))) := nC_range hA0
  have hsz : (Try.prog.info? 37).map (·.size) = some (i.dir.map (Value.int .i64)).length := by rw [List.length_map, hd]; exact Try.size8
  have hrow : ∀ j, j < 8 → (i.dir.map (Value.int .i64))[j]? = some (.int .i64 (i.dir.getD j 0)) := fun j hj => by simp [List.getD_eq_getElem?_getD, show j < i.dir.length by omega]
  have hB : holeB i = (decide (holeTo i.size i.dir 8) || (decide (i.ind = 0) && decide (512 < i.size))) := rfl
  have HB : Hid (holeB i = (decide (holeTo i.size i.dir 8) || (decide (i.ind = 0) && decide (512 < i.size)))) := hB
  generalize i.dir.map (Value.int .i64) = row at *
  clear hA0 hB
  go_enter Try.func37, Try.ntmps37
  go_wp2_with (refine wpList_load_mid rfl 37 (.tmp 5) rfl w.heap.size 3 rfl row _ HR.out Try.underlying37 rfl hsz ?_)
  generalize w.alloc (.cells (nC i).toArray 39) = w1 at *
  go_loopw [7] (fun x wr => wr = w1 ∧ ∃ k : Nat, k ≤ 8 ∧ x = .int .i64 k ∧ ¬ holeTo i.size i.dir k) (fun x _ => 8 - (intOf x).toNat)
  case atStart => exact ⟨rfl, 0, Nat.zero_le _, rfl, fun ⟨j, hj, _⟩ => absurd hj (Nat.not_lt_zero _)⟩
  case round =>
    obtain ⟨rfl, k, hk, rfl, hno⟩ := hrel
    by_cases hlt : k < 8
    · have hi : (k : Int) < 8 := by omega
      have hix := run_idx Try.underlying37 Try.underlying2 (by kernel_rfl) hlt (hrow k hlt) wr
      have q1 : IntKind.i64.wrap ((k : Int) * 64) = (k : Int) * 64 := by rw [IntKind.wrap_i64]; omega
      have Hst : Hid (¬ (i.dir.getD k 0 = 0 ∧ (k : Int) * 64 < i.size) → ¬ holeTo i.size i.dir (k + 1)) := fun h ⟨j, hj, h1, h2⟩ => by
        rcases Nat.lt_or_eq_of_le (Nat.le_of_lt_succ hj) with h3 | h3
        · exact hno ⟨j, h3, h1, h2⟩
        · subst h3; exact h ⟨h1, h2⟩
      have Hye : Hid (i.dir.getD k 0 = 0 ∧ (k : Int) * 64 < i.size → holeB i = true) := fun h => by
        rw [HB.out, decide_eq_true (show holeTo i.size i.dir 8 from ⟨k, hlt, h.1, h.2⟩)]; rfl
      clear hno hrow
      generalize i.dir.getD k 0 = x at *
      by_cases hx : x = 0
      · have e1 : (x == 0) = true := by rw [beq_iff_eq]; exact hx
        by_cases hs : (k : Int) * 64 < i.size
        · have HY : Hid (holeB i = true) := Hye.out ⟨hx, hs⟩
          clear Hst Hye hx
          go_wp2
          go_ret
          exact ⟨by rw [HY.out]; rfl, HC.out⟩
        · have HN : Hid (¬ holeTo i.size i.dir (k + 1)) := Hst.out (fun h => hs h.2)
          clear Hst Hye hx
          go_wp2
          go_roundw
          case rel => exact ⟨trivial, k + 1, by omega, by go_num, HN.out⟩
          case measure => simp [intOf]; omega
      · have e1 : (x == 0) = false := by rw [beq_eq_false_iff_ne]; exact hx
        have HN : Hid (¬ holeTo i.size i.dir (k + 1)) := Hst.out (fun h => hx h.1)
        clear Hst Hye hx
        go_wp2
        go_roundw
        case rel => exact ⟨trivial, k + 1, by omega, by go_num, HN.out⟩
        case measure => simp [intOf]; omega
    · obtain rfl : k = 8 := by omega
      have hB2 : holeB i = (decide (i.ind = 0) && decide (512 < i.size)) := by rw [HB.out, decide_eq_false hno]; rfl
      clear hno hrow HB
      by_cases hx : i.ind = 0
      · have e1 : (i.ind == 0) = true := by rw [beq_iff_eq]; exact hx
        rw [decide_eq_true hx, Bool.true_and] at hB2
        have HB2 : Hid (holeB i = decide (512 < i.size)) := hB2
        clear hx hB2
        go_wp2
        go_ret
        exact ⟨by rw [HB2.out]; rfl, HC.out⟩
      · have e1 : (i.ind == 0) = false := by rw [beq_eq_false_iff_ne]; exact hx
        rw [decide_eq_false hx, Bool.false_and] at hB2
        have HB2 : Hid (holeB i = false) := hB2
        clear hx hB2
        go_wp2
        go_ret
        exact ⟨by rw [HB2.out]; rfl, HC.out⟩

end Go.Proofs.Ytedjnnfaahkppaa

namespace Go.Proofs.Ytedjnnfaahkppaa
open Go.RowKit

theorem eqIn_eight (w : World) (d : Nat) {xs ys : List Int} (hx : xs.length = 8) (hy : ys.length = 8) :
    (Op.equalIn (d + 2) 37 (.agg (xs.map (Value.int .i64)).toArray) (.agg (ys.map (Value.int .i64)).toArray)).run Try.prog w = .ok (decide (xs = ys)) w := by
  have hsz : ∀ w, (sizeOf 2).run Try.prog w = .ok 1 w := fun w => by kernel_rfl
  have hp : ∀ (zs : List Int) (i : Nat) (w : World), i < zs.length → (part 2 (zs.map (Value.int .i64)).toArray (i * 1)).run Try.prog w = .ok (.int .i64 (zs.getD i 0)) w := fun zs i w hi => by
    simp [part, isAgg, run_underlying Try.underlying2, List.getD_eq_getElem?_getD, hi]
  have he : ∀ (a b : Int) (w : World), (Op.equalIn (d + 1) 2 (.int .i64 a) (.int .i64 b)).run Try.prog w = .ok (a == b) w := fun a b w => by
    rw [Op.equalIn]
    simp [run_underlying Try.underlying2]
  have hr : decide (xs = ys) = (List.range' 0 8 1).all fun i => xs.getD i 0 == ys.getD i 0 := by
    obtain ⟨a0, a1, a2, a3, a4, a5, a6, a7, rfl⟩ := eightI hx
    obtain ⟨b0, b1, b2, b3, b4, b5, b6, b7, rfl⟩ := eightI hy
    rw [show List.range' 0 8 1 = [0, 1, 2, 3, 4, 5, 6, 7] from rfl, Bool.eq_iff_iff]
    simp
  rw [hr, Op.equalIn]
  simp only [Sem.run_bind, run_underlying Try.underlying37, Result.andThen_ok, hsz, Std.Legacy.Range.forIn_eq_forIn_range', Std.Legacy.Range.size, Nat.sub_zero, Nat.add_sub_cancel, Nat.div_one]
  have hl : ∀ i ∈ List.range' 0 8 1, i < 8 := fun i hi => by simpa using (List.mem_range'_1.1 hi).2
  clear hr
  generalize List.range' 0 8 1 = l at hl ⊢
  induction l with
  | nil => simp
  | cons i l ih =>
    have hi : i < 8 := hl i (by simp)
    simp only [List.forIn_cons, Sem.run_bind, hp xs i _ (by omega), hp ys i _ (by omega), he, Result.andThen_ok, List.all_cons]
    cases xs.getD i 0 == ys.getD i 0
    · simp
    · simp only [Bool.not_true, Bool.false_eq_true, if_false, Sem.run_pure, Result.andThen_ok, Bool.true_and]
      exact ih (fun j hj => hl j (by simp [hj]))

theorem nC_part {i : Ino} (h : i.dir.length = 8) (w : World) : (part 37 (nC i).toArray 3).run Try.prog w = .ok (.agg (i.dir.map (Value.int .i64)).toArray) w := by
  obtain ⟨a0, a1, a2, a3, a4, a5, a6, a7, e⟩ := eightI h
  have hsz : (sizeOf 37).run Try.prog w = .ok 8 w := by kernel_rfl
  simp only [part, isAgg, Sem.run_bind, run_underlying Try.underlying37, Result.andThen_ok, Sem.run_pure, if_true, hsz]
  unfold nC
  rw [e]
  rfl
theorem nC_pint {i : Ino} {j : Nat} {v : Int} (h : (nC i)[j]? = some (.int .i64 v)) (w : World) : (part 2 (nC i).toArray j).run Try.prog w = .ok (.int .i64 v) w := by
  simp [part, isAgg, run_underlying Try.underlying2, h]

/-- Two inodes are the same. -/
def sameI (i k : Ino) : Bool := decide (i.kind = k.kind) && decide (i.links = k.links) && decide (i.size = k.size) && decide (i.dir = k.dir) && decide (i.ind = k.ind)

theorem eq_inodes (w : World) {i k : Ino} (hi : i.dir.length = 8) (hk : k.dir.length = 8) :
    (Op.equalIn 10000 39 (.agg (nC i).toArray) (.agg (nC k).toArray)).run Try.prog w = .ok (sameI i k) w := by
  have he : ∀ (a b : Int) (w : World), (Op.equalIn 9999 2 (.int .i64 a) (.int .i64 b)).run Try.prog w = .ok (a == b) w := fun a b w => by
    rw [Op.equalIn]
    simp [run_underlying Try.underlying2]
  have h8 : ∀ w, (Op.equalIn 9999 37 (.agg (i.dir.map (Value.int .i64)).toArray) (.agg (k.dir.map (Value.int .i64)).toArray)).run Try.prog w = .ok (decide (i.dir = k.dir)) w := fun w => eqIn_eight w 9997 hi hk
  have a0 := fun w => nC_pint (nC_0 i) w
  have a1 := fun w => nC_pint (nC_1 i) w
  have a2 := fun w => nC_pint (nC_2 i) w
  have a3 := fun w => nC_part hi w
  have a4 := fun w => nC_pint (nC_i hi) w
  have b0 := fun w => nC_pint (nC_0 k) w
  have b1 := fun w => nC_pint (nC_1 k) w
  have b2 := fun w => nC_pint (nC_2 k) w
  have b3 := fun w => nC_part hk w
  have b4 := fun w => nC_pint (nC_i hk) w
  rw [run_equalIn_struct w 9999 39 _ _ (by kernel_rfl) (by kernel_rfl)]
  have hf : (Try.prog.fieldsOf 39).toList.map (fun f => (f.name == "_", f.type, f.offset)) = [(false, 2, 0), (false, 2, 1), (false, 2, 2), (false, 37, 3), (false, 2, 11)] := by kernel_rfl
  generalize (Try.prog.fieldsOf 39).toList = fs at hf
  have hl : fs.length = 5 := by have := congrArg List.length hf; simpa using this
  obtain ⟨f0, f1, f2, f3, f4, rfl⟩ : ∃ f0 f1 f2 f3 f4, fs = [f0, f1, f2, f3, f4] := by
    match fs, hl with
    | [f0, f1, f2, f3, f4], _ => exact ⟨f0, f1, f2, f3, f4, rfl⟩
  simp only [List.map_cons, List.map_nil, List.cons.injEq, Prod.mk.injEq, and_true, beq_eq_false_iff_ne] at hf
  obtain ⟨⟨n0, t0, o0⟩, ⟨n1, t1, o1⟩, ⟨n2, t2, o2⟩, ⟨n3, t3, o3⟩, ⟨n4, t4, o4⟩⟩ := hf
  unfold sameI
  simp only [Op.eqFields, n0, n1, n2, n3, n4, t0, t1, t2, t3, t4, o0, o1, o2, o3, o4, ne_eq, not_false_eq_true, if_true]
  generalize (nC i).toArray = A at *
  generalize (nC k).toArray = B at *
  by_cases e0 : i.kind = k.kind
  · by_cases e1 : i.links = k.links
    · by_cases e2 : i.size = k.size
      · generalize decide (i.dir = k.dir) = D at *
        cases D
        · simp [e0, e1, e2, he, h8, a0, a1, a2, a3, b0, b1, b2, b3]
        · by_cases e4 : i.ind = k.ind
          · simp [e0, e1, e2, e4, he, h8, a0, a1, a2, a3, a4, b0, b1, b2, b3, b4]
          · simp [e0, e1, e2, e4, he, h8, a0, a1, a2, a3, a4, b0, b1, b2, b3, b4]
      · simp [e0, e1, e2, he, a0, a1, a2, b0, b1, b2]
    · simp [e0, e1, he, a0, a1, b0, b1]
  · simp [e0, he, a0, b0]

theorem exec_neq_ino {o : Oper} {a : Act} {X Y : Array Value} {D : Bool} (x y : Operand) (ho : o.op = .binOp .neq 39 x y 39) (hx : a.eval x = .agg X) (hy : a.eval y = .agg Y)
    (he : ∀ w, (Op.equalIn 10000 39 (.agg X) (.agg Y)).run Try.prog w = .ok D w) (w : World) : (execOp a.eval o).run Try.prog w = .ok (.value (.bool (!D))) w := by
  have hm : Try.prog.eqGuardType Try.prog.depth 39 = false := by kernel_rfl
  unfold execOp
  simp only [ho, hx, hy, Sem.run_bind, run_eqGuard_agg _ _ _ _ _ _ _ hm, run_neq_struct, he, Result.andThen_ok, Sem.run_pure]
theorem wpList_eql_ino {ops : Array Oper} {rest : List Oper} {o : Oper} {a : Act} {w : World} {Q : Exit → Act → World → Prop} (hgd : o.guard = none) {X Y : Array Value} {D : Bool} (x y : Operand) (ho : o.op = .binOp .eql 39 x y 39) (hx : a.eval x = .agg X) (hy : a.eval y = .agg Y)
    (he : ∀ w, (Op.equalIn 10000 39 (.agg X) (.agg Y)).run Try.prog w = .ok D w) (h : wpList Try.prog ops Q rest (a.put o.dst (.bool D)) w) : wpList Try.prog ops Q (o :: rest) a w := by
  have hm : Try.prog.eqGuardType Try.prog.depth 39 = false := by kernel_rfl
  refine wpList_plain hgd fun K hK => ?_
  unfold Oper.wp execOp
  simp only [ho, hx, hy, Sem.run_bind, run_eqGuard_agg _ _ _ _ _ _ _ hm, run_eql_struct, he, Result.andThen_ok, Sem.run_pure]
  exact hK _ _ h

end Go.Proofs.Ytedjnnfaahkppaa

namespace Go.Proofs.Ytedjnnfaahkppaa
open Go.RowKit

set_option maxHeartbeats 400000 in
theorem isWithin_calls (w : World) (v l m : Int) : Calls Try.prog 35 #[.int .i64 v, .int .i64 l, .int .i64 m] w fun e w' => e = .returned (.bool (decide (l ≤ v) && decide (v ≤ m))) ∧ w' = w := by
  by_cases h1 : l ≤ v
  · by_cases h2 : v ≤ m
    · rw [decide_eq_true h1, decide_eq_true h2]
      go_enter Try.func35, Try.ntmps35
      go_wp2
      go_ret
      exact ⟨rfl, rfl⟩
    · rw [decide_eq_true h1, decide_eq_false h2]
      go_enter Try.func35, Try.ntmps35
      go_wp2
      go_ret
      exact ⟨rfl, rfl⟩
  · rw [decide_eq_false h1]
    go_enter Try.func35, Try.ntmps35
    go_wp2
    go_ret
    exact ⟨rfl, rfl⟩

end Go.Proofs.Ytedjnnfaahkppaa

namespace Go.Proofs.Ytedjnnfaahkppaa
open Go.RowKit

/-- A number that a block of some disk has. -/
def blkB (x : Int) : Bool := decide (0 ≤ x) && decide (x ≤ 2047)
theorem blkB_iff {x : Int} : blkB x = true ↔ 0 ≤ x ∧ x < 2048 := by unfold blkB; simp; omega

set_option maxHeartbeats 400000 in
theorem isBlock_calls (w : World) (x : Int) : Calls Try.prog 34 #[.int .i64 x] w fun e w' => e = .returned (.bool (blkB x)) ∧ w' = w := by
  have hN := isWithin_calls w x 0 2047
  go_enter Try.func34, Try.ntmps34
  go_wp2_with (go_at_call 35; refine hN.mono ?_; rintro e w' ⟨rfl, rfl⟩)
  go_ret
  exact ⟨rfl, rfl⟩

set_option maxRecDepth 20000 in
set_option maxHeartbeats 1000000 in
theorem areBlocks_calls (w : World) (xs : List Int) (b off cap : Nat) (hl : xs.length ≤ 1048576)
    (h1 : ∀ i, i < xs.length → w.cell? ⟨b, off + i, none⟩ = some (.int .i64 (xs.getD i 0))) :
    Calls Try.prog 33 #[.slice (some ⟨b, off, none⟩) xs.length cap] w fun e w' => e = .returned (.bool (xs.all blkB)) ∧ w' = w := by
  go_enter Try.func33, Try.ntmps33
  go_wp2
  go_loopw [7] (fun x wr => wr = w ∧ ∃ k : Nat, k ≤ xs.length ∧ x = .int .i64 k ∧ (xs.take k).all blkB = true) (fun x _ => xs.length - (intOf x).toNat)
  case atStart => exact ⟨rfl, 0, Nat.zero_le _, rfl, rfl⟩
  case round =>
    obtain ⟨rfl, k, hk, rfl, hin⟩ := hrel
    by_cases hlt : k < xs.length
    · have c1 := h1 k hlt
      have hx : xs.getD k 0 = xs[k] := by simp [List.getD_eq_getElem?_getD, hlt]
      have hi : (k : Int) < (xs.length : Int) := by omega
      have hN := isBlock_calls wr (xs.getD k 0)
      have hs : (xs.take (k + 1)).all blkB = blkB (xs.getD k 0) := by
        rw [List.take_succ_eq_append_getElem hlt, List.all_append, hin, hx]; simp
      have HS : Hid ((xs.take (k + 1)).all blkB = blkB (xs.getD k 0)) := hs
      have HF : Hid (blkB (xs.getD k 0) = false → xs.all blkB = false) := fun h => by
        rw [List.all_eq_false]
        exact ⟨xs[k], List.getElem_mem hlt, by rw [← hx, h]; simp⟩
      clear hs hx hin h1
      generalize xs.getD k 0 = x at *
      cases hb : blkB x with
      | true =>
        rw [hb] at hN HS
        clear HF
        go_wp2_with (go_at_call 34; refine hN.mono ?_; rintro e w' ⟨rfl, rfl⟩)
        go_roundw
        case rel => exact ⟨trivial, k + 1, by omega, by go_num, HS.out⟩
        case measure => simp [intOf]; omega
      | false =>
        rw [hb] at hN
        have HF2 : Hid (xs.all blkB = false) := HF.out hb
        clear HF HS
        go_wp2_with (go_at_call 34; refine hN.mono ?_; rintro e w' ⟨rfl, rfl⟩)
        go_ret
        exact ⟨by rw [HF2.out]; rfl, rfl⟩
    · obtain rfl : k = xs.length := by omega
      rw [List.take_length] at hin
      have HF2 : Hid (xs.all blkB = true) := hin
      clear hin h1
      go_wp2
      go_ret
      exact ⟨by rw [HF2.out]; rfl, rfl⟩

end Go.Proofs.Ytedjnnfaahkppaa
