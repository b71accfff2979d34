/- withinSize, hasHole of the program. -/
import Derived.Test.YtoicchlekcbbgaaInoC
import Derived.Test.YtoicchlekcbbgaaRowZ
namespace Go.Proofs.Ytoicchlekcbbgaa
open Go.RowKit

/-- The first k numbers, without those behind the end. -/
def cutTo (s : Int) (ds : List Int) : Nat → List Int
  | 0 => ds
  | k + 1 => if s ≤ (k : Int) * 64 then (cutTo s ds k).set k 0 else cutTo s ds k
theorem cutTo_len (s : Int) (ds : List Int) : ∀ k, (cutTo s ds k).length = ds.length
  | 0 => rfl
  | k + 1 => by unfold cutTo; split <;> simp [cutTo_len s ds k]
def cutI (i : Ino) : Ino := ⟨i.kind, i.links, i.size, cutTo i.size i.dir 8, if i.size ≤ 512 then 0 else i.ind⟩
theorem cutI_len {i : Ino} (h : i.dir.length = 8) : (cutI i).dir.length = 8 := by unfold cutI; rw [cutTo_len]; exact h

set_option maxRecDepth 20000 in
set_option maxHeartbeats 2000000 in
theorem withinSize_calls (w : World) (i : Ino) (hd : i.dir.length = 8) :
    Calls Try.prog 18 #[.agg (nC i).toArray] w fun e w' => e = .returned (.agg (nC (cutI i)).toArray) ∧ Chg 0 0 w w' := by
  have u43 := Try.underlying36
  have HD : Hid (i.dir.length = 8) := hd
  clear hd
  go_enter Try.func18, Try.ntmps18
  go_wp2
  simp only [Z12_eq]
  have hA0 : ArrC ((w.alloc (.cells (nC i).toArray 36)).alloc (.cells Z12.toArray 36)) w.heap.size 36 (nC i) := (alloc2 w _ _).2.1
  have hA1 : ArrC ((w.alloc (.cells (nC i).toArray 36)).alloc (.cells Z12.toArray 36)) (w.heap.size + 1) 36 Z12 := (alloc2 w _ _).2.2
  have hC : Chg 0 0 w ((w.alloc (.cells (nC i).toArray 36)).alloc (.cells Z12.toArray 36)) := (Chg.alloc (Chg.refl 0 0 w) _).alloc _
  generalize ((w.alloc (.cells (nC i).toArray 36)).alloc (.cells Z12.toArray 36)) = w1 at *
  go_loopw [4] (fun x wr => ∃ k : Nat, k ≤ 8 ∧ x = .int .i64 k ∧ ArrC wr w.heap.size 36 (nC { i with dir := cutTo i.size i.dir k }) ∧ ArrC wr (w.heap.size + 1) 36 Z12 ∧ Chg 0 0 w wr) (fun x _ => 8 - (intOf x).toNat)
  case atStart => exact ⟨0, Nat.zero_le _, rfl, hA0, hA1, hC⟩
  case round =>
    clear hA0 hA1 hC
    obtain ⟨k, hk, rfl, hA, hZ, hC⟩ := hrel
    by_cases hlt : k < 8
    · have hi : (k : Int) < 8 := by omega
      have c2 := hA.cell 2 (nC_2 _)
      have q1 : IntKind.i64.wrap ((k : Int) * 64) = (k : Int) * 64 := by rw [IntKind.wrap_i64]; omega
      have hcl : (cutTo i.size i.dir k).length = 8 := by rw [cutTo_len]; exact HD.out
      have cd := hA.cell (3 + k) (nC_d { i with dir := cutTo i.size i.dir k } (j := k) (by show k < (cutTo i.size i.dir k).length; omega))
      have fd := hA.frozen (3 + k)
      have HP := hA.put (3 + k) (.int .i64 0)
      rw [nC_setd (i := { i with dir := cutTo i.size i.dir k }) hcl hlt] at HP
      have HP' : Hid (ArrC (wr.setCell ⟨w.heap.size, 3 + k, none⟩ (.int .i64 0)) w.heap.size 36 (nC { i with dir := (cutTo i.size i.dir k).set k 0 })) := HP
      have HZ : Hid (ArrC (wr.setCell ⟨w.heap.size, 3 + k, none⟩ (.int .i64 0)) (w.heap.size + 1) 36 Z12) := hZ.chg (Chg.setCell (Chg.refl w.heap.size (w.heap.size + 1) wr) (p := ⟨w.heap.size, 3 + k, none⟩) (Or.inl ⟨Nat.le_refl _, Nat.lt_succ_self _⟩) _) (by omega)
      have HC : Hid (Chg 0 0 w (wr.setCell ⟨w.heap.size, 3 + k, none⟩ (.int .i64 0))) := hC.setCell (Or.inr (Nat.le_refl _)) _
      have HA : Hid (ArrC wr w.heap.size 36 (nC { i with dir := cutTo i.size i.dir k })) := hA
      have HZ0 : Hid (ArrC wr (w.heap.size + 1) 36 Z12) := hZ
      have HC0 : Hid (Chg 0 0 w wr) := hC
      have H1 : Hid (i.size ≤ (k : Int) * 64 → cutTo i.size i.dir (k + 1) = (cutTo i.size i.dir k).set k 0) := fun h => if_pos h
      have H2 : Hid (¬ i.size ≤ (k : Int) * 64 → cutTo i.size i.dir (k + 1) = cutTo i.size i.dir k) := fun h => if_neg h
      have c2' : wr.cell? ⟨w.heap.size, 2, none⟩ = some (.int .i64 i.size) := c2
      clear c2 HP hA hZ hC hcl
      by_cases hs : i.size ≤ (k : Int) * 64
      · have H3 : Hid (cutTo i.size i.dir (k + 1) = (cutTo i.size i.dir k).set k 0) := H1.out hs
        clear H1 H2
        go_wp2
        go_roundw
        case rel => exact ⟨k + 1, by omega, by go_num, by rw [H3.out]; exact HP'.out, HZ.out, HC.out⟩
        case measure => simp [intOf]; omega
      · have H3 : Hid (cutTo i.size i.dir (k + 1) = cutTo i.size i.dir k) := H2.out hs
        clear H1 H2
        go_wp2
        go_roundw
        case rel => exact ⟨k + 1, by omega, by go_num, by rw [H3.out]; exact HA.out, HZ0.out, HC0.out⟩
        case measure => simp [intOf]; omega
    · obtain rfl : k = 8 := by omega
      have hcl : (cutTo i.size i.dir 8).length = 8 := by rw [cutTo_len]; exact HD.out
      have c2 : wr.cell? ⟨w.heap.size, 2, none⟩ = some (.int .i64 i.size) := hA.cell 2 (nC_2 _)
      have c11 := hA.cell 11 (nC_i (i := { i with dir := cutTo i.size i.dir 8 }) hcl)
      have f11 := hA.frozen 11
      have c11' : wr.cell? ⟨w.heap.size, 11, none⟩ = some (.int .i64 i.ind) := c11
      clear c11
      have hP := hA.put 11 (.int .i64 0)
      rw [nC_seti (i := { i with dir := cutTo i.size i.dir 8 }) hcl] at hP
      by_cases hs : i.size ≤ 512
      · have hE : cutI i = ⟨i.kind, i.links, i.size, cutTo i.size i.dir 8, 0⟩ := by unfold cutI; rw [if_pos hs]
        have HP : Hid (ArrC (wr.setCell ⟨w.heap.size, 11, none⟩ (.int .i64 0)) w.heap.size 36 (nC (cutI i))) := by show ArrC _ _ _ _; rw [hE]; exact hP
        have HZ : Hid (ArrC (wr.setCell ⟨w.heap.size, 11, none⟩ (.int .i64 0)) (w.heap.size + 1) 36 Z12) := hZ.chg (Chg.setCell (Chg.refl w.heap.size (w.heap.size + 1) wr) (p := ⟨w.heap.size, 11, none⟩) (Or.inl ⟨Nat.le_refl _, Nat.lt_succ_self _⟩) _) (by omega)
        have HC : Hid (Chg 0 0 w (wr.setCell ⟨w.heap.size, 11, none⟩ (.int .i64 0))) := hC.setCell (Or.inr (Nat.le_refl _)) _
        have hln : (nC (cutI i)).length = 12 := nC_len (cutI_len HD.out)
        have HV : Hid (∀ v ∈ nC (cutI i), v.oneCell' = true) := nC_one _
        have HR : Hid ((wr.setCell ⟨w.heap.size, 11, none⟩ (.int .i64 0)).rangeAt w.heap.size 0 (nC (cutI i))) := HP.out.range
        have hics : (Try.prog.info? 36).map (·.size) = some (nC (cutI i)).length := by rw [hln]; exact Try.sizeIno
        have Hln : Hid ((nC (cutI i)).length = 12) := hln
        clear hE hP hA hZ hC hln
        generalize hcs : nC (cutI i) = cs at *
        have Hcs : Hid (nC (cutI i) = cs) := hcs
        clear hcs
        go_wp2_with (first
          | (refine wpList_load_mid rfl 36 (.tmp 1) rfl w.heap.size 0 rfl cs _ HR.out u43 rfl hics ?_)
          | (refine wpList_store_row rfl 36 (.tmp 2) (.tmp 20) rfl rfl (w.heap.size + 1) rfl cs Z12 36 rfl HZ.out (by rw [Z12_length]; exact Hln.out) hics HV.out ?_; intro wg hbg hcg))
        have HCg : Hid (Chg 0 0 w wg) := HC.out.step hcg (by omega)
        have hl1 : (loadVar 36 ⟨w.heap.size + 1, 0, none⟩).run Try.prog wg = .ok (.agg cs.toArray) wg := run_loadVar_mid _ _ _ _ cs _ (row_rng hbg) u43 rfl hics
        go_wp2
        exact bodyPost_ret (v := .agg cs.toArray) (results_one Try.results18 rfl hl1) rfl ⟨by rw [Hcs.out], HCg.out⟩
      · have hE : cutI i = ⟨i.kind, i.links, i.size, cutTo i.size i.dir 8, i.ind⟩ := by unfold cutI; rw [if_neg hs]
        have HP : Hid (ArrC wr w.heap.size 36 (nC (cutI i))) := by show ArrC _ _ _ _; rw [hE]; exact hA
        have HZ : Hid (ArrC wr (w.heap.size + 1) 36 Z12) := hZ
        have HC : Hid (Chg 0 0 w wr) := hC
        have hln : (nC (cutI i)).length = 12 := nC_len (cutI_len HD.out)
        have HV : Hid (∀ v ∈ nC (cutI i), v.oneCell' = true) := nC_one _
        have HR : Hid (wr.rangeAt w.heap.size 0 (nC (cutI i))) := HP.out.range
        have hics : (Try.prog.info? 36).map (·.size) = some (nC (cutI i)).length := by rw [hln]; exact Try.sizeIno
        have Hln : Hid ((nC (cutI i)).length = 12) := hln
        clear hE hP hA hZ hC hln
        generalize hcs : nC (cutI i) = cs at *
        have Hcs : Hid (nC (cutI i) = cs) := hcs
        clear hcs
        go_wp2_with (first
          | (refine wpList_load_mid rfl 36 (.tmp 1) rfl w.heap.size 0 rfl cs _ HR.out u43 rfl hics ?_)
          | (refine wpList_store_row rfl 36 (.tmp 2) (.tmp 20) rfl rfl (w.heap.size + 1) rfl cs Z12 36 rfl HZ.out (by rw [Z12_length]; exact Hln.out) hics HV.out ?_; intro wg hbg hcg))
        have HCg : Hid (Chg 0 0 w wg) := HC.out.step hcg (by omega)
        have hl1 : (loadVar 36 ⟨w.heap.size + 1, 0, none⟩).run Try.prog wg = .ok (.agg cs.toArray) wg := run_loadVar_mid _ _ _ _ cs _ (row_rng hbg) u43 rfl hics
        go_wp2
        exact bodyPost_ret (v := .agg cs.toArray) (results_one Try.results18 rfl hl1) rfl ⟨by rw [Hcs.out], HCg.out⟩

/-- Whether the record leaves out one of the first k blocks, ahead of the end. -/
abbrev holeTo (s : Int) (ds : List Int) (k : Nat) : Prop := ∃ j, j < k ∧ ds.getD j 0 = 0 ∧ (j : Int) * 64 < s
def holeB (i : Ino) : Bool := decide (holeTo i.size i.dir 8) || (decide (i.ind = 0) && decide (512 < i.size))

set_option maxRecDepth 20000 in
set_option maxHeartbeats 2000000 in
theorem hasHole_calls (w : World) (i : Ino) (hd : i.dir.length = 8) :
    Calls Try.prog 19 #[.agg (nC i).toArray] w fun e w' => e = .returned (.bool (holeB i)) ∧ Chg 0 0 w w' := by
  have hA0 := ArrC.new w 36 (nC i)
  have HC : Hid (Chg 0 0 w (w.alloc (.cells (nC i).toArray 36))) := Chg.alloc (Chg.refl 0 0 w) _
  have c2 := hA0.cell 2 (nC_2 i)
  have c11 := hA0.cell 11 (nC_i hd)
  have HR : Hid ((w.alloc (.cells (nC i).toArray 36)).rangeAt w.heap.size 3 (i.dir.map (Value.int .i64))) := nC_range hA0
  have hsz : (Try.prog.info? 34).map (·.size) = some (i.dir.map (Value.int .i64)).length := by rw [List.length_map, hd]; exact Try.size8
  have hrow : ∀ j, j < 8 → (i.dir.map (Value.int .i64))[j]? = some (.int .i64 (i.dir.getD j 0)) := fun j hj => by simp [List.getD_eq_getElem?_getD, show j < i.dir.length by omega]
  have hB : holeB i = (decide (holeTo i.size i.dir 8) || (decide (i.ind = 0) && decide (512 < i.size))) := rfl
  have HB : Hid (holeB i = (decide (holeTo i.size i.dir 8) || (decide (i.ind = 0) && decide (512 < i.size)))) := hB
  generalize i.dir.map (Value.int .i64) = row at *
  clear hA0 hB
  go_enter Try.func19, Try.ntmps19
  go_wp2_with (refine wpList_load_mid rfl 34 (.tmp 5) rfl w.heap.size 3 rfl row _ HR.out Try.underlying34 rfl hsz ?_)
  generalize w.alloc (.cells (nC i).toArray 36) = w1 at *
  go_loopw [7] (fun x wr => wr = w1 ∧ ∃ k : Nat, k ≤ 8 ∧ x = .int .i64 k ∧ ¬ holeTo i.size i.dir k) (fun x _ => 8 - (intOf x).toNat)
  case atStart => exact ⟨rfl, 0, Nat.zero_le _, rfl, fun ⟨j, hj, _⟩ => absurd hj (Nat.not_lt_zero _)⟩
  case round =>
    obtain ⟨rfl, k, hk, rfl, hno⟩ := hrel
    by_cases hlt : k < 8
    · have hi : (k : Int) < 8 := by omega
      have hix := run_idx Try.underlying34 Try.underlying2 (by kernel_rfl) hlt (hrow k hlt) wr
      have q1 : IntKind.i64.wrap ((k : Int) * 64) = (k : Int) * 64 := by rw [IntKind.wrap_i64]; omega
      have Hst : Hid (¬ (i.dir.getD k 0 = 0 ∧ (k : Int) * 64 < i.size) → ¬ holeTo i.size i.dir (k + 1)) := fun h ⟨j, hj, h1, h2⟩ => by
        rcases Nat.lt_or_eq_of_le (Nat.le_of_lt_succ hj) with h3 | h3
        · exact hno ⟨j, h3, h1, h2⟩
        · subst h3; exact h ⟨h1, h2⟩
      have Hye : Hid (i.dir.getD k 0 = 0 ∧ (k : Int) * 64 < i.size → holeB i = true) := fun h => by
        rw [HB.out, decide_eq_true (show holeTo i.size i.dir 8 from ⟨k, hlt, h.1, h.2⟩)]; rfl
      clear hno hrow
      generalize i.dir.getD k 0 = x at *
      by_cases hx : x = 0
      · have e1 : (x == 0) = true := by rw [beq_iff_eq]; exact hx
        by_cases hs : (k : Int) * 64 < i.size
        · have HY : Hid (holeB i = true) := Hye.out ⟨hx, hs⟩
          clear Hst Hye hx
          go_wp2
          go_ret
          exact ⟨by rw [HY.out]; rfl, HC.out⟩
        · have HN : Hid (¬ holeTo i.size i.dir (k + 1)) := Hst.out (fun h => hs h.2)
          clear Hst Hye hx
          go_wp2
          go_roundw
          case rel => exact ⟨trivial, k + 1, by omega, by go_num, HN.out⟩
          case measure => simp [intOf]; omega
      · have e1 : (x == 0) = false := by rw [beq_eq_false_iff_ne]; exact hx
        have HN : Hid (¬ holeTo i.size i.dir (k + 1)) := Hst.out (fun h => hx h.1)
        clear Hst Hye hx
        go_wp2
        go_roundw
        case rel => exact ⟨trivial, k + 1, by omega, by go_num, HN.out⟩
        case measure => simp [intOf]; omega
    · obtain rfl : k = 8 := by omega
      have hB2 : holeB i = (decide (i.ind = 0) && decide (512 < i.size)) := by rw [HB.out, decide_eq_false hno]; rfl
      clear hno hrow HB
      by_cases hx : i.ind = 0
      · have e1 : (i.ind == 0) = true := by rw [beq_iff_eq]; exact hx
        rw [decide_eq_true hx, Bool.true_and] at hB2
        have HB2 : Hid (holeB i = decide (512 < i.size)) := hB2
        clear hx hB2
        go_wp2
        go_ret
        exact ⟨by rw [HB2.out]; rfl, HC.out⟩
      · have e1 : (i.ind == 0) = false := by rw [beq_eq_false_iff_ne]; exact hx
        rw [decide_eq_false hx, Bool.false_and] at hB2
        have HB2 : Hid (holeB i = false) := hB2
        clear hx hB2
        go_wp2
        go_ret
        exact ⟨by rw [HB2.out]; rfl, HC.out⟩

end Go.Proofs.Ytoicchlekcbbgaa
