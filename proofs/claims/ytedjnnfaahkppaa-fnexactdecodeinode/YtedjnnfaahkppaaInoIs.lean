/- (inode).isValid of the program. (made by tools/mkinois.py) -/
import Derived.Test.YtedjnnfaahkppaaInoMath
import Derived.Test.YtedjnnfaahkppaaHeld
import Derived.Test.YtedjnnfaahkppaaWeak
namespace Go.Proofs.Ytedjnnfaahkppaa
open Go.RowKit

set_option maxRecDepth 20000 in
set_option maxHeartbeats 4000000 in
theorem isValid_A (w : World) (i : Ino) (hd : i.dir.length = 8) (hk0 : i.kind ≠ 0) (hA : i.dir.all blkB = false) :
    Calls Try.prog 26 #[.agg (nC i).toArray] w fun e w' => e = .returned (.bool false) ∧ Chg 0 0 w w' := by
  have u43 := Try.underlying39
  have hq0 : ∀ w' : World, ArrC w' w.heap.size 39 (nC i) → w'.cell? ⟨w.heap.size, 0, none⟩ = some (.int .i64 i.kind) := fun w' h => h.cell 0 (nC_0 i)
  have hq1 : ∀ w' : World, ArrC w' w.heap.size 39 (nC i) → w'.cell? ⟨w.heap.size, 1, none⟩ = some (.int .i64 i.links) := fun w' h => h.cell 1 (nC_1 i)
  have hq2 : ∀ w' : World, ArrC w' w.heap.size 39 (nC i) → w'.cell? ⟨w.heap.size, 2, none⟩ = some (.int .i64 i.size) := fun w' h => h.cell 2 (nC_2 i)
  have hq11 : ∀ w' : World, ArrC w' w.heap.size 39 (nC i) → w'.cell? ⟨w.heap.size, 11, none⟩ = some (.int .i64 i.ind) := fun w' h => h.cell 11 (nC_i hd)
  have hNA : ∀ w' : World, ArrC w' w.heap.size 39 (nC i) → Calls Try.prog 33 #[.slice (some ⟨w.heap.size, 3, none⟩) 8 8] w' fun e w'' => e = .returned (.bool (i.dir.all blkB)) ∧ w'' = w' := fun w' h => by
    have := areBlocks_calls w' i.dir w.heap.size 3 8 (by omega) (fun j hj => h.cell (3 + j) (nC_d i hj))
    rw [hd] at this
    exact this
  have hNX := fun w' => isBlock_calls w' i.ind
  have hNS := fun w' => isWithin_calls w' i.size 0 2560
  have hNW := fun w' => withinSize_calls w' i hd
  have hNH := fun w' => hasHole_calls w' i hd
  have hEq := fun w' => eq_inodes w' hd (cutI_len hd)
  obtain ⟨D, hD⟩ : ∃ D, sameI i (cutI i) = D := ⟨_, rfl⟩
  rw [hD] at hEq
  have HEq : Hid (∀ w' : World, (Op.equalIn 10000 39 (.agg (nC i).toArray) (.agg (nC (cutI i)).toArray)).run Try.prog w' = .ok D w') := hEq
  have hics : (Try.prog.info? 39).map (·.size) = some (nC i).length := by rw [nC_len hd]; exact Try.sizeIno
  have e0 : (i.kind == 0) = false := by rw [beq_eq_false_iff_ne]; exact hk0
  have HS0 : Hid (ArrC (w.alloc (.cells (nC i).toArray 39)) w.heap.size 39 (nC i)) := ArrC.new w _ _
  have HC0 : Hid (Chg 0 0 w (w.alloc (.cells (nC i).toArray 39))) := Chg.alloc (Chg.refl 0 0 w) _
  rw [hA] at hNA
  clear hEq
  generalize nC i = cs at *
  generalize nC (cutI i) = ds at *
  have p0 := hq0 _ HS0.out
  generalize i.ind = x at *
  generalize i.size = s at *
  go_enter Try.func26, Try.ntmps26
  go_upto_region 3 with fail
  generalize w.alloc (.cells cs.toArray 39) = wa at *
  have HS : Hid (ArrC wa.drew w.heap.size 39 cs) := ArrC.chg HS0.out (Chg.drew (Chg.refl 0 0 wa)) (by omega)
  have HC : Hid (Chg 0 0 w wa.drew) := HC0.out.drew
  clear HS0 HC0
  refine held_region (fun w' : World => ArrC w' w.heap.size 39 cs) (by kernel_rfl) ?_
  generalize wa.drew = x1 at *
  refine held_take 0 (.pointer (some ⟨w.heap.size, 3, none⟩)) rfl (by kernel_rfl) (by kernel_rfl) (by kernel_rfl) (fun _ _ _ h => h) (.inl ⟨by kernel_rfl, fun w' hw' => by go_simp⟩) HS.out ?_
  go_simp
  refine held_take 1 (.slice (some ⟨w.heap.size, 3, none⟩) 8 8) rfl (by kernel_rfl) (by kernel_rfl) (by kernel_rfl) (fun _ _ _ h => h) (.inl ⟨by kernel_rfl, fun w' hw' => by go_simp⟩) HS.out ?_
  go_simp
  refine held_one 2 rfl rfl (by kernel_rfl) ?_
  refine wp_enter 33 #[.slice (some ⟨w.heap.size, 3, none⟩) 8 8] (by first | kernel_rfl | go_simp) (hNA _ HS.out) ?_
  rintro e x2 ⟨rfl, rfl⟩
  refine ⟨_, rfl, HS.out, ?_⟩
  go_simp
  refine held_take 3 (.bool true) rfl (by kernel_rfl) (by kernel_rfl) (by kernel_rfl) (fun _ _ _ h => h) (.inl ⟨by kernel_rfl, fun w' hw' => by go_simp⟩) HS.out ?_
  go_simp
  refine held_take 4 (.bool true) rfl (by kernel_rfl) (by kernel_rfl) (by kernel_rfl) (fun _ _ _ h => h) (.inl ⟨by kernel_rfl, fun w' hw' => by go_simp⟩) HS.out ?_
  go_simp
  refine held_take 5 undef rfl (by kernel_rfl) (by kernel_rfl) (by kernel_rfl) (fun _ _ _ h => h) (.inr ⟨by kernel_rfl, rfl⟩) HS.out ?_
  go_simp
  refine held_take 6 undef rfl (by kernel_rfl) (by kernel_rfl) (by kernel_rfl) (fun _ _ _ h => h) (.inr ⟨by kernel_rfl, rfl⟩) HS.out ?_
  go_simp
  refine held_take 7 undef rfl (by kernel_rfl) (by kernel_rfl) (by kernel_rfl) (fun _ _ _ h => h) (.inr ⟨by kernel_rfl, rfl⟩) HS.out ?_
  go_simp
  refine held_take 8 undef rfl (by kernel_rfl) (by kernel_rfl) (by kernel_rfl) (fun _ _ _ h => h) (.inr ⟨by kernel_rfl, rfl⟩) HS.out ?_
  go_simp
  refine held_take 9 (.bool true) rfl (by kernel_rfl) (by kernel_rfl) (by kernel_rfl) (fun _ _ _ h => h) (.inl ⟨by kernel_rfl, fun w' hw' => by go_simp⟩) HS.out ?_
  go_simp
  refine held_take 10 (.bool true) rfl (by kernel_rfl) (by kernel_rfl) (by kernel_rfl) (fun _ _ _ h => h) (.inl ⟨by kernel_rfl, fun w' hw' => by go_simp⟩) HS.out ?_
  go_simp
  refine held_take 11 undef rfl (by kernel_rfl) (by kernel_rfl) (by kernel_rfl) (fun _ _ _ h => h) (.inr ⟨by kernel_rfl, rfl⟩) HS.out ?_
  go_simp
  refine held_take 12 undef rfl (by kernel_rfl) (by kernel_rfl) (by kernel_rfl) (fun _ _ _ h => h) (.inr ⟨by kernel_rfl, rfl⟩) HS.out ?_
  go_simp
  refine held_take 13 undef rfl (by kernel_rfl) (by kernel_rfl) (by kernel_rfl) (fun _ _ _ h => h) (.inr ⟨by kernel_rfl, rfl⟩) HS.out ?_
  go_simp
  refine held_take 14 undef rfl (by kernel_rfl) (by kernel_rfl) (by kernel_rfl) (fun _ _ _ h => h) (.inr ⟨by kernel_rfl, rfl⟩) HS.out ?_
  go_simp
  refine held_take 15 (.bool true) rfl (by kernel_rfl) (by kernel_rfl) (by kernel_rfl) (fun _ _ _ h => h) (.inl ⟨by kernel_rfl, fun w' hw' => by go_simp⟩) HS.out ?_
  go_simp
  refine held_take 16 (.bool true) rfl (by kernel_rfl) (by kernel_rfl) (by kernel_rfl) (fun _ _ _ h => h) (.inl ⟨by kernel_rfl, fun w' hw' => by go_simp⟩) HS.out ?_
  go_simp
  refine held_take 17 undef rfl (by kernel_rfl) (by kernel_rfl) (by kernel_rfl) (fun _ _ _ h => h) (.inr ⟨by kernel_rfl, rfl⟩) HS.out ?_
  go_simp
  refine held_take 18 undef rfl (by kernel_rfl) (by kernel_rfl) (by kernel_rfl) (fun _ _ _ h => h) (.inr ⟨by kernel_rfl, rfl⟩) HS.out ?_
  go_simp
  refine held_take 19 undef rfl (by kernel_rfl) (by kernel_rfl) (by kernel_rfl) (fun _ _ _ h => h) (.inr ⟨by kernel_rfl, rfl⟩) HS.out ?_
  go_simp
  refine held_take 20 undef rfl (by kernel_rfl) (by kernel_rfl) (by kernel_rfl) (fun _ _ _ h => h) (.inr ⟨by kernel_rfl, rfl⟩) HS.out ?_
  go_simp
  refine held_take 21 (.bool true) rfl (by kernel_rfl) (by kernel_rfl) (by kernel_rfl) (fun _ _ _ h => h) (.inl ⟨by kernel_rfl, fun w' hw' => by go_simp⟩) HS.out ?_
  go_simp
  refine held_done (by kernel_rfl) (NoPanic.normal ?_)
  go_wp2
  go_ret
  exact ⟨rfl, HC.out⟩

set_option maxRecDepth 20000 in
set_option maxHeartbeats 4000000 in
theorem isValid_B (w : World) (i : Ino) (hd : i.dir.length = 8) (hk0 : i.kind ≠ 0) (hA : i.dir.all blkB = true) (hX : blkB i.ind = false) :
    Calls Try.prog 26 #[.agg (nC i).toArray] w fun e w' => e = .returned (.bool false) ∧ Chg 0 0 w w' := by
  have u43 := Try.underlying39
  have hq0 : ∀ w' : World, ArrC w' w.heap.size 39 (nC i) → w'.cell? ⟨w.heap.size, 0, none⟩ = some (.int .i64 i.kind) := fun w' h => h.cell 0 (nC_0 i)
  have hq1 : ∀ w' : World, ArrC w' w.heap.size 39 (nC i) → w'.cell? ⟨w.heap.size, 1, none⟩ = some (.int .i64 i.links) := fun w' h => h.cell 1 (nC_1 i)
  have hq2 : ∀ w' : World, ArrC w' w.heap.size 39 (nC i) → w'.cell? ⟨w.heap.size, 2, none⟩ = some (.int .i64 i.size) := fun w' h => h.cell 2 (nC_2 i)
  have hq11 : ∀ w' : World, ArrC w' w.heap.size 39 (nC i) → w'.cell? ⟨w.heap.size, 11, none⟩ = some (.int .i64 i.ind) := fun w' h => h.cell 11 (nC_i hd)
  have hNA : ∀ w' : World, ArrC w' w.heap.size 39 (nC i) → Calls Try.prog 33 #[.slice (some ⟨w.heap.size, 3, none⟩) 8 8] w' fun e w'' => e = .returned (.bool (i.dir.all blkB)) ∧ w'' = w' := fun w' h => by
    have := areBlocks_calls w' i.dir w.heap.size 3 8 (by omega) (fun j hj => h.cell (3 + j) (nC_d i hj))
    rw [hd] at this
    exact this
  have hNX := fun w' => isBlock_calls w' i.ind
  have hNS := fun w' => isWithin_calls w' i.size 0 2560
  have hNW := fun w' => withinSize_calls w' i hd
  have hNH := fun w' => hasHole_calls w' i hd
  have hEq := fun w' => eq_inodes w' hd (cutI_len hd)
  obtain ⟨D, hD⟩ : ∃ D, sameI i (cutI i) = D := ⟨_, rfl⟩
  rw [hD] at hEq
  have HEq : Hid (∀ w' : World, (Op.equalIn 10000 39 (.agg (nC i).toArray) (.agg (nC (cutI i)).toArray)).run Try.prog w' = .ok D w') := hEq
  have hics : (Try.prog.info? 39).map (·.size) = some (nC i).length := by rw [nC_len hd]; exact Try.sizeIno
  have e0 : (i.kind == 0) = false := by rw [beq_eq_false_iff_ne]; exact hk0
  have HS0 : Hid (ArrC (w.alloc (.cells (nC i).toArray 39)) w.heap.size 39 (nC i)) := ArrC.new w _ _
  have HC0 : Hid (Chg 0 0 w (w.alloc (.cells (nC i).toArray 39))) := Chg.alloc (Chg.refl 0 0 w) _
  rw [hA] at hNA
  rw [hX] at hNX
  clear hX
  clear hEq
  generalize nC i = cs at *
  generalize nC (cutI i) = ds at *
  have p0 := hq0 _ HS0.out
  generalize i.ind = x at *
  generalize i.size = s at *
  go_enter Try.func26, Try.ntmps26
  go_upto_region 3 with fail
  generalize w.alloc (.cells cs.toArray 39) = wa at *
  have HS : Hid (ArrC wa.drew w.heap.size 39 cs) := ArrC.chg HS0.out (Chg.drew (Chg.refl 0 0 wa)) (by omega)
  have HC : Hid (Chg 0 0 w wa.drew) := HC0.out.drew
  clear HS0 HC0
  refine held_region (fun w' : World => ArrC w' w.heap.size 39 cs) (by kernel_rfl) ?_
  generalize wa.drew = x1 at *
  refine held_take 0 (.pointer (some ⟨w.heap.size, 3, none⟩)) rfl (by kernel_rfl) (by kernel_rfl) (by kernel_rfl) (fun _ _ _ h => h) (.inl ⟨by kernel_rfl, fun w' hw' => by go_simp⟩) HS.out ?_
  go_simp
  refine held_take 1 (.slice (some ⟨w.heap.size, 3, none⟩) 8 8) rfl (by kernel_rfl) (by kernel_rfl) (by kernel_rfl) (fun _ _ _ h => h) (.inl ⟨by kernel_rfl, fun w' hw' => by go_simp⟩) HS.out ?_
  go_simp
  refine held_one 2 rfl rfl (by kernel_rfl) ?_
  refine wp_enter 33 #[.slice (some ⟨w.heap.size, 3, none⟩) 8 8] (by first | kernel_rfl | go_simp) (hNA _ HS.out) ?_
  rintro e x2 ⟨rfl, rfl⟩
  refine ⟨_, rfl, HS.out, ?_⟩
  go_simp
  refine held_take 3 (.bool false) rfl (by kernel_rfl) (by kernel_rfl) (by kernel_rfl) (fun _ _ _ h => h) (.inl ⟨by kernel_rfl, fun w' hw' => by go_simp⟩) HS.out ?_
  go_simp
  refine held_take 4 (.bool false) rfl (by kernel_rfl) (by kernel_rfl) (by kernel_rfl) (fun _ _ _ h => h) (.inl ⟨by kernel_rfl, fun w' hw' => by go_simp⟩) HS.out ?_
  go_simp
  refine held_take 5 (.pointer (some ⟨w.heap.size, 11, none⟩)) rfl (by kernel_rfl) (by kernel_rfl) (by kernel_rfl) (fun _ _ _ h => h) (.inl ⟨by kernel_rfl, fun w' hw' => by go_simp⟩) HS.out ?_
  go_simp
  refine held_take 6 (.int .i64 x) rfl (by kernel_rfl) (by kernel_rfl) (by kernel_rfl) (fun _ _ _ h => h) (.inl ⟨by kernel_rfl, fun w' hw' => by have q := hq11 w' hw'; go_simp⟩) HS.out ?_
  go_simp
  refine held_oneG 7 rfl (by kernel_rfl) (by kernel_rfl) ?_
  refine wp_enter 34 #[.int .i64 x] (by first | kernel_rfl | go_simp) (hNX _) ?_
  rintro e x2 ⟨rfl, rfl⟩
  refine ⟨_, rfl, HS.out, ?_⟩
  go_simp
  refine held_take 8 (.bool true) rfl (by kernel_rfl) (by kernel_rfl) (by kernel_rfl) (fun _ _ _ h => h) (.inl ⟨by kernel_rfl, fun w' hw' => by go_simp⟩) HS.out ?_
  go_simp
  refine held_take 9 (.bool true) rfl (by kernel_rfl) (by kernel_rfl) (by kernel_rfl) (fun _ _ _ h => h) (.inl ⟨by kernel_rfl, fun w' hw' => by go_simp⟩) HS.out ?_
  go_simp
  refine held_take 10 (.bool true) rfl (by kernel_rfl) (by kernel_rfl) (by kernel_rfl) (fun _ _ _ h => h) (.inl ⟨by kernel_rfl, fun w' hw' => by go_simp⟩) HS.out ?_
  go_simp
  refine held_take 11 undef rfl (by kernel_rfl) (by kernel_rfl) (by kernel_rfl) (fun _ _ _ h => h) (.inr ⟨by kernel_rfl, rfl⟩) HS.out ?_
  go_simp
  refine held_take 12 undef rfl (by kernel_rfl) (by kernel_rfl) (by kernel_rfl) (fun _ _ _ h => h) (.inr ⟨by kernel_rfl, rfl⟩) HS.out ?_
  go_simp
  refine held_take 13 undef rfl (by kernel_rfl) (by kernel_rfl) (by kernel_rfl) (fun _ _ _ h => h) (.inr ⟨by kernel_rfl, rfl⟩) HS.out ?_
  go_simp
  refine held_take 14 undef rfl (by kernel_rfl) (by kernel_rfl) (by kernel_rfl) (fun _ _ _ h => h) (.inr ⟨by kernel_rfl, rfl⟩) HS.out ?_
  go_simp
  refine held_take 15 (.bool true) rfl (by kernel_rfl) (by kernel_rfl) (by kernel_rfl) (fun _ _ _ h => h) (.inl ⟨by kernel_rfl, fun w' hw' => by go_simp⟩) HS.out ?_
  go_simp
  refine held_take 16 (.bool true) rfl (by kernel_rfl) (by kernel_rfl) (by kernel_rfl) (fun _ _ _ h => h) (.inl ⟨by kernel_rfl, fun w' hw' => by go_simp⟩) HS.out ?_
  go_simp
  refine held_take 17 undef rfl (by kernel_rfl) (by kernel_rfl) (by kernel_rfl) (fun _ _ _ h => h) (.inr ⟨by kernel_rfl, rfl⟩) HS.out ?_
  go_simp
  refine held_take 18 undef rfl (by kernel_rfl) (by kernel_rfl) (by kernel_rfl) (fun _ _ _ h => h) (.inr ⟨by kernel_rfl, rfl⟩) HS.out ?_
  go_simp
  refine held_take 19 undef rfl (by kernel_rfl) (by kernel_rfl) (by kernel_rfl) (fun _ _ _ h => h) (.inr ⟨by kernel_rfl, rfl⟩) HS.out ?_
  go_simp
  refine held_take 20 undef rfl (by kernel_rfl) (by kernel_rfl) (by kernel_rfl) (fun _ _ _ h => h) (.inr ⟨by kernel_rfl, rfl⟩) HS.out ?_
  go_simp
  refine held_take 21 (.bool true) rfl (by kernel_rfl) (by kernel_rfl) (by kernel_rfl) (fun _ _ _ h => h) (.inl ⟨by kernel_rfl, fun w' hw' => by go_simp⟩) HS.out ?_
  go_simp
  refine held_done (by kernel_rfl) (NoPanic.normal ?_)
  go_wp2
  go_ret
  exact ⟨rfl, HC.out⟩

set_option maxRecDepth 20000 in
set_option maxHeartbeats 4000000 in
theorem isValid_C (w : World) (i : Ino) (hd : i.dir.length = 8) (hk0 : i.kind ≠ 0) (hA : i.dir.all blkB = true) (hX : blkB i.ind = true) (hZ : szB2 i = false) :
    Calls Try.prog 26 #[.agg (nC i).toArray] w fun e w' => e = .returned (.bool false) ∧ Chg 0 0 w w' := by
  have u43 := Try.underlying39
  have hq0 : ∀ w' : World, ArrC w' w.heap.size 39 (nC i) → w'.cell? ⟨w.heap.size, 0, none⟩ = some (.int .i64 i.kind) := fun w' h => h.cell 0 (nC_0 i)
  have hq1 : ∀ w' : World, ArrC w' w.heap.size 39 (nC i) → w'.cell? ⟨w.heap.size, 1, none⟩ = some (.int .i64 i.links) := fun w' h => h.cell 1 (nC_1 i)
  have hq2 : ∀ w' : World, ArrC w' w.heap.size 39 (nC i) → w'.cell? ⟨w.heap.size, 2, none⟩ = some (.int .i64 i.size) := fun w' h => h.cell 2 (nC_2 i)
  have hq11 : ∀ w' : World, ArrC w' w.heap.size 39 (nC i) → w'.cell? ⟨w.heap.size, 11, none⟩ = some (.int .i64 i.ind) := fun w' h => h.cell 11 (nC_i hd)
  have hNA : ∀ w' : World, ArrC w' w.heap.size 39 (nC i) → Calls Try.prog 33 #[.slice (some ⟨w.heap.size, 3, none⟩) 8 8] w' fun e w'' => e = .returned (.bool (i.dir.all blkB)) ∧ w'' = w' := fun w' h => by
    have := areBlocks_calls w' i.dir w.heap.size 3 8 (by omega) (fun j hj => h.cell (3 + j) (nC_d i hj))
    rw [hd] at this
    exact this
  have hNX := fun w' => isBlock_calls w' i.ind
  have hNS := fun w' => isWithin_calls w' i.size 0 2560
  have hNW := fun w' => withinSize_calls w' i hd
  have hNH := fun w' => hasHole_calls w' i hd
  have hEq := fun w' => eq_inodes w' hd (cutI_len hd)
  obtain ⟨D, hD⟩ : ∃ D, sameI i (cutI i) = D := ⟨_, rfl⟩
  rw [hD] at hEq
  have HEq : Hid (∀ w' : World, (Op.equalIn 10000 39 (.agg (nC i).toArray) (.agg (nC (cutI i)).toArray)).run Try.prog w' = .ok D w') := hEq
  have hics : (Try.prog.info? 39).map (·.size) = some (nC i).length := by rw [nC_len hd]; exact Try.sizeIno
  have e0 : (i.kind == 0) = false := by rw [beq_eq_false_iff_ne]; exact hk0
  have HS0 : Hid (ArrC (w.alloc (.cells (nC i).toArray 39)) w.heap.size 39 (nC i)) := ArrC.new w _ _
  have HC0 : Hid (Chg 0 0 w (w.alloc (.cells (nC i).toArray 39))) := Chg.alloc (Chg.refl 0 0 w) _
  rw [hA] at hNA
  rw [hX] at hNX
  rw [show (decide (0 ≤ i.size) && decide (i.size ≤ 2560)) = false from hZ] at hNS
  clear hX hZ
  clear hEq
  generalize nC i = cs at *
  generalize nC (cutI i) = ds at *
  have p0 := hq0 _ HS0.out
  generalize i.ind = x at *
  generalize i.size = s at *
  go_enter Try.func26, Try.ntmps26
  go_upto_region 3 with fail
  generalize w.alloc (.cells cs.toArray 39) = wa at *
  have HS : Hid (ArrC wa.drew w.heap.size 39 cs) := ArrC.chg HS0.out (Chg.drew (Chg.refl 0 0 wa)) (by omega)
  have HC : Hid (Chg 0 0 w wa.drew) := HC0.out.drew
  clear HS0 HC0
  refine held_region (fun w' : World => ArrC w' w.heap.size 39 cs) (by kernel_rfl) ?_
  generalize wa.drew = x1 at *
  refine held_take 0 (.pointer (some ⟨w.heap.size, 3, none⟩)) rfl (by kernel_rfl) (by kernel_rfl) (by kernel_rfl) (fun _ _ _ h => h) (.inl ⟨by kernel_rfl, fun w' hw' => by go_simp⟩) HS.out ?_
  go_simp
  refine held_take 1 (.slice (some ⟨w.heap.size, 3, none⟩) 8 8) rfl (by kernel_rfl) (by kernel_rfl) (by kernel_rfl) (fun _ _ _ h => h) (.inl ⟨by kernel_rfl, fun w' hw' => by go_simp⟩) HS.out ?_
  go_simp
  refine held_one 2 rfl rfl (by kernel_rfl) ?_
  refine wp_enter 33 #[.slice (some ⟨w.heap.size, 3, none⟩) 8 8] (by first | kernel_rfl | go_simp) (hNA _ HS.out) ?_
  rintro e x2 ⟨rfl, rfl⟩
  refine ⟨_, rfl, HS.out, ?_⟩
  go_simp
  refine held_take 3 (.bool false) rfl (by kernel_rfl) (by kernel_rfl) (by kernel_rfl) (fun _ _ _ h => h) (.inl ⟨by kernel_rfl, fun w' hw' => by go_simp⟩) HS.out ?_
  go_simp
  refine held_take 4 (.bool false) rfl (by kernel_rfl) (by kernel_rfl) (by kernel_rfl) (fun _ _ _ h => h) (.inl ⟨by kernel_rfl, fun w' hw' => by go_simp⟩) HS.out ?_
  go_simp
  refine held_take 5 (.pointer (some ⟨w.heap.size, 11, none⟩)) rfl (by kernel_rfl) (by kernel_rfl) (by kernel_rfl) (fun _ _ _ h => h) (.inl ⟨by kernel_rfl, fun w' hw' => by go_simp⟩) HS.out ?_
  go_simp
  refine held_take 6 (.int .i64 x) rfl (by kernel_rfl) (by kernel_rfl) (by kernel_rfl) (fun _ _ _ h => h) (.inl ⟨by kernel_rfl, fun w' hw' => by have q := hq11 w' hw'; go_simp⟩) HS.out ?_
  go_simp
  refine held_oneG 7 rfl (by kernel_rfl) (by kernel_rfl) ?_
  refine wp_enter 34 #[.int .i64 x] (by first | kernel_rfl | go_simp) (hNX _) ?_
  rintro e x2 ⟨rfl, rfl⟩
  refine ⟨_, rfl, HS.out, ?_⟩
  go_simp
  refine held_take 8 (.bool false) rfl (by kernel_rfl) (by kernel_rfl) (by kernel_rfl) (fun _ _ _ h => h) (.inl ⟨by kernel_rfl, fun w' hw' => by go_simp⟩) HS.out ?_
  go_simp
  refine held_take 9 (.bool false) rfl (by kernel_rfl) (by kernel_rfl) (by kernel_rfl) (fun _ _ _ h => h) (.inl ⟨by kernel_rfl, fun w' hw' => by go_simp⟩) HS.out ?_
  go_simp
  refine held_take 10 (.bool false) rfl (by kernel_rfl) (by kernel_rfl) (by kernel_rfl) (fun _ _ _ h => h) (.inl ⟨by kernel_rfl, fun w' hw' => by go_simp⟩) HS.out ?_
  go_simp
  refine held_take 11 (.pointer (some ⟨w.heap.size, 2, none⟩)) rfl (by kernel_rfl) (by kernel_rfl) (by kernel_rfl) (fun _ _ _ h => h) (.inl ⟨by kernel_rfl, fun w' hw' => by go_simp⟩) HS.out ?_
  go_simp
  refine held_take 12 (.int .i64 s) rfl (by kernel_rfl) (by kernel_rfl) (by kernel_rfl) (fun _ _ _ h => h) (.inl ⟨by kernel_rfl, fun w' hw' => by have q := hq2 w' hw'; go_simp⟩) HS.out ?_
  go_simp
  refine held_oneG 13 rfl (by kernel_rfl) (by kernel_rfl) ?_
  refine wp_enter 35 #[.int .i64 s, .int .i64 0, .int .i64 2560] (by first | kernel_rfl | go_simp) (hNS _) ?_
  rintro e x2 ⟨rfl, rfl⟩
  refine ⟨_, rfl, HS.out, ?_⟩
  go_simp
  refine held_take 14 (.bool true) rfl (by kernel_rfl) (by kernel_rfl) (by kernel_rfl) (fun _ _ _ h => h) (.inl ⟨by kernel_rfl, fun w' hw' => by go_simp⟩) HS.out ?_
  go_simp
  refine held_take 15 (.bool true) rfl (by kernel_rfl) (by kernel_rfl) (by kernel_rfl) (fun _ _ _ h => h) (.inl ⟨by kernel_rfl, fun w' hw' => by go_simp⟩) HS.out ?_
  go_simp
  refine held_take 16 (.bool true) rfl (by kernel_rfl) (by kernel_rfl) (by kernel_rfl) (fun _ _ _ h => h) (.inl ⟨by kernel_rfl, fun w' hw' => by go_simp⟩) HS.out ?_
  go_simp
  refine held_take 17 undef rfl (by kernel_rfl) (by kernel_rfl) (by kernel_rfl) (fun _ _ _ h => h) (.inr ⟨by kernel_rfl, rfl⟩) HS.out ?_
  go_simp
  refine held_take 18 undef rfl (by kernel_rfl) (by kernel_rfl) (by kernel_rfl) (fun _ _ _ h => h) (.inr ⟨by kernel_rfl, rfl⟩) HS.out ?_
  go_simp
  refine held_take 19 undef rfl (by kernel_rfl) (by kernel_rfl) (by kernel_rfl) (fun _ _ _ h => h) (.inr ⟨by kernel_rfl, rfl⟩) HS.out ?_
  go_simp
  refine held_take 20 undef rfl (by kernel_rfl) (by kernel_rfl) (by kernel_rfl) (fun _ _ _ h => h) (.inr ⟨by kernel_rfl, rfl⟩) HS.out ?_
  go_simp
  refine held_take 21 (.bool true) rfl (by kernel_rfl) (by kernel_rfl) (by kernel_rfl) (fun _ _ _ h => h) (.inl ⟨by kernel_rfl, fun w' hw' => by go_simp⟩) HS.out ?_
  go_simp
  refine held_done (by kernel_rfl) (NoPanic.normal ?_)
  go_wp2
  go_ret
  exact ⟨rfl, HC.out⟩

set_option maxRecDepth 20000 in
set_option maxHeartbeats 4000000 in
theorem isValid_D0 (w : World) (i : Ino) (hd : i.dir.length = 8) (hk0 : i.kind ≠ 0) (hA : i.dir.all blkB = true) (hX : blkB i.ind = true) (hZ : szB2 i = true) (hS : sameI i (cutI i) = false) :
    Calls Try.prog 26 #[.agg (nC i).toArray] w fun e w' => e = .returned (.bool false) ∧ Chg 0 0 w w' := by
  have u43 := Try.underlying39
  have hq0 : ∀ w' : World, ArrC w' w.heap.size 39 (nC i) → w'.cell? ⟨w.heap.size, 0, none⟩ = some (.int .i64 i.kind) := fun w' h => h.cell 0 (nC_0 i)
  have hq1 : ∀ w' : World, ArrC w' w.heap.size 39 (nC i) → w'.cell? ⟨w.heap.size, 1, none⟩ = some (.int .i64 i.links) := fun w' h => h.cell 1 (nC_1 i)
  have hq2 : ∀ w' : World, ArrC w' w.heap.size 39 (nC i) → w'.cell? ⟨w.heap.size, 2, none⟩ = some (.int .i64 i.size) := fun w' h => h.cell 2 (nC_2 i)
  have hq11 : ∀ w' : World, ArrC w' w.heap.size 39 (nC i) → w'.cell? ⟨w.heap.size, 11, none⟩ = some (.int .i64 i.ind) := fun w' h => h.cell 11 (nC_i hd)
  have hNA : ∀ w' : World, ArrC w' w.heap.size 39 (nC i) → Calls Try.prog 33 #[.slice (some ⟨w.heap.size, 3, none⟩) 8 8] w' fun e w'' => e = .returned (.bool (i.dir.all blkB)) ∧ w'' = w' := fun w' h => by
    have := areBlocks_calls w' i.dir w.heap.size 3 8 (by omega) (fun j hj => h.cell (3 + j) (nC_d i hj))
    rw [hd] at this
    exact this
  have hNX := fun w' => isBlock_calls w' i.ind
  have hNS := fun w' => isWithin_calls w' i.size 0 2560
  have hNW := fun w' => withinSize_calls w' i hd
  have hNH := fun w' => hasHole_calls w' i hd
  have hEq := fun w' => eq_inodes w' hd (cutI_len hd)
  obtain ⟨D, hD⟩ : ∃ D, sameI i (cutI i) = D := ⟨_, rfl⟩
  rw [hD] at hEq
  have HEq : Hid (∀ w' : World, (Op.equalIn 10000 39 (.agg (nC i).toArray) (.agg (nC (cutI i)).toArray)).run Try.prog w' = .ok D w') := hEq
  have hics : (Try.prog.info? 39).map (·.size) = some (nC i).length := by rw [nC_len hd]; exact Try.sizeIno
  have e0 : (i.kind == 0) = false := by rw [beq_eq_false_iff_ne]; exact hk0
  have HS0 : Hid (ArrC (w.alloc (.cells (nC i).toArray 39)) w.heap.size 39 (nC i)) := ArrC.new w _ _
  have HC0 : Hid (Chg 0 0 w (w.alloc (.cells (nC i).toArray 39))) := Chg.alloc (Chg.refl 0 0 w) _
  rw [hA] at hNA
  rw [hX] at hNX
  rw [show (decide (0 ≤ i.size) && decide (i.size ≤ 2560)) = true from hZ] at hNS
  rw [hS] at hD
  subst hD
  have hs0 : 0 ≤ i.size ∧ i.size ≤ 2560 := by unfold szB2 at hZ; simpa using hZ
  clear hX hZ hS
  clear hEq
  generalize nC i = cs at *
  generalize nC (cutI i) = ds at *
  have p0 := hq0 _ HS0.out
  generalize i.ind = x at *
  generalize i.size = s at *
  go_enter Try.func26, Try.ntmps26
  go_upto_region 3 with fail
  generalize w.alloc (.cells cs.toArray 39) = wa at *
  have HS : Hid (ArrC wa.drew w.heap.size 39 cs) := ArrC.chg HS0.out (Chg.drew (Chg.refl 0 0 wa)) (by omega)
  have HC : Hid (Chg 0 0 w wa.drew) := HC0.out.drew
  clear HS0 HC0
  refine held_region (fun w' : World => ArrC w' w.heap.size 39 cs) (by kernel_rfl) ?_
  generalize wa.drew = x1 at *
  refine held_take 0 (.pointer (some ⟨w.heap.size, 3, none⟩)) rfl (by kernel_rfl) (by kernel_rfl) (by kernel_rfl) (fun _ _ _ h => h) (.inl ⟨by kernel_rfl, fun w' hw' => by go_simp⟩) HS.out ?_
  go_simp
  refine held_take 1 (.slice (some ⟨w.heap.size, 3, none⟩) 8 8) rfl (by kernel_rfl) (by kernel_rfl) (by kernel_rfl) (fun _ _ _ h => h) (.inl ⟨by kernel_rfl, fun w' hw' => by go_simp⟩) HS.out ?_
  go_simp
  refine held_one 2 rfl rfl (by kernel_rfl) ?_
  refine wp_enter 33 #[.slice (some ⟨w.heap.size, 3, none⟩) 8 8] (by first | kernel_rfl | go_simp) (hNA _ HS.out) ?_
  rintro e x2 ⟨rfl, rfl⟩
  refine ⟨_, rfl, HS.out, ?_⟩
  go_simp
  refine held_take 3 (.bool false) rfl (by kernel_rfl) (by kernel_rfl) (by kernel_rfl) (fun _ _ _ h => h) (.inl ⟨by kernel_rfl, fun w' hw' => by go_simp⟩) HS.out ?_
  go_simp
  refine held_take 4 (.bool false) rfl (by kernel_rfl) (by kernel_rfl) (by kernel_rfl) (fun _ _ _ h => h) (.inl ⟨by kernel_rfl, fun w' hw' => by go_simp⟩) HS.out ?_
  go_simp
  refine held_take 5 (.pointer (some ⟨w.heap.size, 11, none⟩)) rfl (by kernel_rfl) (by kernel_rfl) (by kernel_rfl) (fun _ _ _ h => h) (.inl ⟨by kernel_rfl, fun w' hw' => by go_simp⟩) HS.out ?_
  go_simp
  refine held_take 6 (.int .i64 x) rfl (by kernel_rfl) (by kernel_rfl) (by kernel_rfl) (fun _ _ _ h => h) (.inl ⟨by kernel_rfl, fun w' hw' => by have q := hq11 w' hw'; go_simp⟩) HS.out ?_
  go_simp
  refine held_oneG 7 rfl (by kernel_rfl) (by kernel_rfl) ?_
  refine wp_enter 34 #[.int .i64 x] (by first | kernel_rfl | go_simp) (hNX _) ?_
  rintro e x2 ⟨rfl, rfl⟩
  refine ⟨_, rfl, HS.out, ?_⟩
  go_simp
  refine held_take 8 (.bool false) rfl (by kernel_rfl) (by kernel_rfl) (by kernel_rfl) (fun _ _ _ h => h) (.inl ⟨by kernel_rfl, fun w' hw' => by go_simp⟩) HS.out ?_
  go_simp
  refine held_take 9 (.bool false) rfl (by kernel_rfl) (by kernel_rfl) (by kernel_rfl) (fun _ _ _ h => h) (.inl ⟨by kernel_rfl, fun w' hw' => by go_simp⟩) HS.out ?_
  go_simp
  refine held_take 10 (.bool false) rfl (by kernel_rfl) (by kernel_rfl) (by kernel_rfl) (fun _ _ _ h => h) (.inl ⟨by kernel_rfl, fun w' hw' => by go_simp⟩) HS.out ?_
  go_simp
  refine held_take 11 (.pointer (some ⟨w.heap.size, 2, none⟩)) rfl (by kernel_rfl) (by kernel_rfl) (by kernel_rfl) (fun _ _ _ h => h) (.inl ⟨by kernel_rfl, fun w' hw' => by go_simp⟩) HS.out ?_
  go_simp
  refine held_take 12 (.int .i64 s) rfl (by kernel_rfl) (by kernel_rfl) (by kernel_rfl) (fun _ _ _ h => h) (.inl ⟨by kernel_rfl, fun w' hw' => by have q := hq2 w' hw'; go_simp⟩) HS.out ?_
  go_simp
  refine held_oneG 13 rfl (by kernel_rfl) (by kernel_rfl) ?_
  refine wp_enter 35 #[.int .i64 s, .int .i64 0, .int .i64 2560] (by first | kernel_rfl | go_simp) (hNS _) ?_
  rintro e x2 ⟨rfl, rfl⟩
  refine ⟨_, rfl, HS.out, ?_⟩
  go_simp
  refine held_take 14 (.bool false) rfl (by kernel_rfl) (by kernel_rfl) (by kernel_rfl) (fun _ _ _ h => h) (.inl ⟨by kernel_rfl, fun w' hw' => by go_simp⟩) HS.out ?_
  go_simp
  refine held_take 15 (.bool false) rfl (by kernel_rfl) (by kernel_rfl) (by kernel_rfl) (fun _ _ _ h => h) (.inl ⟨by kernel_rfl, fun w' hw' => by go_simp⟩) HS.out ?_
  go_simp
  refine held_take 16 (.bool false) rfl (by kernel_rfl) (by kernel_rfl) (by kernel_rfl) (fun _ _ _ h => h) (.inl ⟨by kernel_rfl, fun w' hw' => by go_simp⟩) HS.out ?_
  go_simp
  refine held_take 17 (.agg cs.toArray) rfl (by kernel_rfl) (by kernel_rfl) (by kernel_rfl) (fun _ _ _ h => h) (yieldsIf_load_mid (by kernel_rfl) 39 (.tmp 1) rfl w.heap.size 0 rfl cs _ (fun w' hw' => ArrC.range hw') u43 rfl hics) HS.out ?_
  go_simp
  refine held_take 18 (.agg cs.toArray) rfl (by kernel_rfl) (by kernel_rfl) (by kernel_rfl) (fun _ _ _ h => h) (yieldsIf_load_mid (by kernel_rfl) 39 (.tmp 1) rfl w.heap.size 0 rfl cs _ (fun w' hw' => ArrC.range hw') u43 rfl hics) HS.out ?_
  go_simp
  refine held_oneG 19 rfl (by kernel_rfl) (by kernel_rfl) ?_
  refine wp_enter 36 #[.agg cs.toArray] (by first | kernel_rfl | go_simp) (hNW _) ?_
  rintro e x3 ⟨rfl, c3⟩
  have HS3 : Hid (ArrC x3 w.heap.size 39 cs) := ArrC.chg HS.out c3 (by omega)
  have HC3 : Hid (Chg 0 0 w x3) := HC.out.trans c3
  refine ⟨_, rfl, HS3.out, ?_⟩
  clear c3 HS HC
  have HS := HS3
  have HC := HC3
  clear HS3 HC3
  go_simp
  refine held_take 20 (.bool (!false)) rfl (by kernel_rfl) (by kernel_rfl) (by kernel_rfl) (fun _ _ _ h => h) (.inl ⟨by kernel_rfl, fun w' hw' => exec_neq_ino (.tmp 26) (.tmp 28) rfl rfl rfl HEq.out w'⟩) HS.out ?_
  go_simp
  refine held_take 21 (.bool (!false)) rfl (by kernel_rfl) (by kernel_rfl) (by kernel_rfl) (fun _ _ _ h => h) (.inl ⟨by kernel_rfl, fun w' hw' => by go_simp⟩) HS.out ?_
  go_simp
  refine held_done (by kernel_rfl) (NoPanic.normal ?_)
  go_wp2
  go_ret
  exact ⟨rfl, HC.out⟩

end Go.Proofs.Ytedjnnfaahkppaa
