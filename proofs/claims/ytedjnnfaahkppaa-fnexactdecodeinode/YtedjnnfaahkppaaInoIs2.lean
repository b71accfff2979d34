/- (inode).isValid of the program: the kinds. (made by tools/mkinois.py) -/
import Derived.Test.YtedjnnfaahkppaaInoIs
namespace Go.Proofs.Ytedjnnfaahkppaa
open Go.RowKit

set_option maxRecDepth 20000 in
set_option maxHeartbeats 4000000 in
theorem isValid_D1 (w : World) (i : Ino) (hd : i.dir.length = 8) (hk0 : i.kind ≠ 0) (hA : i.dir.all blkB = true) (hX : blkB i.ind = true) (hZ : szB2 i = true) (hS : sameI i (cutI i) = true) (hK : i.kind = 1) :
    Calls Try.prog 26 #[.agg (nC i).toArray] w fun e w' => e = .returned (.bool (decide (0 ≤ i.links) && decide (i.links ≤ 8))) ∧ Chg 0 0 w w' := by
  have u43 := Try.underlying39
  have hq0 : ∀ w' : World, ArrC w' w.heap.size 39 (nC i) → w'.cell? ⟨w.heap.size, 0, none⟩ = some (.int .i64 i.kind) := fun w' h => h.cell 0 (nC_0 i)
  have hq1 : ∀ w' : World, ArrC w' w.heap.size 39 (nC i) → w'.cell? ⟨w.heap.size, 1, none⟩ = some (.int .i64 i.links) := fun w' h => h.cell 1 (nC_1 i)
  have hq2 : ∀ w' : World, ArrC w' w.heap.size 39 (nC i) → w'.cell? ⟨w.heap.size, 2, none⟩ = some (.int .i64 i.size) := fun w' h => h.cell 2 (nC_2 i)
  have hq11 : ∀ w' : World, ArrC w' w.heap.size 39 (nC i) → w'.cell? ⟨w.heap.size, 11, none⟩ = some (.int .i64 i.ind) := fun w' h => h.cell 11 (nC_i hd)
  have hNA : ∀ w' : World, ArrC w' w.heap.size 39 (nC i) → Calls Try.prog 33 #[.slice (some ⟨w.heap.size, 3, none⟩) 8 8] w' fun e w'' => e = .returned (.bool (i.dir.all blkB)) ∧ w'' = w' := fun w' h => by
    have := areBlocks_calls w' i.dir w.heap.size 3 8 (by omega) (fun j hj => h.cell (3 + j) (nC_d i hj))
    rw [hd] at this
    exact this
  have hNX := fun w' => isBlock_calls w' i.ind
  have hNS := fun w' => isWithin_calls w' i.size 0 2560
  have hNW := fun w' => withinSize_calls w' i hd
  have hNH := fun w' => hasHole_calls w' i hd
  have hEq := fun w' => eq_inodes w' hd (cutI_len hd)
  obtain ⟨D, hD⟩ : ∃ D, sameI i (cutI i) = D := ⟨_, rfl⟩
  rw [hD] at hEq
  have HEq : Hid (∀ w' : World, (Op.equalIn 10000 39 (.agg (nC i).toArray) (.agg (nC (cutI i)).toArray)).run Try.prog w' = .ok D w') := hEq
  have hics : (Try.prog.info? 39).map (·.size) = some (nC i).length := by rw [nC_len hd]; exact Try.sizeIno
  have e0 : (i.kind == 0) = false := by rw [beq_eq_false_iff_ne]; exact hk0
  have HS0 : Hid (ArrC (w.alloc (.cells (nC i).toArray 39)) w.heap.size 39 (nC i)) := ArrC.new w _ _
  have HC0 : Hid (Chg 0 0 w (w.alloc (.cells (nC i).toArray 39))) := Chg.alloc (Chg.refl 0 0 w) _
  rw [hA] at hNA
  rw [hX] at hNX
  rw [show (decide (0 ≤ i.size) && decide (i.size ≤ 2560)) = true from hZ] at hNS
  rw [hS] at hD
  subst hD
  have hs0 : 0 ≤ i.size ∧ i.size ≤ 2560 := by unfold szB2 at hZ; simpa using hZ
  clear hX hZ hS
  clear hEq
  generalize nC i = cs at *
  generalize nC (cutI i) = ds at *
  have p0 := hq0 _ HS0.out
  generalize i.ind = x at *
  generalize i.size = s at *
  go_enter Try.func26, Try.ntmps26
  go_upto_region 3 with fail
  generalize w.alloc (.cells cs.toArray 39) = wa at *
  have HS : Hid (ArrC wa.drew w.heap.size 39 cs) := ArrC.chg HS0.out (Chg.drew (Chg.refl 0 0 wa)) (by omega)
  have HC : Hid (Chg 0 0 w wa.drew) := HC0.out.drew
  clear HS0 HC0
  refine held_region (fun w' : World => ArrC w' w.heap.size 39 cs) (by kernel_rfl) ?_
  generalize wa.drew = x1 at *
  refine held_take 0 (.pointer (some ⟨w.heap.size, 3, none⟩)) rfl (by kernel_rfl) (by kernel_rfl) (by kernel_rfl) (fun _ _ _ h => h) (.inl ⟨by kernel_rfl, fun w' hw' => by go_simp⟩) HS.out ?_
  go_simp
  refine held_take 1 (.slice (some ⟨w.heap.size, 3, none⟩) 8 8) rfl (by kernel_rfl) (by kernel_rfl) (by kernel_rfl) (fun _ _ _ h => h) (.inl ⟨by kernel_rfl, fun w' hw' => by go_simp⟩) HS.out ?_
  go_simp
  refine held_one 2 rfl rfl (by kernel_rfl) ?_
  refine wp_enter 33 #[.slice (some ⟨w.heap.size, 3, none⟩) 8 8] (by first | kernel_rfl | go_simp) (hNA _ HS.out) ?_
  rintro e x2 ⟨rfl, rfl⟩
  refine ⟨_, rfl, HS.out, ?_⟩
  go_simp
  refine held_take 3 (.bool false) rfl (by kernel_rfl) (by kernel_rfl) (by kernel_rfl) (fun _ _ _ h => h) (.inl ⟨by kernel_rfl, fun w' hw' => by go_simp⟩) HS.out ?_
  go_simp
  refine held_take 4 (.bool false) rfl (by kernel_rfl) (by kernel_rfl) (by kernel_rfl) (fun _ _ _ h => h) (.inl ⟨by kernel_rfl, fun w' hw' => by go_simp⟩) HS.out ?_
  go_simp
  refine held_take 5 (.pointer (some ⟨w.heap.size, 11, none⟩)) rfl (by kernel_rfl) (by kernel_rfl) (by kernel_rfl) (fun _ _ _ h => h) (.inl ⟨by kernel_rfl, fun w' hw' => by go_simp⟩) HS.out ?_
  go_simp
  refine held_take 6 (.int .i64 x) rfl (by kernel_rfl) (by kernel_rfl) (by kernel_rfl) (fun _ _ _ h => h) (.inl ⟨by kernel_rfl, fun w' hw' => by have q := hq11 w' hw'; go_simp⟩) HS.out ?_
  go_simp
  refine held_oneG 7 rfl (by kernel_rfl) (by kernel_rfl) ?_
  refine wp_enter 34 #[.int .i64 x] (by first | kernel_rfl | go_simp) (hNX _) ?_
  rintro e x2 ⟨rfl, rfl⟩
  refine ⟨_, rfl, HS.out, ?_⟩
  go_simp
  refine held_take 8 (.bool false) rfl (by kernel_rfl) (by kernel_rfl) (by kernel_rfl) (fun _ _ _ h => h) (.inl ⟨by kernel_rfl, fun w' hw' => by go_simp⟩) HS.out ?_
  go_simp
  refine held_take 9 (.bool false) rfl (by kernel_rfl) (by kernel_rfl) (by kernel_rfl) (fun _ _ _ h => h) (.inl ⟨by kernel_rfl, fun w' hw' => by go_simp⟩) HS.out ?_
  go_simp
  refine held_take 10 (.bool false) rfl (by kernel_rfl) (by kernel_rfl) (by kernel_rfl) (fun _ _ _ h => h) (.inl ⟨by kernel_rfl, fun w' hw' => by go_simp⟩) HS.out ?_
  go_simp
  refine held_take 11 (.pointer (some ⟨w.heap.size, 2, none⟩)) rfl (by kernel_rfl) (by kernel_rfl) (by kernel_rfl) (fun _ _ _ h => h) (.inl ⟨by kernel_rfl, fun w' hw' => by go_simp⟩) HS.out ?_
  go_simp
  refine held_take 12 (.int .i64 s) rfl (by kernel_rfl) (by kernel_rfl) (by kernel_rfl) (fun _ _ _ h => h) (.inl ⟨by kernel_rfl, fun w' hw' => by have q := hq2 w' hw'; go_simp⟩) HS.out ?_
  go_simp
  refine held_oneG 13 rfl (by kernel_rfl) (by kernel_rfl) ?_
  refine wp_enter 35 #[.int .i64 s, .int .i64 0, .int .i64 2560] (by first | kernel_rfl | go_simp) (hNS _) ?_
  rintro e x2 ⟨rfl, rfl⟩
  refine ⟨_, rfl, HS.out, ?_⟩
  go_simp
  refine held_take 14 (.bool false) rfl (by kernel_rfl) (by kernel_rfl) (by kernel_rfl) (fun _ _ _ h => h) (.inl ⟨by kernel_rfl, fun w' hw' => by go_simp⟩) HS.out ?_
  go_simp
  refine held_take 15 (.bool false) rfl (by kernel_rfl) (by kernel_rfl) (by kernel_rfl) (fun _ _ _ h => h) (.inl ⟨by kernel_rfl, fun w' hw' => by go_simp⟩) HS.out ?_
  go_simp
  refine held_take 16 (.bool false) rfl (by kernel_rfl) (by kernel_rfl) (by kernel_rfl) (fun _ _ _ h => h) (.inl ⟨by kernel_rfl, fun w' hw' => by go_simp⟩) HS.out ?_
  go_simp
  refine held_take 17 (.agg cs.toArray) rfl (by kernel_rfl) (by kernel_rfl) (by kernel_rfl) (fun _ _ _ h => h) (yieldsIf_load_mid (by kernel_rfl) 39 (.tmp 1) rfl w.heap.size 0 rfl cs _ (fun w' hw' => ArrC.range hw') u43 rfl hics) HS.out ?_
  go_simp
  refine held_take 18 (.agg cs.toArray) rfl (by kernel_rfl) (by kernel_rfl) (by kernel_rfl) (fun _ _ _ h => h) (yieldsIf_load_mid (by kernel_rfl) 39 (.tmp 1) rfl w.heap.size 0 rfl cs _ (fun w' hw' => ArrC.range hw') u43 rfl hics) HS.out ?_
  go_simp
  refine held_oneG 19 rfl (by kernel_rfl) (by kernel_rfl) ?_
  refine wp_enter 36 #[.agg cs.toArray] (by first | kernel_rfl | go_simp) (hNW _) ?_
  rintro e x3 ⟨rfl, c3⟩
  have HS3 : Hid (ArrC x3 w.heap.size 39 cs) := ArrC.chg HS.out c3 (by omega)
  have HC3 : Hid (Chg 0 0 w x3) := HC.out.trans c3
  refine ⟨_, rfl, HS3.out, ?_⟩
  clear c3 HS HC
  have HS := HS3
  have HC := HC3
  clear HS3 HC3
  go_simp
  refine held_take 20 (.bool (!true)) rfl (by kernel_rfl) (by kernel_rfl) (by kernel_rfl) (fun _ _ _ h => h) (.inl ⟨by kernel_rfl, fun w' hw' => exec_neq_ino (.tmp 26) (.tmp 28) rfl rfl rfl HEq.out w'⟩) HS.out ?_
  go_simp
  refine held_take 21 (.bool (!true)) rfl (by kernel_rfl) (by kernel_rfl) (by kernel_rfl) (fun _ _ _ h => h) (.inl ⟨by kernel_rfl, fun w' hw' => by go_simp⟩) HS.out ?_
  go_simp
  refine held_done (by kernel_rfl) (NoPanic.normal ?_)
  have p0 := hq0 _ HS.out
  have p1 := hq1 _ HS.out
  have p2 := hq2 _ HS.out
  have e1 : (i.kind == 1) = true := by rw [beq_iff_eq]; exact hK
  generalize i.kind = kd at *
  clear hK hk0
  go_wp2_with (go_at_call 35; refine (isWithin_calls _ _ _ _).mono ?_; rintro e w' ⟨rfl, rfl⟩)
  go_ret
  exact ⟨rfl, HC.out⟩

set_option maxRecDepth 20000 in
set_option maxHeartbeats 4000000 in
theorem isValid_D2 (w : World) (i : Ino) (hd : i.dir.length = 8) (hk0 : i.kind ≠ 0) (hA : i.dir.all blkB = true) (hX : blkB i.ind = true) (hZ : szB2 i = true) (hS : sameI i (cutI i) = true) (hK : i.kind = 2) (R : Bool) (HR : Hid (R = (decide (i.links = 1) && decide (i.size % 16 = 0) && !holeB i))) :
    Calls Try.prog 26 #[.agg (nC i).toArray] w fun e w' => e = .returned (.bool R) ∧ Chg 0 0 w w' := by
  have u43 := Try.underlying39
  have hq0 : ∀ w' : World, ArrC w' w.heap.size 39 (nC i) → w'.cell? ⟨w.heap.size, 0, none⟩ = some (.int .i64 i.kind) := fun w' h => h.cell 0 (nC_0 i)
  have hq1 : ∀ w' : World, ArrC w' w.heap.size 39 (nC i) → w'.cell? ⟨w.heap.size, 1, none⟩ = some (.int .i64 i.links) := fun w' h => h.cell 1 (nC_1 i)
  have hq2 : ∀ w' : World, ArrC w' w.heap.size 39 (nC i) → w'.cell? ⟨w.heap.size, 2, none⟩ = some (.int .i64 i.size) := fun w' h => h.cell 2 (nC_2 i)
  have hq11 : ∀ w' : World, ArrC w' w.heap.size 39 (nC i) → w'.cell? ⟨w.heap.size, 11, none⟩ = some (.int .i64 i.ind) := fun w' h => h.cell 11 (nC_i hd)
  have hNA : ∀ w' : World, ArrC w' w.heap.size 39 (nC i) → Calls Try.prog 33 #[.slice (some ⟨w.heap.size, 3, none⟩) 8 8] w' fun e w'' => e = .returned (.bool (i.dir.all blkB)) ∧ w'' = w' := fun w' h => by
    have := areBlocks_calls w' i.dir w.heap.size 3 8 (by omega) (fun j hj => h.cell (3 + j) (nC_d i hj))
    rw [hd] at this
    exact this
  have hNX := fun w' => isBlock_calls w' i.ind
  have hNS := fun w' => isWithin_calls w' i.size 0 2560
  have hNW := fun w' => withinSize_calls w' i hd
  have hNH := fun w' => hasHole_calls w' i hd
  have hEq := fun w' => eq_inodes w' hd (cutI_len hd)
  obtain ⟨D, hD⟩ : ∃ D, sameI i (cutI i) = D := ⟨_, rfl⟩
  rw [hD] at hEq
  have HEq : Hid (∀ w' : World, (Op.equalIn 10000 39 (.agg (nC i).toArray) (.agg (nC (cutI i)).toArray)).run Try.prog w' = .ok D w') := hEq
  have hics : (Try.prog.info? 39).map (·.size) = some (nC i).length := by rw [nC_len hd]; exact Try.sizeIno
  have e0 : (i.kind == 0) = false := by rw [beq_eq_false_iff_ne]; exact hk0
  have HS0 : Hid (ArrC (w.alloc (.cells (nC i).toArray 39)) w.heap.size 39 (nC i)) := ArrC.new w _ _
  have HC0 : Hid (Chg 0 0 w (w.alloc (.cells (nC i).toArray 39))) := Chg.alloc (Chg.refl 0 0 w) _
  rw [hA] at hNA
  rw [hX] at hNX
  rw [show (decide (0 ≤ i.size) && decide (i.size ≤ 2560)) = true from hZ] at hNS
  rw [hS] at hD
  subst hD
  have hs0 : 0 ≤ i.size ∧ i.size ≤ 2560 := by unfold szB2 at hZ; simpa using hZ
  clear hX hZ hS
  clear hEq
  generalize nC i = cs at *
  generalize nC (cutI i) = ds at *
  have p0 := hq0 _ HS0.out
  generalize i.ind = x at *
  generalize i.size = s at *
  go_enter Try.func26, Try.ntmps26
  go_upto_region 3 with fail
  generalize w.alloc (.cells cs.toArray 39) = wa at *
  have HS : Hid (ArrC wa.drew w.heap.size 39 cs) := ArrC.chg HS0.out (Chg.drew (Chg.refl 0 0 wa)) (by omega)
  have HC : Hid (Chg 0 0 w wa.drew) := HC0.out.drew
  clear HS0 HC0
  refine held_region (fun w' : World => ArrC w' w.heap.size 39 cs) (by kernel_rfl) ?_
  generalize wa.drew = x1 at *
  refine held_take 0 (.pointer (some ⟨w.heap.size, 3, none⟩)) rfl (by kernel_rfl) (by kernel_rfl) (by kernel_rfl) (fun _ _ _ h => h) (.inl ⟨by kernel_rfl, fun w' hw' => by go_simp⟩) HS.out ?_
  go_simp
  refine held_take 1 (.slice (some ⟨w.heap.size, 3, none⟩) 8 8) rfl (by kernel_rfl) (by kernel_rfl) (by kernel_rfl) (fun _ _ _ h => h) (.inl ⟨by kernel_rfl, fun w' hw' => by go_simp⟩) HS.out ?_
  go_simp
  refine held_one 2 rfl rfl (by kernel_rfl) ?_
  refine wp_enter 33 #[.slice (some ⟨w.heap.size, 3, none⟩) 8 8] (by first | kernel_rfl | go_simp) (hNA _ HS.out) ?_
  rintro e x2 ⟨rfl, rfl⟩
  refine ⟨_, rfl, HS.out, ?_⟩
  go_simp
  refine held_take 3 (.bool false) rfl (by kernel_rfl) (by kernel_rfl) (by kernel_rfl) (fun _ _ _ h => h) (.inl ⟨by kernel_rfl, fun w' hw' => by go_simp⟩) HS.out ?_
  go_simp
  refine held_take 4 (.bool false) rfl (by kernel_rfl) (by kernel_rfl) (by kernel_rfl) (fun _ _ _ h => h) (.inl ⟨by kernel_rfl, fun w' hw' => by go_simp⟩) HS.out ?_
  go_simp
  refine held_take 5 (.pointer (some ⟨w.heap.size, 11, none⟩)) rfl (by kernel_rfl) (by kernel_rfl) (by kernel_rfl) (fun _ _ _ h => h) (.inl ⟨by kernel_rfl, fun w' hw' => by go_simp⟩) HS.out ?_
  go_simp
  refine held_take 6 (.int .i64 x) rfl (by kernel_rfl) (by kernel_rfl) (by kernel_rfl) (fun _ _ _ h => h) (.inl ⟨by kernel_rfl, fun w' hw' => by have q := hq11 w' hw'; go_simp⟩) HS.out ?_
  go_simp
  refine held_oneG 7 rfl (by kernel_rfl) (by kernel_rfl) ?_
  refine wp_enter 34 #[.int .i64 x] (by first | kernel_rfl | go_simp) (hNX _) ?_
  rintro e x2 ⟨rfl, rfl⟩
  refine ⟨_, rfl, HS.out, ?_⟩
  go_simp
  refine held_take 8 (.bool false) rfl (by kernel_rfl) (by kernel_rfl) (by kernel_rfl) (fun _ _ _ h => h) (.inl ⟨by kernel_rfl, fun w' hw' => by go_simp⟩) HS.out ?_
  go_simp
  refine held_take 9 (.bool false) rfl (by kernel_rfl) (by kernel_rfl) (by kernel_rfl) (fun _ _ _ h => h) (.inl ⟨by kernel_rfl, fun w' hw' => by go_simp⟩) HS.out ?_
  go_simp
  refine held_take 10 (.bool false) rfl (by kernel_rfl) (by kernel_rfl) (by kernel_rfl) (fun _ _ _ h => h) (.inl ⟨by kernel_rfl, fun w' hw' => by go_simp⟩) HS.out ?_
  go_simp
  refine held_take 11 (.pointer (some ⟨w.heap.size, 2, none⟩)) rfl (by kernel_rfl) (by kernel_rfl) (by kernel_rfl) (fun _ _ _ h => h) (.inl ⟨by kernel_rfl, fun w' hw' => by go_simp⟩) HS.out ?_
  go_simp
  refine held_take 12 (.int .i64 s) rfl (by kernel_rfl) (by kernel_rfl) (by kernel_rfl) (fun _ _ _ h => h) (.inl ⟨by kernel_rfl, fun w' hw' => by have q := hq2 w' hw'; go_simp⟩) HS.out ?_
  go_simp
  refine held_oneG 13 rfl (by kernel_rfl) (by kernel_rfl) ?_
  refine wp_enter 35 #[.int .i64 s, .int .i64 0, .int .i64 2560] (by first | kernel_rfl | go_simp) (hNS _) ?_
  rintro e x2 ⟨rfl, rfl⟩
  refine ⟨_, rfl, HS.out, ?_⟩
  go_simp
  refine held_take 14 (.bool false) rfl (by kernel_rfl) (by kernel_rfl) (by kernel_rfl) (fun _ _ _ h => h) (.inl ⟨by kernel_rfl, fun w' hw' => by go_simp⟩) HS.out ?_
  go_simp
  refine held_take 15 (.bool false) rfl (by kernel_rfl) (by kernel_rfl) (by kernel_rfl) (fun _ _ _ h => h) (.inl ⟨by kernel_rfl, fun w' hw' => by go_simp⟩) HS.out ?_
  go_simp
  refine held_take 16 (.bool false) rfl (by kernel_rfl) (by kernel_rfl) (by kernel_rfl) (fun _ _ _ h => h) (.inl ⟨by kernel_rfl, fun w' hw' => by go_simp⟩) HS.out ?_
  go_simp
  refine held_take 17 (.agg cs.toArray) rfl (by kernel_rfl) (by kernel_rfl) (by kernel_rfl) (fun _ _ _ h => h) (yieldsIf_load_mid (by kernel_rfl) 39 (.tmp 1) rfl w.heap.size 0 rfl cs _ (fun w' hw' => ArrC.range hw') u43 rfl hics) HS.out ?_
  go_simp
  refine held_take 18 (.agg cs.toArray) rfl (by kernel_rfl) (by kernel_rfl) (by kernel_rfl) (fun _ _ _ h => h) (yieldsIf_load_mid (by kernel_rfl) 39 (.tmp 1) rfl w.heap.size 0 rfl cs _ (fun w' hw' => ArrC.range hw') u43 rfl hics) HS.out ?_
  go_simp
  refine held_oneG 19 rfl (by kernel_rfl) (by kernel_rfl) ?_
  refine wp_enter 36 #[.agg cs.toArray] (by first | kernel_rfl | go_simp) (hNW _) ?_
  rintro e x3 ⟨rfl, c3⟩
  have HS3 : Hid (ArrC x3 w.heap.size 39 cs) := ArrC.chg HS.out c3 (by omega)
  have HC3 : Hid (Chg 0 0 w x3) := HC.out.trans c3
  refine ⟨_, rfl, HS3.out, ?_⟩
  clear c3 HS HC
  have HS := HS3
  have HC := HC3
  clear HS3 HC3
  go_simp
  refine held_take 20 (.bool (!true)) rfl (by kernel_rfl) (by kernel_rfl) (by kernel_rfl) (fun _ _ _ h => h) (.inl ⟨by kernel_rfl, fun w' hw' => exec_neq_ino (.tmp 26) (.tmp 28) rfl rfl rfl HEq.out w'⟩) HS.out ?_
  go_simp
  refine held_take 21 (.bool (!true)) rfl (by kernel_rfl) (by kernel_rfl) (by kernel_rfl) (fun _ _ _ h => h) (.inl ⟨by kernel_rfl, fun w' hw' => by go_simp⟩) HS.out ?_
  go_simp
  refine held_done (by kernel_rfl) (NoPanic.normal ?_)
  have p0 := hq0 _ HS.out
  have p1 := hq1 _ HS.out
  have p2 := hq2 _ HS.out
  have e1 : (i.kind == 1) = false := by rw [hK]; rfl
  have e2 : (i.kind == 2) = true := by rw [hK]; rfl
  generalize i.kind = kd at *
  generalize holeB i = H at *
  clear hK hk0
  by_cases h1 : i.links = 1
  · have e3 : (i.links == 1) = true := by rw [beq_iff_eq]; exact h1
    rw [decide_eq_true h1] at HR
    clear h1
    by_cases h2 : s % 16 = 0
    · have e4 : (s % 16 == 0) = true := by rw [beq_iff_eq]; exact h2
      rw [decide_eq_true h2] at HR
      clear h2
      go_wp2_with (first | (refine wpList_load_midG (by kernel_rfl) 39 (.tmp 1) rfl w.heap.size 0 rfl cs _ (ArrC.range HS.out) u43 rfl hics ?_) | (go_at_call 37; refine (hNH _).mono ?_; rintro e w4 ⟨rfl, hc4⟩))
      go_ret
      exact ⟨by rw [HR.out]; rfl, HC.out.trans hc4⟩
    · have e4 : (s % 16 == 0) = false := by rw [beq_eq_false_iff_ne]; exact h2
      rw [decide_eq_false h2] at HR
      clear h2
      go_wp2
      go_ret
      exact ⟨by rw [HR.out]; rfl, HC.out⟩
  · have e3 : (i.links == 1) = false := by rw [beq_eq_false_iff_ne]; exact h1
    rw [decide_eq_false h1] at HR
    clear h1
    go_wp2
    go_ret
    exact ⟨by rw [HR.out]; rfl, HC.out⟩

set_option maxRecDepth 20000 in
set_option maxHeartbeats 4000000 in
theorem isValid_D3 (w : World) (i : Ino) (hd : i.dir.length = 8) (hk0 : i.kind ≠ 0) (hA : i.dir.all blkB = true) (hX : blkB i.ind = true) (hZ : szB2 i = true) (hS : sameI i (cutI i) = true) (hK : i.kind = 3) (R : Bool) (HR : Hid (R = ((decide (1 ≤ i.links) && decide (i.links ≤ 8)) && (decide (1 ≤ i.size) && decide (i.size ≤ 240)) && !holeB i))) :
    Calls Try.prog 26 #[.agg (nC i).toArray] w fun e w' => e = .returned (.bool R) ∧ Chg 0 0 w w' := by
  have u43 := Try.underlying39
  have hq0 : ∀ w' : World, ArrC w' w.heap.size 39 (nC i) → w'.cell? ⟨w.heap.size, 0, none⟩ = some (.int .i64 i.kind) := fun w' h => h.cell 0 (nC_0 i)
  have hq1 : ∀ w' : World, ArrC w' w.heap.size 39 (nC i) → w'.cell? ⟨w.heap.size, 1, none⟩ = some (.int .i64 i.links) := fun w' h => h.cell 1 (nC_1 i)
  have hq2 : ∀ w' : World, ArrC w' w.heap.size 39 (nC i) → w'.cell? ⟨w.heap.size, 2, none⟩ = some (.int .i64 i.size) := fun w' h => h.cell 2 (nC_2 i)
  have hq11 : ∀ w' : World, ArrC w' w.heap.size 39 (nC i) → w'.cell? ⟨w.heap.size, 11, none⟩ = some (.int .i64 i.ind) := fun w' h => h.cell 11 (nC_i hd)
  have hNA : ∀ w' : World, ArrC w' w.heap.size 39 (nC i) → Calls Try.prog 33 #[.slice (some ⟨w.heap.size, 3, none⟩) 8 8] w' fun e w'' => e = .returned (.bool (i.dir.all blkB)) ∧ w'' = w' := fun w' h => by
    have := areBlocks_calls w' i.dir w.heap.size 3 8 (by omega) (fun j hj => h.cell (3 + j) (nC_d i hj))
    rw [hd] at this
    exact this
  have hNX := fun w' => isBlock_calls w' i.ind
  have hNS := fun w' => isWithin_calls w' i.size 0 2560
  have hNW := fun w' => withinSize_calls w' i hd
  have hNH := fun w' => hasHole_calls w' i hd
  have hEq := fun w' => eq_inodes w' hd (cutI_len hd)
  obtain ⟨D, hD⟩ : ∃ D, sameI i (cutI i) = D := ⟨_, rfl⟩
  rw [hD] at hEq
  have HEq : Hid (∀ w' : World, (Op.equalIn 10000 39 (.agg (nC i).toArray) (.agg (nC (cutI i)).toArray)).run Try.prog w' = .ok D w') := hEq
  have hics : (Try.prog.info? 39).map (·.size) = some (nC i).length := by rw [nC_len hd]; exact Try.sizeIno
  have e0 : (i.kind == 0) = false := by rw [beq_eq_false_iff_ne]; exact hk0
  have HS0 : Hid (ArrC (w.alloc (.cells (nC i).toArray 39)) w.heap.size 39 (nC i)) := ArrC.new w _ _
  have HC0 : Hid (Chg 0 0 w (w.alloc (.cells (nC i).toArray 39))) := Chg.alloc (Chg.refl 0 0 w) _
  rw [hA] at hNA
  rw [hX] at hNX
  rw [show (decide (0 ≤ i.size) && decide (i.size ≤ 2560)) = true from hZ] at hNS
  rw [hS] at hD
  subst hD
  have hs0 : 0 ≤ i.size ∧ i.size ≤ 2560 := by unfold szB2 at hZ; simpa using hZ
  clear hX hZ hS
  clear hEq
  generalize nC i = cs at *
  generalize nC (cutI i) = ds at *
  have p0 := hq0 _ HS0.out
  generalize i.ind = x at *
  generalize i.size = s at *
  go_enter Try.func26, Try.ntmps26
  go_upto_region 3 with fail
  generalize w.alloc (.cells cs.toArray 39) = wa at *
  have HS : Hid (ArrC wa.drew w.heap.size 39 cs) := ArrC.chg HS0.out (Chg.drew (Chg.refl 0 0 wa)) (by omega)
  have HC : Hid (Chg 0 0 w wa.drew) := HC0.out.drew
  clear HS0 HC0
  refine held_region (fun w' : World => ArrC w' w.heap.size 39 cs) (by kernel_rfl) ?_
  generalize wa.drew = x1 at *
  refine held_take 0 (.pointer (some ⟨w.heap.size, 3, none⟩)) rfl (by kernel_rfl) (by kernel_rfl) (by kernel_rfl) (fun _ _ _ h => h) (.inl ⟨by kernel_rfl, fun w' hw' => by go_simp⟩) HS.out ?_
  go_simp
  refine held_take 1 (.slice (some ⟨w.heap.size, 3, none⟩) 8 8) rfl (by kernel_rfl) (by kernel_rfl) (by kernel_rfl) (fun _ _ _ h => h) (.inl ⟨by kernel_rfl, fun w' hw' => by go_simp⟩) HS.out ?_
  go_simp
  refine held_one 2 rfl rfl (by kernel_rfl) ?_
  refine wp_enter 33 #[.slice (some ⟨w.heap.size, 3, none⟩) 8 8] (by first | kernel_rfl | go_simp) (hNA _ HS.out) ?_
  rintro e x2 ⟨rfl, rfl⟩
  refine ⟨_, rfl, HS.out, ?_⟩
  go_simp
  refine held_take 3 (.bool false) rfl (by kernel_rfl) (by kernel_rfl) (by kernel_rfl) (fun _ _ _ h => h) (.inl ⟨by kernel_rfl, fun w' hw' => by go_simp⟩) HS.out ?_
  go_simp
  refine held_take 4 (.bool false) rfl (by kernel_rfl) (by kernel_rfl) (by kernel_rfl) (fun _ _ _ h => h) (.inl ⟨by kernel_rfl, fun w' hw' => by go_simp⟩) HS.out ?_
  go_simp
  refine held_take 5 (.pointer (some ⟨w.heap.size, 11, none⟩)) rfl (by kernel_rfl) (by kernel_rfl) (by kernel_rfl) (fun _ _ _ h => h) (.inl ⟨by kernel_rfl, fun w' hw' => by go_simp⟩) HS.out ?_
  go_simp
  refine held_take 6 (.int .i64 x) rfl (by kernel_rfl) (by kernel_rfl) (by kernel_rfl) (fun _ _ _ h => h) (.inl ⟨by kernel_rfl, fun w' hw' => by have q := hq11 w' hw'; go_simp⟩) HS.out ?_
  go_simp
  refine held_oneG 7 rfl (by kernel_rfl) (by kernel_rfl) ?_
  refine wp_enter 34 #[.int .i64 x] (by first | kernel_rfl | go_simp) (hNX _) ?_
  rintro e x2 ⟨rfl, rfl⟩
  refine ⟨_, rfl, HS.out, ?_⟩
  go_simp
  refine held_take 8 (.bool false) rfl (by kernel_rfl) (by kernel_rfl) (by kernel_rfl) (fun _ _ _ h => h) (.inl ⟨by kernel_rfl, fun w' hw' => by go_simp⟩) HS.out ?_
  go_simp
  refine held_take 9 (.bool false) rfl (by kernel_rfl) (by kernel_rfl) (by kernel_rfl) (fun _ _ _ h => h) (.inl ⟨by kernel_rfl, fun w' hw' => by go_simp⟩) HS.out ?_
  go_simp
  refine held_take 10 (.bool false) rfl (by kernel_rfl) (by kernel_rfl) (by kernel_rfl) (fun _ _ _ h => h) (.inl ⟨by kernel_rfl, fun w' hw' => by go_simp⟩) HS.out ?_
  go_simp
  refine held_take 11 (.pointer (some ⟨w.heap.size, 2, none⟩)) rfl (by kernel_rfl) (by kernel_rfl) (by kernel_rfl) (fun _ _ _ h => h) (.inl ⟨by kernel_rfl, fun w' hw' => by go_simp⟩) HS.out ?_
  go_simp
  refine held_take 12 (.int .i64 s) rfl (by kernel_rfl) (by kernel_rfl) (by kernel_rfl) (fun _ _ _ h => h) (.inl ⟨by kernel_rfl, fun w' hw' => by have q := hq2 w' hw'; go_simp⟩) HS.out ?_
  go_simp
  refine held_oneG 13 rfl (by kernel_rfl) (by kernel_rfl) ?_
  refine wp_enter 35 #[.int .i64 s, .int .i64 0, .int .i64 2560] (by first | kernel_rfl | go_simp) (hNS _) ?_
  rintro e x2 ⟨rfl, rfl⟩
  refine ⟨_, rfl, HS.out, ?_⟩
  go_simp
  refine held_take 14 (.bool false) rfl (by kernel_rfl) (by kernel_rfl) (by kernel_rfl) (fun _ _ _ h => h) (.inl ⟨by kernel_rfl, fun w' hw' => by go_simp⟩) HS.out ?_
  go_simp
  refine held_take 15 (.bool false) rfl (by kernel_rfl) (by kernel_rfl) (by kernel_rfl) (fun _ _ _ h => h) (.inl ⟨by kernel_rfl, fun w' hw' => by go_simp⟩) HS.out ?_
  go_simp
  refine held_take 16 (.bool false) rfl (by kernel_rfl) (by kernel_rfl) (by kernel_rfl) (fun _ _ _ h => h) (.inl ⟨by kernel_rfl, fun w' hw' => by go_simp⟩) HS.out ?_
  go_simp
  refine held_take 17 (.agg cs.toArray) rfl (by kernel_rfl) (by kernel_rfl) (by kernel_rfl) (fun _ _ _ h => h) (yieldsIf_load_mid (by kernel_rfl) 39 (.tmp 1) rfl w.heap.size 0 rfl cs _ (fun w' hw' => ArrC.range hw') u43 rfl hics) HS.out ?_
  go_simp
  refine held_take 18 (.agg cs.toArray) rfl (by kernel_rfl) (by kernel_rfl) (by kernel_rfl) (fun _ _ _ h => h) (yieldsIf_load_mid (by kernel_rfl) 39 (.tmp 1) rfl w.heap.size 0 rfl cs _ (fun w' hw' => ArrC.range hw') u43 rfl hics) HS.out ?_
  go_simp
  refine held_oneG 19 rfl (by kernel_rfl) (by kernel_rfl) ?_
  refine wp_enter 36 #[.agg cs.toArray] (by first | kernel_rfl | go_simp) (hNW _) ?_
  rintro e x3 ⟨rfl, c3⟩
  have HS3 : Hid (ArrC x3 w.heap.size 39 cs) := ArrC.chg HS.out c3 (by omega)
  have HC3 : Hid (Chg 0 0 w x3) := HC.out.trans c3
  refine ⟨_, rfl, HS3.out, ?_⟩
  clear c3 HS HC
  have HS := HS3
  have HC := HC3
  clear HS3 HC3
  go_simp
  refine held_take 20 (.bool (!true)) rfl (by kernel_rfl) (by kernel_rfl) (by kernel_rfl) (fun _ _ _ h => h) (.inl ⟨by kernel_rfl, fun w' hw' => exec_neq_ino (.tmp 26) (.tmp 28) rfl rfl rfl HEq.out w'⟩) HS.out ?_
  go_simp
  refine held_take 21 (.bool (!true)) rfl (by kernel_rfl) (by kernel_rfl) (by kernel_rfl) (fun _ _ _ h => h) (.inl ⟨by kernel_rfl, fun w' hw' => by go_simp⟩) HS.out ?_
  go_simp
  refine held_done (by kernel_rfl) (NoPanic.normal ?_)
  have p0 := hq0 _ HS.out
  have p1 := hq1 _ HS.out
  have p2 := hq2 _ HS.out
  have e1 : (i.kind == 1) = false := by rw [hK]; rfl
  have e2 : (i.kind == 2) = false := by rw [hK]; rfl
  have e3 : (i.kind == 3) = true := by rw [hK]; rfl
  generalize i.kind = kd at *
  generalize holeB i = H at *
  clear hK hk0
  have hL := fun w' => isWithin_calls w' i.links 1 8
  have hT := fun w' => isWithin_calls w' s 1 240
  generalize i.links = l at *
  generalize (decide (1 ≤ l) && decide (l ≤ 8)) = b1 at *
  generalize (decide (1 ≤ s) && decide (s ≤ 240)) = b2 at *
  cases b1
  · go_wp2_with (go_at_call 35; refine (hL _).mono ?_; clear hL; rintro e w' ⟨rfl, rfl⟩)
    go_ret
    exact ⟨by rw [HR.out]; rfl, HC.out⟩
  · cases b2
    · go_wp2_with (first | (go_at_call 35; refine (hL _).mono ?_; clear hL; rintro e w' ⟨rfl, rfl⟩) | (go_at_call 35; refine (hT _).mono ?_; clear hT; rintro e w' ⟨rfl, rfl⟩))
      go_ret
      exact ⟨by rw [HR.out]; rfl, HC.out⟩
    · go_wp2_with (first | (go_at_call 35; refine (hL _).mono ?_; clear hL; rintro e w' ⟨rfl, rfl⟩) | (go_at_call 35; refine (hT _).mono ?_; clear hT; rintro e w' ⟨rfl, rfl⟩) | (refine wpList_load_midG (by kernel_rfl) 39 (.tmp 1) rfl w.heap.size 0 rfl cs _ (ArrC.range HS.out) u43 rfl hics ?_) | (go_at_call 37; refine (hNH _).mono ?_; rintro e w4 ⟨rfl, hc4⟩))
      go_ret
      exact ⟨by rw [HR.out]; rfl, HC.out.trans hc4⟩

set_option maxRecDepth 20000 in
set_option maxHeartbeats 4000000 in
theorem isValid_D4 (w : World) (i : Ino) (hd : i.dir.length = 8) (hk0 : i.kind ≠ 0) (hA : i.dir.all blkB = true) (hX : blkB i.ind = true) (hZ : szB2 i = true) (hS : sameI i (cutI i) = true) (hK : i.kind ≠ 1 ∧ i.kind ≠ 2 ∧ i.kind ≠ 3) :
    Calls Try.prog 26 #[.agg (nC i).toArray] w fun e w' => e = .returned (.bool false) ∧ Chg 0 0 w w' := by
  have u43 := Try.underlying39
  have hq0 : ∀ w' : World, ArrC w' w.heap.size 39 (nC i) → w'.cell? ⟨w.heap.size, 0, none⟩ = some (.int .i64 i.kind) := fun w' h => h.cell 0 (nC_0 i)
  have hq1 : ∀ w' : World, ArrC w' w.heap.size 39 (nC i) → w'.cell? ⟨w.heap.size, 1, none⟩ = some (.int .i64 i.links) := fun w' h => h.cell 1 (nC_1 i)
  have hq2 : ∀ w' : World, ArrC w' w.heap.size 39 (nC i) → w'.cell? ⟨w.heap.size, 2, none⟩ = some (.int .i64 i.size) := fun w' h => h.cell 2 (nC_2 i)
  have hq11 : ∀ w' : World, ArrC w' w.heap.size 39 (nC i) → w'.cell? ⟨w.heap.size, 11, none⟩ = some (.int .i64 i.ind) := fun w' h => h.cell 11 (nC_i hd)
  have hNA : ∀ w' : World, ArrC w' w.heap.size 39 (nC i) → Calls Try.prog 33 #[.slice (some ⟨w.heap.size, 3, none⟩) 8 8] w' fun e w'' => e = .returned (.bool (i.dir.all blkB)) ∧ w'' = w' := fun w' h => by
    have := areBlocks_calls w' i.dir w.heap.size 3 8 (by omega) (fun j hj => h.cell (3 + j) (nC_d i hj))
    rw [hd] at this
    exact this
  have hNX := fun w' => isBlock_calls w' i.ind
  have hNS := fun w' => isWithin_calls w' i.size 0 2560
  have hNW := fun w' => withinSize_calls w' i hd
  have hNH := fun w' => hasHole_calls w' i hd
  have hEq := fun w' => eq_inodes w' hd (cutI_len hd)
  obtain ⟨D, hD⟩ : ∃ D, sameI i (cutI i) = D := ⟨_, rfl⟩
  rw [hD] at hEq
  have HEq : Hid (∀ w' : World, (Op.equalIn 10000 39 (.agg (nC i).toArray) (.agg (nC (cutI i)).toArray)).run Try.prog w' = .ok D w') := hEq
  have hics : (Try.prog.info? 39).map (·.size) = some (nC i).length := by rw [nC_len hd]; exact Try.sizeIno
  have e0 : (i.kind == 0) = false := by rw [beq_eq_false_iff_ne]; exact hk0
  have HS0 : Hid (ArrC (w.alloc (.cells (nC i).toArray 39)) w.heap.size 39 (nC i)) := ArrC.new w _ _
  have HC0 : Hid (Chg 0 0 w (w.alloc (.cells (nC i).toArray 39))) := Chg.alloc (Chg.refl 0 0 w) _
  rw [hA] at hNA
  rw [hX] at hNX
  rw [show (decide (0 ≤ i.size) && decide (i.size ≤ 2560)) = true from hZ] at hNS
  rw [hS] at hD
  subst hD
  have hs0 : 0 ≤ i.size ∧ i.size ≤ 2560 := by unfold szB2 at hZ; simpa using hZ
  clear hX hZ hS
  clear hEq
  generalize nC i = cs at *
  generalize nC (cutI i) = ds at *
  have p0 := hq0 _ HS0.out
  generalize i.ind = x at *
  generalize i.size = s at *
  go_enter Try.func26, Try.ntmps26
  go_upto_region 3 with fail
  generalize w.alloc (.cells cs.toArray 39) = wa at *
  have HS : Hid (ArrC wa.drew w.heap.size 39 cs) := ArrC.chg HS0.out (Chg.drew (Chg.refl 0 0 wa)) (by omega)
  have HC : Hid (Chg 0 0 w wa.drew) := HC0.out.drew
  clear HS0 HC0
  refine held_region (fun w' : World => ArrC w' w.heap.size 39 cs) (by kernel_rfl) ?_
  generalize wa.drew = x1 at *
  refine held_take 0 (.pointer (some ⟨w.heap.size, 3, none⟩)) rfl (by kernel_rfl) (by kernel_rfl) (by kernel_rfl) (fun _ _ _ h => h) (.inl ⟨by kernel_rfl, fun w' hw' => by go_simp⟩) HS.out ?_
  go_simp
  refine held_take 1 (.slice (some ⟨w.heap.size, 3, none⟩) 8 8) rfl (by kernel_rfl) (by kernel_rfl) (by kernel_rfl) (fun _ _ _ h => h) (.inl ⟨by kernel_rfl, fun w' hw' => by go_simp⟩) HS.out ?_
  go_simp
  refine held_one 2 rfl rfl (by kernel_rfl) ?_
  refine wp_enter 33 #[.slice (some ⟨w.heap.size, 3, none⟩) 8 8] (by first | kernel_rfl | go_simp) (hNA _ HS.out) ?_
  rintro e x2 ⟨rfl, rfl⟩
  refine ⟨_, rfl, HS.out, ?_⟩
  go_simp
  refine held_take 3 (.bool false) rfl (by kernel_rfl) (by kernel_rfl) (by kernel_rfl) (fun _ _ _ h => h) (.inl ⟨by kernel_rfl, fun w' hw' => by go_simp⟩) HS.out ?_
  go_simp
  refine held_take 4 (.bool false) rfl (by kernel_rfl) (by kernel_rfl) (by kernel_rfl) (fun _ _ _ h => h) (.inl ⟨by kernel_rfl, fun w' hw' => by go_simp⟩) HS.out ?_
  go_simp
  refine held_take 5 (.pointer (some ⟨w.heap.size, 11, none⟩)) rfl (by kernel_rfl) (by kernel_rfl) (by kernel_rfl) (fun _ _ _ h => h) (.inl ⟨by kernel_rfl, fun w' hw' => by go_simp⟩) HS.out ?_
  go_simp
  refine held_take 6 (.int .i64 x) rfl (by kernel_rfl) (by kernel_rfl) (by kernel_rfl) (fun _ _ _ h => h) (.inl ⟨by kernel_rfl, fun w' hw' => by have q := hq11 w' hw'; go_simp⟩) HS.out ?_
  go_simp
  refine held_oneG 7 rfl (by kernel_rfl) (by kernel_rfl) ?_
  refine wp_enter 34 #[.int .i64 x] (by first | kernel_rfl | go_simp) (hNX _) ?_
  rintro e x2 ⟨rfl, rfl⟩
  refine ⟨_, rfl, HS.out, ?_⟩
  go_simp
  refine held_take 8 (.bool false) rfl (by kernel_rfl) (by kernel_rfl) (by kernel_rfl) (fun _ _ _ h => h) (.inl ⟨by kernel_rfl, fun w' hw' => by go_simp⟩) HS.out ?_
  go_simp
  refine held_take 9 (.bool false) rfl (by kernel_rfl) (by kernel_rfl) (by kernel_rfl) (fun _ _ _ h => h) (.inl ⟨by kernel_rfl, fun w' hw' => by go_simp⟩) HS.out ?_
  go_simp
  refine held_take 10 (.bool false) rfl (by kernel_rfl) (by kernel_rfl) (by kernel_rfl) (fun _ _ _ h => h) (.inl ⟨by kernel_rfl, fun w' hw' => by go_simp⟩) HS.out ?_
  go_simp
  refine held_take 11 (.pointer (some ⟨w.heap.size, 2, none⟩)) rfl (by kernel_rfl) (by kernel_rfl) (by kernel_rfl) (fun _ _ _ h => h) (.inl ⟨by kernel_rfl, fun w' hw' => by go_simp⟩) HS.out ?_
  go_simp
  refine held_take 12 (.int .i64 s) rfl (by kernel_rfl) (by kernel_rfl) (by kernel_rfl) (fun _ _ _ h => h) (.inl ⟨by kernel_rfl, fun w' hw' => by have q := hq2 w' hw'; go_simp⟩) HS.out ?_
  go_simp
  refine held_oneG 13 rfl (by kernel_rfl) (by kernel_rfl) ?_
  refine wp_enter 35 #[.int .i64 s, .int .i64 0, .int .i64 2560] (by first | kernel_rfl | go_simp) (hNS _) ?_
  rintro e x2 ⟨rfl, rfl⟩
  refine ⟨_, rfl, HS.out, ?_⟩
  go_simp
  refine held_take 14 (.bool false) rfl (by kernel_rfl) (by kernel_rfl) (by kernel_rfl) (fun _ _ _ h => h) (.inl ⟨by kernel_rfl, fun w' hw' => by go_simp⟩) HS.out ?_
  go_simp
  refine held_take 15 (.bool false) rfl (by kernel_rfl) (by kernel_rfl) (by kernel_rfl) (fun _ _ _ h => h) (.inl ⟨by kernel_rfl, fun w' hw' => by go_simp⟩) HS.out ?_
  go_simp
  refine held_take 16 (.bool false) rfl (by kernel_rfl) (by kernel_rfl) (by kernel_rfl) (fun _ _ _ h => h) (.inl ⟨by kernel_rfl, fun w' hw' => by go_simp⟩) HS.out ?_
  go_simp
  refine held_take 17 (.agg cs.toArray) rfl (by kernel_rfl) (by kernel_rfl) (by kernel_rfl) (fun _ _ _ h => h) (yieldsIf_load_mid (by kernel_rfl) 39 (.tmp 1) rfl w.heap.size 0 rfl cs _ (fun w' hw' => ArrC.range hw') u43 rfl hics) HS.out ?_
  go_simp
  refine held_take 18 (.agg cs.toArray) rfl (by kernel_rfl) (by kernel_rfl) (by kernel_rfl) (fun _ _ _ h => h) (yieldsIf_load_mid (by kernel_rfl) 39 (.tmp 1) rfl w.heap.size 0 rfl cs _ (fun w' hw' => ArrC.range hw') u43 rfl hics) HS.out ?_
  go_simp
  refine held_oneG 19 rfl (by kernel_rfl) (by kernel_rfl) ?_
  refine wp_enter 36 #[.agg cs.toArray] (by first | kernel_rfl | go_simp) (hNW _) ?_
  rintro e x3 ⟨rfl, c3⟩
  have HS3 : Hid (ArrC x3 w.heap.size 39 cs) := ArrC.chg HS.out c3 (by omega)
  have HC3 : Hid (Chg 0 0 w x3) := HC.out.trans c3
  refine ⟨_, rfl, HS3.out, ?_⟩
  clear c3 HS HC
  have HS := HS3
  have HC := HC3
  clear HS3 HC3
  go_simp
  refine held_take 20 (.bool (!true)) rfl (by kernel_rfl) (by kernel_rfl) (by kernel_rfl) (fun _ _ _ h => h) (.inl ⟨by kernel_rfl, fun w' hw' => exec_neq_ino (.tmp 26) (.tmp 28) rfl rfl rfl HEq.out w'⟩) HS.out ?_
  go_simp
  refine held_take 21 (.bool (!true)) rfl (by kernel_rfl) (by kernel_rfl) (by kernel_rfl) (fun _ _ _ h => h) (.inl ⟨by kernel_rfl, fun w' hw' => by go_simp⟩) HS.out ?_
  go_simp
  refine held_done (by kernel_rfl) (NoPanic.normal ?_)
  have p0 := hq0 _ HS.out
  have p1 := hq1 _ HS.out
  have p2 := hq2 _ HS.out
  have e1 : (i.kind == 1) = false := by rw [beq_eq_false_iff_ne]; exact hK.1
  have e2 : (i.kind == 2) = false := by rw [beq_eq_false_iff_ne]; exact hK.2.1
  have e3 : (i.kind == 3) = false := by rw [beq_eq_false_iff_ne]; exact hK.2.2
  generalize i.kind = kd at *
  clear hK hk0
  go_wp2
  go_ret
  exact ⟨rfl, HC.out⟩

set_option maxRecDepth 20000 in
set_option maxHeartbeats 1000000 in
theorem isValid_Z (w : World) (i : Ino) (hd : i.dir.length = 8) (hk0 : i.kind = 0) :
    Calls Try.prog 26 #[.agg (nC i).toArray] w fun e w' => e = .returned (.bool (sameI i zeroI)) ∧ Chg 0 0 w w' := by
  have u43 := Try.underlying39
  have hEq := fun w' => eq_inodes w' hd (k := zeroI) rfl
  have hics : (Try.prog.info? 39).map (·.size) = some (nC i).length := by rw [nC_len hd]; exact Try.sizeIno
  have hA := ArrC.new w 39 (nC i)
  have p0 := hA.cell 0 (nC_0 i)
  have e0 : (i.kind == 0) = true := by rw [beq_iff_eq]; exact hk0
  have HR : Hid ((w.alloc (.cells (nC i).toArray 39)).rangeAt w.heap.size 0 (nC i)) := hA.range
  have HC : Hid (Chg 0 0 w (w.alloc (.cells (nC i).toArray 39))) := Chg.alloc (Chg.refl 0 0 w) _
  rw [← Z12_ino] at hEq
  have HEq : Hid (∀ w' : World, (Op.equalIn 10000 39 (.agg (nC i).toArray) (.agg Z12.toArray)).run Try.prog w' = .ok (sameI i zeroI) w') := hEq
  generalize sameI i zeroI = D at *
  generalize i.kind = kd at *
  generalize nC i = cs at *
  clear hEq hA hk0
  go_enter Try.func26, Try.ntmps26
  go_wp2_with (first
    | (refine wpList_load_mid rfl 39 (.tmp 1) rfl w.heap.size 0 rfl cs _ HR.out u43 rfl hics ?_)
    | (refine wpList_eql_ino rfl (.tmp 6) (.tmp 7) rfl rfl rfl (by rw [Z12_eq]; exact HEq.out) ?_))
  go_ret
  exact ⟨rfl, HC.out⟩

theorem isValid_calls (w : World) (i : Ino) (hd : i.dir.length = 8) :
    Calls Try.prog 26 #[.agg (nC i).toArray] w fun e w' => e = .returned (.bool (inoB i)) ∧ Chg 0 0 w w' := by
  rw [← valB_eq hd]
  unfold valB
  by_cases hk0 : i.kind = 0
  · rw [if_pos hk0]; exact isValid_Z w i hd hk0
  · rw [if_neg hk0]
    cases hA : i.dir.all blkB with
    | false => exact isValid_A w i hd hk0 hA
    | true =>
      cases hX : blkB i.ind with
      | false => exact isValid_B w i hd hk0 hA hX
      | true =>
        cases hZ : szB2 i with
        | false => exact isValid_C w i hd hk0 hA hX hZ
        | true =>
          cases hS : sameI i (cutI i) with
          | false => exact isValid_D0 w i hd hk0 hA hX hZ hS
          | true =>
            simp only [Bool.true_and]
            unfold restB
            by_cases h1 : i.kind = 1
            · rw [if_pos h1]; exact isValid_D1 w i hd hk0 hA hX hZ hS h1
            · rw [if_neg h1]
              by_cases h2 : i.kind = 2
              · rw [if_pos h2]; exact isValid_D2 w i hd hk0 hA hX hZ hS h2 _ (show _ = _ from rfl)
              · rw [if_neg h2]
                by_cases h3 : i.kind = 3
                · rw [if_pos h3]; exact isValid_D3 w i hd hk0 hA hX hZ hS h3 _ (show _ = _ from rfl)
                · rw [if_neg h3]; exact isValid_D4 w i hd hk0 hA hX hZ hS ⟨h1, h2, h3⟩

end Go.Proofs.Ytedjnnfaahkppaa
