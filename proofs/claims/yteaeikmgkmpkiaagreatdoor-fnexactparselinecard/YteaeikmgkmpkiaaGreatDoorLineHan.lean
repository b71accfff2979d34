/- l14Handled of the model: the lines of handles. (made by tools/mkhan.py) -/
import Derived.Test.YteaeikmgkmpkiaaGreatDoorLineLong
namespace Go.Proofs.YteaeikmgkmpkiaaGreatDoor
open Go.RowKit Go.Lib

set_option maxRecDepth 20000 in
set_option maxHeartbeats 4000000 in
theorem han_close (w : World) (F : List ByteArray) (g fc : Nat) (hc : ∀ i, i < F.length → w.cell? ⟨g, i, none⟩ = some (.string (F.getD i noText))) (hs : ∀ x ∈ F, x.size ≤ 1048576) (hk : (F.getD 0 noText) = ⟨#[99, 108, 111, 115, 101]⟩) (hn : F.length = 2) :
    Calls Tryz.prog 17 #[.slice (some ⟨g, 0, none⟩) F.length fc] w (CallPost w ((numF (F.getD 1 noText)).map fun h => (⟨1, 13, ⟨#[]⟩, ⟨#[]⟩, h, 0, 0, ⟨#[]⟩, []⟩ : Lst))) := by
  have b_close : ((F.getD 0 noText).toList == [99, 108, 111, 115, 101]) = true := tl_yes hk
  have b_fstat : ((F.getD 0 noText).toList == [102, 115, 116, 97, 116]) = false := tl_no (by rw [hk]; decide)
  have b_ftrunc : ((F.getD 0 noText).toList == [102, 116, 114, 117, 110, 99]) = false := tl_no (by rw [hk]; decide)
  have b_pread : ((F.getD 0 noText).toList == [112, 114, 101, 97, 100]) = false := tl_no (by rw [hk]; decide)
  have b_pwrite : ((F.getD 0 noText).toList == [112, 119, 114, 105, 116, 101]) = false := tl_no (by rw [hk]; decide)
  have cl0 := hc 0 (by omega)
  have cl1 := hc 1 (by omega)
  have hg := lt_of_cell cl0
  have hx1 : (F.getD 1 noText).size ≤ 1048576 := hs _ (by rw [List.getD_eq_getElem?_getD, List.getElem?_eq_getElem (by omega : 1 < F.length)]; exact List.getElem_mem _)
  clear hc hs
  clear hk
  generalize F.getD 0 noText = x0 at *
  generalize F.getD 1 noText = x1 at *
  rw [hn]
  clear hn
  have HC1 : Hid (Chg 0 0 w (w.alloc (.cells #[.int .i64 0, .string ⟨#[]⟩, .string ⟨#[]⟩, .int .i64 0, .int .i64 0, .int .i64 0, .string ⟨#[]⟩] 24))) := Chg.alloc (Chg.refl 0 0 w) _
  have HB1 : Hid ((w.alloc (.cells #[.int .i64 0, .string ⟨#[]⟩, .string ⟨#[]⟩, .int .i64 0, .int .i64 0, .int .i64 0, .string ⟨#[]⟩] 24)).heap[w.heap.size]? = some (.cells #[.int .i64 0, .string ⟨#[]⟩, .string ⟨#[]⟩, .int .i64 0, .int .i64 0, .int .i64 0, .string ⟨#[]⟩] 24 (0, 0))) := heap_new w _
  have hz : w.heap.size < (w.alloc (.cells #[.int .i64 0, .string ⟨#[]⟩, .string ⟨#[]⟩, .int .i64 0, .int .i64 0, .int .i64 0, .string ⟨#[]⟩] 24)).heap.size := by simp
  have hN := fun W => l14Number_calls W x1 hx1
  obtain ⟨RR, HRR⟩ : ∃ RR, Hid (RR = (numF x1).map fun h => (⟨1, 13, ⟨#[]⟩, ⟨#[]⟩, h, 0, 0, ⟨#[]⟩, []⟩ : Lst)) := ⟨_, rfl⟩
  rw [← HRR.out]
  go_enter Tryz.func17, Tryz.ntmps17
  go_wp2_with fail
  generalize w.alloc (.cells #[.int .i64 0, .string ⟨#[]⟩, .string ⟨#[]⟩, .int .i64 0, .int .i64 0, .int .i64 0, .string ⟨#[]⟩] 24) = w1 at *
  refine (hN w1).mono ?_
  rintro e w2 ⟨rfl, cc1⟩
  have HC2 : Hid (Chg 0 0 w w2) := HC1.out.trans cc1
  have HB2 : Hid (w2.heap[w.heap.size]? = some (.cells #[.int .i64 0, .string ⟨#[]⟩, .string ⟨#[]⟩, .int .i64 0, .int .i64 0, .int .i64 0, .string ⟨#[]⟩] 24 (0, 0))) := (cc1.block _ (by have := HC1.out.size; omega) (by omega)).trans HB1.out
  have hz2 : w.heap.size < w2.heap.size := by have := cc1.size; omega
  have hg2 : g < w2.heap.size := by omega
  clear cc1 HB1
  have m0 := HC2.out.cell cl0 (by omega)
  have m1 := HC2.out.cell cl1 (by omega)
  clear hN
  cases hn : numF x1 with
  | none =>
    have HN : Hid (RR = none) := by show _ = _; rw [HRR.out, hn]; rfl
    rw [Option.isSome_none, Option.getD_none]
    clear hn HRR
    obtain ⟨⟨y0, y1, y2, y3, y4, y5, y6⟩, f0, f1, f2, f3, f4, f5, f6⟩ := seven_all HB2.out
    go_wp2
    exact bodyPost_ret (v := .tuple #[.agg (cCall ⟨0, 0, ⟨#[]⟩, ⟨#[]⟩, 0, 0, 0, ⟨#[]⟩, []⟩), .bool false]) (by simp [results, Tryz.results17, go_sem, *]) rfl ⟨⟨0, 0, ⟨#[]⟩, ⟨#[]⟩, 0, 0, 0, ⟨#[]⟩, []⟩, by rw [HN.out]; rfl, fun s' e => by (rw [HN.out] at e; cases e), (Chg.alloc (Chg.setCell (Chg.setCell (Chg.setCell (Chg.setCell (Chg.setCell (Chg.setCell (Chg.setCell HC2.out (Or.inr (Nat.le_refl _)) _) (Or.inr (Nat.le_refl _)) _) (Or.inr (Nat.le_refl _)) _) (Or.inr (Nat.le_refl _)) _) (Or.inr (Nat.le_refl _)) _) (Or.inr (Nat.le_refl _)) _) (Or.inr (Nat.le_refl _)) _) _)⟩
  | some h =>
    have HN : Hid (RR = some ⟨1, 13, ⟨#[]⟩, ⟨#[]⟩, h, 0, 0, ⟨#[]⟩, []⟩) := by show _ = _; rw [HRR.out, hn]; rfl
    rw [Option.isSome_some, Option.getD_some]
    clear hn HRR
    obtain ⟨⟨y0, y1, y2, y3, y4, y5, y6⟩, f0, f1, f2, f3, f4, f5, f6⟩ := seven_all HB2.out
    go_wp2
    exact bodyPost_ret (v := .tuple #[.agg (cCall ⟨1, 13, ⟨#[]⟩, ⟨#[]⟩, h, 0, 0, ⟨#[]⟩, []⟩), .bool true]) (by simp [results, Tryz.results17, go_sem, *]) rfl ⟨⟨1, 13, ⟨#[]⟩, ⟨#[]⟩, h, 0, 0, ⟨#[]⟩, []⟩, by rw [HN.out]; rfl, fun s' e => by (rw [HN.out] at e; injection e with e; exact e.symm), (Chg.alloc (Chg.setCell (Chg.setCell (Chg.setCell (Chg.setCell (Chg.setCell (Chg.setCell (Chg.setCell HC2.out (Or.inr (Nat.le_refl _)) _) (Or.inr (Nat.le_refl _)) _) (Or.inr (Nat.le_refl _)) _) (Or.inr (Nat.le_refl _)) _) (Or.inr (Nat.le_refl _)) _) (Or.inr (Nat.le_refl _)) _) (Or.inr (Nat.le_refl _)) _) _)⟩

set_option maxRecDepth 20000 in
set_option maxHeartbeats 4000000 in
theorem han_fstat (w : World) (F : List ByteArray) (g fc : Nat) (hc : ∀ i, i < F.length → w.cell? ⟨g, i, none⟩ = some (.string (F.getD i noText))) (hs : ∀ x ∈ F, x.size ≤ 1048576) (hk : (F.getD 0 noText) = ⟨#[102, 115, 116, 97, 116]⟩) (hn : F.length = 2) :
    Calls Tryz.prog 17 #[.slice (some ⟨g, 0, none⟩) F.length fc] w (CallPost w ((numF (F.getD 1 noText)).map fun h => (⟨1, 16, ⟨#[]⟩, ⟨#[]⟩, h, 0, 0, ⟨#[]⟩, []⟩ : Lst))) := by
  have b_close : ((F.getD 0 noText).toList == [99, 108, 111, 115, 101]) = false := tl_no (by rw [hk]; decide)
  have b_fstat : ((F.getD 0 noText).toList == [102, 115, 116, 97, 116]) = true := tl_yes hk
  have b_ftrunc : ((F.getD 0 noText).toList == [102, 116, 114, 117, 110, 99]) = false := tl_no (by rw [hk]; decide)
  have b_pread : ((F.getD 0 noText).toList == [112, 114, 101, 97, 100]) = false := tl_no (by rw [hk]; decide)
  have b_pwrite : ((F.getD 0 noText).toList == [112, 119, 114, 105, 116, 101]) = false := tl_no (by rw [hk]; decide)
  have cl0 := hc 0 (by omega)
  have cl1 := hc 1 (by omega)
  have hg := lt_of_cell cl0
  have hx1 : (F.getD 1 noText).size ≤ 1048576 := hs _ (by rw [List.getD_eq_getElem?_getD, List.getElem?_eq_getElem (by omega : 1 < F.length)]; exact List.getElem_mem _)
  clear hc hs
  clear hk
  generalize F.getD 0 noText = x0 at *
  generalize F.getD 1 noText = x1 at *
  rw [hn]
  clear hn
  have HC1 : Hid (Chg 0 0 w (w.alloc (.cells #[.int .i64 0, .string ⟨#[]⟩, .string ⟨#[]⟩, .int .i64 0, .int .i64 0, .int .i64 0, .string ⟨#[]⟩] 24))) := Chg.alloc (Chg.refl 0 0 w) _
  have HB1 : Hid ((w.alloc (.cells #[.int .i64 0, .string ⟨#[]⟩, .string ⟨#[]⟩, .int .i64 0, .int .i64 0, .int .i64 0, .string ⟨#[]⟩] 24)).heap[w.heap.size]? = some (.cells #[.int .i64 0, .string ⟨#[]⟩, .string ⟨#[]⟩, .int .i64 0, .int .i64 0, .int .i64 0, .string ⟨#[]⟩] 24 (0, 0))) := heap_new w _
  have hz : w.heap.size < (w.alloc (.cells #[.int .i64 0, .string ⟨#[]⟩, .string ⟨#[]⟩, .int .i64 0, .int .i64 0, .int .i64 0, .string ⟨#[]⟩] 24)).heap.size := by simp
  have hN := fun W => l14Number_calls W x1 hx1
  obtain ⟨RR, HRR⟩ : ∃ RR, Hid (RR = (numF x1).map fun h => (⟨1, 16, ⟨#[]⟩, ⟨#[]⟩, h, 0, 0, ⟨#[]⟩, []⟩ : Lst)) := ⟨_, rfl⟩
  rw [← HRR.out]
  go_enter Tryz.func17, Tryz.ntmps17
  go_wp2_with fail
  generalize w.alloc (.cells #[.int .i64 0, .string ⟨#[]⟩, .string ⟨#[]⟩, .int .i64 0, .int .i64 0, .int .i64 0, .string ⟨#[]⟩] 24) = w1 at *
  refine (hN w1).mono ?_
  rintro e w2 ⟨rfl, cc1⟩
  have HC2 : Hid (Chg 0 0 w w2) := HC1.out.trans cc1
  have HB2 : Hid (w2.heap[w.heap.size]? = some (.cells #[.int .i64 0, .string ⟨#[]⟩, .string ⟨#[]⟩, .int .i64 0, .int .i64 0, .int .i64 0, .string ⟨#[]⟩] 24 (0, 0))) := (cc1.block _ (by have := HC1.out.size; omega) (by omega)).trans HB1.out
  have hz2 : w.heap.size < w2.heap.size := by have := cc1.size; omega
  have hg2 : g < w2.heap.size := by omega
  clear cc1 HB1
  have m0 := HC2.out.cell cl0 (by omega)
  have m1 := HC2.out.cell cl1 (by omega)
  clear hN
  cases hn : numF x1 with
  | none =>
    have HN : Hid (RR = none) := by show _ = _; rw [HRR.out, hn]; rfl
    rw [Option.isSome_none, Option.getD_none]
    clear hn HRR
    obtain ⟨⟨y0, y1, y2, y3, y4, y5, y6⟩, f0, f1, f2, f3, f4, f5, f6⟩ := seven_all HB2.out
    go_wp2
    exact bodyPost_ret (v := .tuple #[.agg (cCall ⟨0, 0, ⟨#[]⟩, ⟨#[]⟩, 0, 0, 0, ⟨#[]⟩, []⟩), .bool false]) (by simp [results, Tryz.results17, go_sem, *]) rfl ⟨⟨0, 0, ⟨#[]⟩, ⟨#[]⟩, 0, 0, 0, ⟨#[]⟩, []⟩, by rw [HN.out]; rfl, fun s' e => by (rw [HN.out] at e; cases e), (Chg.alloc (Chg.setCell (Chg.setCell (Chg.setCell (Chg.setCell (Chg.setCell (Chg.setCell (Chg.setCell HC2.out (Or.inr (Nat.le_refl _)) _) (Or.inr (Nat.le_refl _)) _) (Or.inr (Nat.le_refl _)) _) (Or.inr (Nat.le_refl _)) _) (Or.inr (Nat.le_refl _)) _) (Or.inr (Nat.le_refl _)) _) (Or.inr (Nat.le_refl _)) _) _)⟩
  | some h =>
    have HN : Hid (RR = some ⟨1, 16, ⟨#[]⟩, ⟨#[]⟩, h, 0, 0, ⟨#[]⟩, []⟩) := by show _ = _; rw [HRR.out, hn]; rfl
    rw [Option.isSome_some, Option.getD_some]
    clear hn HRR
    obtain ⟨⟨y0, y1, y2, y3, y4, y5, y6⟩, f0, f1, f2, f3, f4, f5, f6⟩ := seven_all HB2.out
    go_wp2
    exact bodyPost_ret (v := .tuple #[.agg (cCall ⟨1, 16, ⟨#[]⟩, ⟨#[]⟩, h, 0, 0, ⟨#[]⟩, []⟩), .bool true]) (by simp [results, Tryz.results17, go_sem, *]) rfl ⟨⟨1, 16, ⟨#[]⟩, ⟨#[]⟩, h, 0, 0, ⟨#[]⟩, []⟩, by rw [HN.out]; rfl, fun s' e => by (rw [HN.out] at e; injection e with e; exact e.symm), (Chg.alloc (Chg.setCell (Chg.setCell (Chg.setCell (Chg.setCell (Chg.setCell (Chg.setCell (Chg.setCell HC2.out (Or.inr (Nat.le_refl _)) _) (Or.inr (Nat.le_refl _)) _) (Or.inr (Nat.le_refl _)) _) (Or.inr (Nat.le_refl _)) _) (Or.inr (Nat.le_refl _)) _) (Or.inr (Nat.le_refl _)) _) (Or.inr (Nat.le_refl _)) _) _)⟩

set_option maxRecDepth 20000 in
set_option maxHeartbeats 4000000 in
theorem han_ftrunc (w : World) (F : List ByteArray) (g fc : Nat) (hc : ∀ i, i < F.length → w.cell? ⟨g, i, none⟩ = some (.string (F.getD i noText))) (hs : ∀ x ∈ F, x.size ≤ 1048576) (hk : (F.getD 0 noText) = ⟨#[102, 116, 114, 117, 110, 99]⟩) (hn : F.length = 3) :
    Calls Tryz.prog 17 #[.slice (some ⟨g, 0, none⟩) F.length fc] w (CallPost w ((numF (F.getD 1 noText)).bind fun h => (numF (F.getD 2 noText)).map fun n => (⟨1, 12, ⟨#[]⟩, ⟨#[]⟩, h, 0, n, ⟨#[]⟩, []⟩ : Lst))) := by
  have b_close : ((F.getD 0 noText).toList == [99, 108, 111, 115, 101]) = false := tl_no (by rw [hk]; decide)
  have b_fstat : ((F.getD 0 noText).toList == [102, 115, 116, 97, 116]) = false := tl_no (by rw [hk]; decide)
  have b_ftrunc : ((F.getD 0 noText).toList == [102, 116, 114, 117, 110, 99]) = true := tl_yes hk
  have b_pread : ((F.getD 0 noText).toList == [112, 114, 101, 97, 100]) = false := tl_no (by rw [hk]; decide)
  have b_pwrite : ((F.getD 0 noText).toList == [112, 119, 114, 105, 116, 101]) = false := tl_no (by rw [hk]; decide)
  have cl0 := hc 0 (by omega)
  have cl1 := hc 1 (by omega)
  have cl2 := hc 2 (by omega)
  have hg := lt_of_cell cl0
  have hx1 : (F.getD 1 noText).size ≤ 1048576 := hs _ (by rw [List.getD_eq_getElem?_getD, List.getElem?_eq_getElem (by omega : 1 < F.length)]; exact List.getElem_mem _)
  have hx2 : (F.getD 2 noText).size ≤ 1048576 := hs _ (by rw [List.getD_eq_getElem?_getD, List.getElem?_eq_getElem (by omega : 2 < F.length)]; exact List.getElem_mem _)
  clear hc hs
  clear hk
  generalize F.getD 0 noText = x0 at *
  generalize F.getD 1 noText = x1 at *
  generalize F.getD 2 noText = x2 at *
  rw [hn]
  clear hn
  have HC1 : Hid (Chg 0 0 w (w.alloc (.cells #[.int .i64 0, .string ⟨#[]⟩, .string ⟨#[]⟩, .int .i64 0, .int .i64 0, .int .i64 0, .string ⟨#[]⟩] 24))) := Chg.alloc (Chg.refl 0 0 w) _
  have HB1 : Hid ((w.alloc (.cells #[.int .i64 0, .string ⟨#[]⟩, .string ⟨#[]⟩, .int .i64 0, .int .i64 0, .int .i64 0, .string ⟨#[]⟩] 24)).heap[w.heap.size]? = some (.cells #[.int .i64 0, .string ⟨#[]⟩, .string ⟨#[]⟩, .int .i64 0, .int .i64 0, .int .i64 0, .string ⟨#[]⟩] 24 (0, 0))) := heap_new w _
  have hz : w.heap.size < (w.alloc (.cells #[.int .i64 0, .string ⟨#[]⟩, .string ⟨#[]⟩, .int .i64 0, .int .i64 0, .int .i64 0, .string ⟨#[]⟩] 24)).heap.size := by simp
  have hN := fun W => l14Number_calls W x1 hx1
  have hM := fun W => l14Number_calls W x2 hx2
  obtain ⟨RR, HRR⟩ : ∃ RR, Hid (RR = (numF x1).bind fun h => (numF x2).map fun n => (⟨1, 12, ⟨#[]⟩, ⟨#[]⟩, h, 0, n, ⟨#[]⟩, []⟩ : Lst)) := ⟨_, rfl⟩
  rw [← HRR.out]
  go_enter Tryz.func17, Tryz.ntmps17
  go_wp2_with fail
  generalize w.alloc (.cells #[.int .i64 0, .string ⟨#[]⟩, .string ⟨#[]⟩, .int .i64 0, .int .i64 0, .int .i64 0, .string ⟨#[]⟩] 24) = w1 at *
  refine (hN w1).mono ?_
  rintro e w2 ⟨rfl, cc1⟩
  have HC2 : Hid (Chg 0 0 w w2) := HC1.out.trans cc1
  have HB2 : Hid (w2.heap[w.heap.size]? = some (.cells #[.int .i64 0, .string ⟨#[]⟩, .string ⟨#[]⟩, .int .i64 0, .int .i64 0, .int .i64 0, .string ⟨#[]⟩] 24 (0, 0))) := (cc1.block _ (by have := HC1.out.size; omega) (by omega)).trans HB1.out
  have hz2 : w.heap.size < w2.heap.size := by have := cc1.size; omega
  have hg2 : g < w2.heap.size := by omega
  clear cc1 HB1
  have m0 := HC2.out.cell cl0 (by omega)
  have m1 := HC2.out.cell cl1 (by omega)
  have m2 := HC2.out.cell cl2 (by omega)
  clear hN
  cases hn : numF x1 with
  | none =>
    have HN : Hid (RR = none) := by show _ = _; rw [HRR.out, hn]; rfl
    rw [Option.isSome_none, Option.getD_none]
    clear hn HRR
    obtain ⟨⟨y0, y1, y2, y3, y4, y5, y6⟩, f0, f1, f2, f3, f4, f5, f6⟩ := seven_all HB2.out
    go_wp2
    exact bodyPost_ret (v := .tuple #[.agg (cCall ⟨0, 0, ⟨#[]⟩, ⟨#[]⟩, 0, 0, 0, ⟨#[]⟩, []⟩), .bool false]) (by simp [results, Tryz.results17, go_sem, *]) rfl ⟨⟨0, 0, ⟨#[]⟩, ⟨#[]⟩, 0, 0, 0, ⟨#[]⟩, []⟩, by rw [HN.out]; rfl, fun s' e => by (rw [HN.out] at e; cases e), (Chg.alloc (Chg.setCell (Chg.setCell (Chg.setCell (Chg.setCell (Chg.setCell (Chg.setCell (Chg.setCell HC2.out (Or.inr (Nat.le_refl _)) _) (Or.inr (Nat.le_refl _)) _) (Or.inr (Nat.le_refl _)) _) (Or.inr (Nat.le_refl _)) _) (Or.inr (Nat.le_refl _)) _) (Or.inr (Nat.le_refl _)) _) (Or.inr (Nat.le_refl _)) _) _)⟩
  | some h =>
    obtain ⟨n, g1, e1, HE0, HE⟩ : ∃ n g1, Value.tuple #[.int .i64 ((numF x2).getD 0), .bool (numF x2).isSome] = .tuple #[.int .i64 n, .bool g1] ∧ Hid (RR.isSome = g1) ∧ Hid (∀ s', RR = some s' → s' = ⟨1, 12, ⟨#[]⟩, ⟨#[]⟩, h, 0, n, ⟨#[]⟩, []⟩) := by
      refine ⟨_, _, rfl, ?_, fun s' e => ?_⟩
      · show _ = _
        rw [HRR.out, hn]
        cases numF x2 <;> rfl
      · rw [HRR.out, hn] at e
        cases hm : numF x2 with
        | none => rw [hm] at e; cases e
        | some m => rw [hm] at e; injection e with e; exact e.symm
    rw [e1] at hM
    clear e1
    rw [Option.isSome_some, Option.getD_some]
    clear hn HRR
    have HC3 : Hid (Chg 0 0 w (w2.alloc (.cells #[.int .i64 0, .string ⟨#[]⟩, .string ⟨#[]⟩, .int .i64 h, .int .i64 0, .int .i64 0, .string ⟨#[]⟩] 24))) := Chg.alloc HC2.out _
    have HD3 : Hid ((w2.alloc (.cells #[.int .i64 0, .string ⟨#[]⟩, .string ⟨#[]⟩, .int .i64 h, .int .i64 0, .int .i64 0, .string ⟨#[]⟩] 24)).heap[w2.heap.size]? = some (.cells #[.int .i64 0, .string ⟨#[]⟩, .string ⟨#[]⟩, .int .i64 h, .int .i64 0, .int .i64 0, .string ⟨#[]⟩] 24 (0, 0))) := heap_new w2 _
    have HB3 : Hid ((w2.alloc (.cells #[.int .i64 0, .string ⟨#[]⟩, .string ⟨#[]⟩, .int .i64 h, .int .i64 0, .int .i64 0, .string ⟨#[]⟩] 24)).heap[w.heap.size]? = some (.cells #[.int .i64 0, .string ⟨#[]⟩, .string ⟨#[]⟩, .int .i64 0, .int .i64 0, .int .i64 0, .string ⟨#[]⟩] 24 (0, 0))) := ((Chg.alloc (Chg.refl 0 0 w2) _).block _ hz2 (by omega)).trans HB2.out
    have hq3 : w2.heap.size < (w2.alloc (.cells #[.int .i64 0, .string ⟨#[]⟩, .string ⟨#[]⟩, .int .i64 h, .int .i64 0, .int .i64 0, .string ⟨#[]⟩] 24)).heap.size := by simp
    go_wp2_with fail
    generalize w2.alloc (.cells #[.int .i64 0, .string ⟨#[]⟩, .string ⟨#[]⟩, .int .i64 h, .int .i64 0, .int .i64 0, .string ⟨#[]⟩] 24) = w3 at *
    clear m0 m1 m2
    refine (hM w3).mono ?_
    rintro e w4 ⟨rfl, cc3⟩
    have HC4 : Hid (Chg 0 0 w w4) := HC3.out.trans cc3
    have HB4 : Hid (w4.heap[w.heap.size]? = some (.cells #[.int .i64 0, .string ⟨#[]⟩, .string ⟨#[]⟩, .int .i64 0, .int .i64 0, .int .i64 0, .string ⟨#[]⟩] 24 (0, 0))) := (cc3.block _ (by omega) (by omega)).trans HB3.out
    have HD4 : Hid (w4.heap[w2.heap.size]? = some (.cells #[.int .i64 0, .string ⟨#[]⟩, .string ⟨#[]⟩, .int .i64 h, .int .i64 0, .int .i64 0, .string ⟨#[]⟩] 24 (0, 0))) := (cc3.block _ (by omega) (by omega)).trans HD3.out
    have hq4 : w2.heap.size < w4.heap.size := by have := cc3.size; omega
    have hz4 : w.heap.size < w4.heap.size := by omega
    have hg4 : g < w4.heap.size := by omega
    clear cc3 HB3 HD3
    have m0 := HC4.out.cell cl0 (by omega)
    have m1 := HC4.out.cell cl1 (by omega)
    have m2 := HC4.out.cell cl2 (by omega)
    obtain ⟨⟨y0, y1, y2, y3, y4, y5, y6⟩, f0, f1, f2, f3, f4, f5, f6⟩ := seven_all HB4.out
    obtain ⟨⟨z0, z1, z2, z3, z4, z5, z6⟩, k0, k1, k2, k3, k4, k5, k6⟩ := seven_all HD4.out
    go_wp2
    exact bodyPost_ret (v := .tuple #[.agg (cCall ⟨1, 12, ⟨#[]⟩, ⟨#[]⟩, h, 0, n, ⟨#[]⟩, []⟩), .bool g1]) (by simp [results, Tryz.results17, go_sem, *]) rfl ⟨⟨1, 12, ⟨#[]⟩, ⟨#[]⟩, h, 0, n, ⟨#[]⟩, []⟩, by rw [HE0.out], HE.out, (Chg.setCell (Chg.setCell (Chg.setCell (Chg.setCell (Chg.setCell (Chg.setCell (Chg.setCell (Chg.setCell (Chg.setCell HC4.out (Or.inr (Nat.le_of_lt hz2)) _) (Or.inr (Nat.le_of_lt hz2)) _) (Or.inr (Nat.le_refl _)) _) (Or.inr (Nat.le_refl _)) _) (Or.inr (Nat.le_refl _)) _) (Or.inr (Nat.le_refl _)) _) (Or.inr (Nat.le_refl _)) _) (Or.inr (Nat.le_refl _)) _) (Or.inr (Nat.le_refl _)) _)⟩

set_option maxRecDepth 20000 in
set_option maxHeartbeats 4000000 in
theorem han_pread (w : World) (F : List ByteArray) (g fc : Nat) (hc : ∀ i, i < F.length → w.cell? ⟨g, i, none⟩ = some (.string (F.getD i noText))) (hs : ∀ x ∈ F, x.size ≤ 1048576) (hk : (F.getD 0 noText) = ⟨#[112, 114, 101, 97, 100]⟩) (hn : F.length = 4) :
    Calls Tryz.prog 17 #[.slice (some ⟨g, 0, none⟩) F.length fc] w (CallPost w ((numF (F.getD 1 noText)).bind fun h => (numF (F.getD 2 noText)).bind fun n => (numF (F.getD 3 noText)).map fun m => (⟨1, 15, ⟨#[]⟩, ⟨#[]⟩, h, n, m, ⟨#[]⟩, []⟩ : Lst))) := by
  have b_close : ((F.getD 0 noText).toList == [99, 108, 111, 115, 101]) = false := tl_no (by rw [hk]; decide)
  have b_fstat : ((F.getD 0 noText).toList == [102, 115, 116, 97, 116]) = false := tl_no (by rw [hk]; decide)
  have b_ftrunc : ((F.getD 0 noText).toList == [102, 116, 114, 117, 110, 99]) = false := tl_no (by rw [hk]; decide)
  have b_pread : ((F.getD 0 noText).toList == [112, 114, 101, 97, 100]) = true := tl_yes hk
  have b_pwrite : ((F.getD 0 noText).toList == [112, 119, 114, 105, 116, 101]) = false := tl_no (by rw [hk]; decide)
  have cl0 := hc 0 (by omega)
  have cl1 := hc 1 (by omega)
  have cl2 := hc 2 (by omega)
  have cl3 := hc 3 (by omega)
  have hg := lt_of_cell cl0
  have hx1 : (F.getD 1 noText).size ≤ 1048576 := hs _ (by rw [List.getD_eq_getElem?_getD, List.getElem?_eq_getElem (by omega : 1 < F.length)]; exact List.getElem_mem _)
  have hx2 : (F.getD 2 noText).size ≤ 1048576 := hs _ (by rw [List.getD_eq_getElem?_getD, List.getElem?_eq_getElem (by omega : 2 < F.length)]; exact List.getElem_mem _)
  have hx3 : (F.getD 3 noText).size ≤ 1048576 := hs _ (by rw [List.getD_eq_getElem?_getD, List.getElem?_eq_getElem (by omega : 3 < F.length)]; exact List.getElem_mem _)
  clear hc hs
  clear hk
  generalize F.getD 0 noText = x0 at *
  generalize F.getD 1 noText = x1 at *
  generalize F.getD 2 noText = x2 at *
  generalize F.getD 3 noText = x3 at *
  rw [hn]
  clear hn
  have HC1 : Hid (Chg 0 0 w (w.alloc (.cells #[.int .i64 0, .string ⟨#[]⟩, .string ⟨#[]⟩, .int .i64 0, .int .i64 0, .int .i64 0, .string ⟨#[]⟩] 24))) := Chg.alloc (Chg.refl 0 0 w) _
  have HB1 : Hid ((w.alloc (.cells #[.int .i64 0, .string ⟨#[]⟩, .string ⟨#[]⟩, .int .i64 0, .int .i64 0, .int .i64 0, .string ⟨#[]⟩] 24)).heap[w.heap.size]? = some (.cells #[.int .i64 0, .string ⟨#[]⟩, .string ⟨#[]⟩, .int .i64 0, .int .i64 0, .int .i64 0, .string ⟨#[]⟩] 24 (0, 0))) := heap_new w _
  have hz : w.heap.size < (w.alloc (.cells #[.int .i64 0, .string ⟨#[]⟩, .string ⟨#[]⟩, .int .i64 0, .int .i64 0, .int .i64 0, .string ⟨#[]⟩] 24)).heap.size := by simp
  have hN := fun W => l14Number_calls W x1 hx1
  have hM := fun W => l14Number_calls W x2 hx2
  have hP := fun W => l14Number_calls W x3 hx3
  obtain ⟨RR, HRR⟩ : ∃ RR, Hid (RR = (numF x1).bind fun h => (numF x2).bind fun n => (numF x3).map fun m => (⟨1, 15, ⟨#[]⟩, ⟨#[]⟩, h, n, m, ⟨#[]⟩, []⟩ : Lst)) := ⟨_, rfl⟩
  rw [← HRR.out]
  go_enter Tryz.func17, Tryz.ntmps17
  go_wp2_with fail
  generalize w.alloc (.cells #[.int .i64 0, .string ⟨#[]⟩, .string ⟨#[]⟩, .int .i64 0, .int .i64 0, .int .i64 0, .string ⟨#[]⟩] 24) = w1 at *
  refine (hN w1).mono ?_
  rintro e w2 ⟨rfl, cc1⟩
  have HC2 : Hid (Chg 0 0 w w2) := HC1.out.trans cc1
  have HB2 : Hid (w2.heap[w.heap.size]? = some (.cells #[.int .i64 0, .string ⟨#[]⟩, .string ⟨#[]⟩, .int .i64 0, .int .i64 0, .int .i64 0, .string ⟨#[]⟩] 24 (0, 0))) := (cc1.block _ (by have := HC1.out.size; omega) (by omega)).trans HB1.out
  have hz2 : w.heap.size < w2.heap.size := by have := cc1.size; omega
  have hg2 : g < w2.heap.size := by omega
  clear cc1 HB1
  have m0 := HC2.out.cell cl0 (by omega)
  have m1 := HC2.out.cell cl1 (by omega)
  have m2 := HC2.out.cell cl2 (by omega)
  have m3 := HC2.out.cell cl3 (by omega)
  clear hN
  cases hn : numF x1 with
  | none =>
    have HN : Hid (RR = none) := by show _ = _; rw [HRR.out, hn]; rfl
    rw [Option.isSome_none, Option.getD_none]
    clear hn HRR
    obtain ⟨⟨y0, y1, y2, y3, y4, y5, y6⟩, f0, f1, f2, f3, f4, f5, f6⟩ := seven_all HB2.out
    go_wp2
    exact bodyPost_ret (v := .tuple #[.agg (cCall ⟨0, 0, ⟨#[]⟩, ⟨#[]⟩, 0, 0, 0, ⟨#[]⟩, []⟩), .bool false]) (by simp [results, Tryz.results17, go_sem, *]) rfl ⟨⟨0, 0, ⟨#[]⟩, ⟨#[]⟩, 0, 0, 0, ⟨#[]⟩, []⟩, by rw [HN.out]; rfl, fun s' e => by (rw [HN.out] at e; cases e), (Chg.alloc (Chg.setCell (Chg.setCell (Chg.setCell (Chg.setCell (Chg.setCell (Chg.setCell (Chg.setCell HC2.out (Or.inr (Nat.le_refl _)) _) (Or.inr (Nat.le_refl _)) _) (Or.inr (Nat.le_refl _)) _) (Or.inr (Nat.le_refl _)) _) (Or.inr (Nat.le_refl _)) _) (Or.inr (Nat.le_refl _)) _) (Or.inr (Nat.le_refl _)) _) _)⟩
  | some h =>
    obtain ⟨n, g1, m, g2, e1, e3, HE0, HE⟩ : ∃ n g1 m g2, Value.tuple #[.int .i64 ((numF x2).getD 0), .bool (numF x2).isSome] = .tuple #[.int .i64 n, .bool g1] ∧ Value.tuple #[.int .i64 ((numF x3).getD 0), .bool (numF x3).isSome] = .tuple #[.int .i64 m, .bool g2] ∧ Hid (RR.isSome = (g1 && g2)) ∧ Hid (∀ s', RR = some s' → s' = ⟨1, 15, ⟨#[]⟩, ⟨#[]⟩, h, n, m, ⟨#[]⟩, []⟩) := by
      refine ⟨_, _, _, _, rfl, rfl, ?_, fun s' e => ?_⟩
      · show _ = _
        rw [HRR.out, hn]
        cases numF x2 <;> cases numF x3 <;> rfl
      · rw [HRR.out, hn] at e
        cases hm : numF x2 with
        | none => rw [hm] at e; cases e
        | some m => cases hm2 : numF x3 with
          | none => rw [hm, hm2] at e; cases e
          | some m2 => rw [hm, hm2] at e; injection e with e; exact e.symm
    rw [e1] at hM
    rw [e3] at hP
    clear e1 e3
    rw [Option.isSome_some, Option.getD_some]
    clear hn HRR
    have HC3 : Hid (Chg 0 0 w (w2.alloc (.cells #[.int .i64 0, .string ⟨#[]⟩, .string ⟨#[]⟩, .int .i64 h, .int .i64 0, .int .i64 0, .string ⟨#[]⟩] 24))) := Chg.alloc HC2.out _
    have HD3 : Hid ((w2.alloc (.cells #[.int .i64 0, .string ⟨#[]⟩, .string ⟨#[]⟩, .int .i64 h, .int .i64 0, .int .i64 0, .string ⟨#[]⟩] 24)).heap[w2.heap.size]? = some (.cells #[.int .i64 0, .string ⟨#[]⟩, .string ⟨#[]⟩, .int .i64 h, .int .i64 0, .int .i64 0, .string ⟨#[]⟩] 24 (0, 0))) := heap_new w2 _
    have HB3 : Hid ((w2.alloc (.cells #[.int .i64 0, .string ⟨#[]⟩, .string ⟨#[]⟩, .int .i64 h, .int .i64 0, .int .i64 0, .string ⟨#[]⟩] 24)).heap[w.heap.size]? = some (.cells #[.int .i64 0, .string ⟨#[]⟩, .string ⟨#[]⟩, .int .i64 0, .int .i64 0, .int .i64 0, .string ⟨#[]⟩] 24 (0, 0))) := ((Chg.alloc (Chg.refl 0 0 w2) _).block _ hz2 (by omega)).trans HB2.out
    have hq3 : w2.heap.size < (w2.alloc (.cells #[.int .i64 0, .string ⟨#[]⟩, .string ⟨#[]⟩, .int .i64 h, .int .i64 0, .int .i64 0, .string ⟨#[]⟩] 24)).heap.size := by simp
    go_wp2_with fail
    generalize w2.alloc (.cells #[.int .i64 0, .string ⟨#[]⟩, .string ⟨#[]⟩, .int .i64 h, .int .i64 0, .int .i64 0, .string ⟨#[]⟩] 24) = w3 at *
    clear m0 m1 m2 m3
    refine (hM w3).mono ?_
    rintro e w4 ⟨rfl, cc3⟩
    have HC4 : Hid (Chg 0 0 w w4) := HC3.out.trans cc3
    have HB4 : Hid (w4.heap[w.heap.size]? = some (.cells #[.int .i64 0, .string ⟨#[]⟩, .string ⟨#[]⟩, .int .i64 0, .int .i64 0, .int .i64 0, .string ⟨#[]⟩] 24 (0, 0))) := (cc3.block _ (by omega) (by omega)).trans HB3.out
    have HD4 : Hid (w4.heap[w2.heap.size]? = some (.cells #[.int .i64 0, .string ⟨#[]⟩, .string ⟨#[]⟩, .int .i64 h, .int .i64 0, .int .i64 0, .string ⟨#[]⟩] 24 (0, 0))) := (cc3.block _ (by omega) (by omega)).trans HD3.out
    have hq4 : w2.heap.size < w4.heap.size := by have := cc3.size; omega
    have hz4 : w.heap.size < w4.heap.size := by omega
    have hg4 : g < w4.heap.size := by omega
    clear cc3 HB3 HD3
    have m0 := HC4.out.cell cl0 (by omega)
    have m1 := HC4.out.cell cl1 (by omega)
    have m2 := HC4.out.cell cl2 (by omega)
    have m3 := HC4.out.cell cl3 (by omega)
    go_wp2_with fail
    clear m0 m1 m2 m3
    refine (hP w4).mono ?_
    rintro e w5 ⟨rfl, cc4⟩
    have HC5 : Hid (Chg 0 0 w w5) := HC4.out.trans cc4
    have HB5 : Hid (w5.heap[w.heap.size]? = some (.cells #[.int .i64 0, .string ⟨#[]⟩, .string ⟨#[]⟩, .int .i64 0, .int .i64 0, .int .i64 0, .string ⟨#[]⟩] 24 (0, 0))) := (cc4.block _ (by omega) (by omega)).trans HB4.out
    have HD5 : Hid (w5.heap[w2.heap.size]? = some (.cells #[.int .i64 0, .string ⟨#[]⟩, .string ⟨#[]⟩, .int .i64 h, .int .i64 0, .int .i64 0, .string ⟨#[]⟩] 24 (0, 0))) := (cc4.block _ (by omega) (by omega)).trans HD4.out
    have hq5 : w2.heap.size < w5.heap.size := by have := cc4.size; omega
    have hz5 : w.heap.size < w5.heap.size := by omega
    have hg5 : g < w5.heap.size := by omega
    clear cc4 HB4 HD4
    have m0 := HC5.out.cell cl0 (by omega)
    have m1 := HC5.out.cell cl1 (by omega)
    have m2 := HC5.out.cell cl2 (by omega)
    have m3 := HC5.out.cell cl3 (by omega)
    obtain ⟨⟨y0, y1, y2, y3, y4, y5, y6⟩, f0, f1, f2, f3, f4, f5, f6⟩ := seven_all HB5.out
    obtain ⟨⟨z0, z1, z2, z3, z4, z5, z6⟩, k0, k1, k2, k3, k4, k5, k6⟩ := seven_all HD5.out
    cases g1
    · go_wp2
      exact bodyPost_ret (v := .tuple #[.agg (cCall ⟨1, 15, ⟨#[]⟩, ⟨#[]⟩, h, n, m, ⟨#[]⟩, []⟩), .bool (false && g2)]) (by simp [results, Tryz.results17, go_sem, *]) rfl ⟨⟨1, 15, ⟨#[]⟩, ⟨#[]⟩, h, n, m, ⟨#[]⟩, []⟩, by rw [HE0.out], HE.out, (Chg.setCell (Chg.setCell (Chg.setCell (Chg.setCell (Chg.setCell (Chg.setCell (Chg.setCell (Chg.setCell (Chg.setCell (Chg.setCell HC5.out (Or.inr (Nat.le_of_lt hz2)) _) (Or.inr (Nat.le_of_lt hz2)) _) (Or.inr (Nat.le_of_lt hz2)) _) (Or.inr (Nat.le_refl _)) _) (Or.inr (Nat.le_refl _)) _) (Or.inr (Nat.le_refl _)) _) (Or.inr (Nat.le_refl _)) _) (Or.inr (Nat.le_refl _)) _) (Or.inr (Nat.le_refl _)) _) (Or.inr (Nat.le_refl _)) _)⟩
    · go_wp2
      exact bodyPost_ret (v := .tuple #[.agg (cCall ⟨1, 15, ⟨#[]⟩, ⟨#[]⟩, h, n, m, ⟨#[]⟩, []⟩), .bool (true && g2)]) (by simp [results, Tryz.results17, go_sem, *]) rfl ⟨⟨1, 15, ⟨#[]⟩, ⟨#[]⟩, h, n, m, ⟨#[]⟩, []⟩, by rw [HE0.out], HE.out, (Chg.setCell (Chg.setCell (Chg.setCell (Chg.setCell (Chg.setCell (Chg.setCell (Chg.setCell (Chg.setCell (Chg.setCell (Chg.setCell HC5.out (Or.inr (Nat.le_of_lt hz2)) _) (Or.inr (Nat.le_of_lt hz2)) _) (Or.inr (Nat.le_of_lt hz2)) _) (Or.inr (Nat.le_refl _)) _) (Or.inr (Nat.le_refl _)) _) (Or.inr (Nat.le_refl _)) _) (Or.inr (Nat.le_refl _)) _) (Or.inr (Nat.le_refl _)) _) (Or.inr (Nat.le_refl _)) _) (Or.inr (Nat.le_refl _)) _)⟩

set_option maxRecDepth 20000 in
set_option maxHeartbeats 4000000 in
theorem han_pwrite (w : World) (F : List ByteArray) (g fc : Nat) (hc : ∀ i, i < F.length → w.cell? ⟨g, i, none⟩ = some (.string (F.getD i noText))) (hs : ∀ x ∈ F, x.size ≤ 1048576) (hk : (F.getD 0 noText) = ⟨#[112, 119, 114, 105, 116, 101]⟩) (hn : F.length = 4) :
    Calls Tryz.prog 17 #[.slice (some ⟨g, 0, none⟩) F.length fc] w (CallPost w ((numF (F.getD 1 noText)).bind fun h => (numF (F.getD 2 noText)).bind fun n => (unqD (F.getD 3 noText)).map fun d => (⟨1, 11, ⟨#[]⟩, ⟨#[]⟩, h, n, 0, d, []⟩ : Lst))) := by
  have b_close : ((F.getD 0 noText).toList == [99, 108, 111, 115, 101]) = false := tl_no (by rw [hk]; decide)
  have b_fstat : ((F.getD 0 noText).toList == [102, 115, 116, 97, 116]) = false := tl_no (by rw [hk]; decide)
  have b_ftrunc : ((F.getD 0 noText).toList == [102, 116, 114, 117, 110, 99]) = false := tl_no (by rw [hk]; decide)
  have b_pread : ((F.getD 0 noText).toList == [112, 114, 101, 97, 100]) = false := tl_no (by rw [hk]; decide)
  have b_pwrite : ((F.getD 0 noText).toList == [112, 119, 114, 105, 116, 101]) = true := tl_yes hk
  have cl0 := hc 0 (by omega)
  have cl1 := hc 1 (by omega)
  have cl2 := hc 2 (by omega)
  have cl3 := hc 3 (by omega)
  have hg := lt_of_cell cl0
  have hx1 : (F.getD 1 noText).size ≤ 1048576 := hs _ (by rw [List.getD_eq_getElem?_getD, List.getElem?_eq_getElem (by omega : 1 < F.length)]; exact List.getElem_mem _)
  have hx2 : (F.getD 2 noText).size ≤ 1048576 := hs _ (by rw [List.getD_eq_getElem?_getD, List.getElem?_eq_getElem (by omega : 2 < F.length)]; exact List.getElem_mem _)
  have hx3 : (F.getD 3 noText).size ≤ 1048576 := hs _ (by rw [List.getD_eq_getElem?_getD, List.getElem?_eq_getElem (by omega : 3 < F.length)]; exact List.getElem_mem _)
  clear hc hs
  clear hk
  generalize F.getD 0 noText = x0 at *
  generalize F.getD 1 noText = x1 at *
  generalize F.getD 2 noText = x2 at *
  generalize F.getD 3 noText = x3 at *
  rw [hn]
  clear hn
  have HC1 : Hid (Chg 0 0 w (w.alloc (.cells #[.int .i64 0, .string ⟨#[]⟩, .string ⟨#[]⟩, .int .i64 0, .int .i64 0, .int .i64 0, .string ⟨#[]⟩] 24))) := Chg.alloc (Chg.refl 0 0 w) _
  have HB1 : Hid ((w.alloc (.cells #[.int .i64 0, .string ⟨#[]⟩, .string ⟨#[]⟩, .int .i64 0, .int .i64 0, .int .i64 0, .string ⟨#[]⟩] 24)).heap[w.heap.size]? = some (.cells #[.int .i64 0, .string ⟨#[]⟩, .string ⟨#[]⟩, .int .i64 0, .int .i64 0, .int .i64 0, .string ⟨#[]⟩] 24 (0, 0))) := heap_new w _
  have hz : w.heap.size < (w.alloc (.cells #[.int .i64 0, .string ⟨#[]⟩, .string ⟨#[]⟩, .int .i64 0, .int .i64 0, .int .i64 0, .string ⟨#[]⟩] 24)).heap.size := by simp
  have hN := fun W => l14Number_calls W x1 hx1
  have hM := fun W => l14Number_calls W x2 hx2
  have hP := fun W => specUnquote_calls W x3 hx3
  obtain ⟨RR, HRR⟩ : ∃ RR, Hid (RR = (numF x1).bind fun h => (numF x2).bind fun n => (unqD x3).map fun d => (⟨1, 11, ⟨#[]⟩, ⟨#[]⟩, h, n, 0, d, []⟩ : Lst)) := ⟨_, rfl⟩
  rw [← HRR.out]
  go_enter Tryz.func17, Tryz.ntmps17
  go_wp2_with fail
  generalize w.alloc (.cells #[.int .i64 0, .string ⟨#[]⟩, .string ⟨#[]⟩, .int .i64 0, .int .i64 0, .int .i64 0, .string ⟨#[]⟩] 24) = w1 at *
  refine (hN w1).mono ?_
  rintro e w2 ⟨rfl, cc1⟩
  have HC2 : Hid (Chg 0 0 w w2) := HC1.out.trans cc1
  have HB2 : Hid (w2.heap[w.heap.size]? = some (.cells #[.int .i64 0, .string ⟨#[]⟩, .string ⟨#[]⟩, .int .i64 0, .int .i64 0, .int .i64 0, .string ⟨#[]⟩] 24 (0, 0))) := (cc1.block _ (by have := HC1.out.size; omega) (by omega)).trans HB1.out
  have hz2 : w.heap.size < w2.heap.size := by have := cc1.size; omega
  have hg2 : g < w2.heap.size := by omega
  clear cc1 HB1
  have m0 := HC2.out.cell cl0 (by omega)
  have m1 := HC2.out.cell cl1 (by omega)
  have m2 := HC2.out.cell cl2 (by omega)
  have m3 := HC2.out.cell cl3 (by omega)
  clear hN
  cases hn : numF x1 with
  | none =>
    have HN : Hid (RR = none) := by show _ = _; rw [HRR.out, hn]; rfl
    rw [Option.isSome_none, Option.getD_none]
    clear hn HRR
    obtain ⟨⟨y0, y1, y2, y3, y4, y5, y6⟩, f0, f1, f2, f3, f4, f5, f6⟩ := seven_all HB2.out
    go_wp2
    exact bodyPost_ret (v := .tuple #[.agg (cCall ⟨0, 0, ⟨#[]⟩, ⟨#[]⟩, 0, 0, 0, ⟨#[]⟩, []⟩), .bool false]) (by simp [results, Tryz.results17, go_sem, *]) rfl ⟨⟨0, 0, ⟨#[]⟩, ⟨#[]⟩, 0, 0, 0, ⟨#[]⟩, []⟩, by rw [HN.out]; rfl, fun s' e => by (rw [HN.out] at e; cases e), (Chg.alloc (Chg.setCell (Chg.setCell (Chg.setCell (Chg.setCell (Chg.setCell (Chg.setCell (Chg.setCell HC2.out (Or.inr (Nat.le_refl _)) _) (Or.inr (Nat.le_refl _)) _) (Or.inr (Nat.le_refl _)) _) (Or.inr (Nat.le_refl _)) _) (Or.inr (Nat.le_refl _)) _) (Or.inr (Nat.le_refl _)) _) (Or.inr (Nat.le_refl _)) _) _)⟩
  | some h =>
    obtain ⟨n, g1, d, g2, e1, e3, HE0, HE⟩ : ∃ n g1 d g2, Value.tuple #[.int .i64 ((numF x2).getD 0), .bool (numF x2).isSome] = .tuple #[.int .i64 n, .bool g1] ∧ unqV x3 = unqO g2 d ∧ Hid (RR.isSome = (g1 && g2)) ∧ Hid (∀ s', RR = some s' → s' = ⟨1, 11, ⟨#[]⟩, ⟨#[]⟩, h, n, 0, d, []⟩) := by
      cases hd : unqD x3 with
      | none =>
        refine ⟨_, _, _, _, rfl, unqD_none hd, ?_, fun s' e => ?_⟩
        · show _ = _
          rw [HRR.out, hn, hd]
          cases numF x2 <;> rfl
        · rw [HRR.out, hn, hd] at e
          cases hm : numF x2 <;> rw [hm] at e <;> cases e
      | some d =>
        refine ⟨_, _, _, _, rfl, unqD_some hd, ?_, fun s' e => ?_⟩
        · show _ = _
          rw [HRR.out, hn, hd]
          cases numF x2 <;> rfl
        · rw [HRR.out, hn, hd] at e
          cases hm : numF x2 with
          | none => rw [hm] at e; cases e
          | some n => rw [hm] at e; injection e with e; exact e.symm
    rw [e1] at hM
    rw [e3] at hP
    clear e1 e3
    rw [Option.isSome_some, Option.getD_some]
    clear hn HRR
    have HC3 : Hid (Chg 0 0 w (w2.alloc (.cells #[.int .i64 0, .string ⟨#[]⟩, .string ⟨#[]⟩, .int .i64 h, .int .i64 0, .int .i64 0, .string ⟨#[]⟩] 24))) := Chg.alloc HC2.out _
    have HD3 : Hid ((w2.alloc (.cells #[.int .i64 0, .string ⟨#[]⟩, .string ⟨#[]⟩, .int .i64 h, .int .i64 0, .int .i64 0, .string ⟨#[]⟩] 24)).heap[w2.heap.size]? = some (.cells #[.int .i64 0, .string ⟨#[]⟩, .string ⟨#[]⟩, .int .i64 h, .int .i64 0, .int .i64 0, .string ⟨#[]⟩] 24 (0, 0))) := heap_new w2 _
    have HB3 : Hid ((w2.alloc (.cells #[.int .i64 0, .string ⟨#[]⟩, .string ⟨#[]⟩, .int .i64 h, .int .i64 0, .int .i64 0, .string ⟨#[]⟩] 24)).heap[w.heap.size]? = some (.cells #[.int .i64 0, .string ⟨#[]⟩, .string ⟨#[]⟩, .int .i64 0, .int .i64 0, .int .i64 0, .string ⟨#[]⟩] 24 (0, 0))) := ((Chg.alloc (Chg.refl 0 0 w2) _).block _ hz2 (by omega)).trans HB2.out
    have hq3 : w2.heap.size < (w2.alloc (.cells #[.int .i64 0, .string ⟨#[]⟩, .string ⟨#[]⟩, .int .i64 h, .int .i64 0, .int .i64 0, .string ⟨#[]⟩] 24)).heap.size := by simp
    go_wp2_with fail
    generalize w2.alloc (.cells #[.int .i64 0, .string ⟨#[]⟩, .string ⟨#[]⟩, .int .i64 h, .int .i64 0, .int .i64 0, .string ⟨#[]⟩] 24) = w3 at *
    clear m0 m1 m2 m3
    refine (hM w3).mono ?_
    rintro e w4 ⟨rfl, cc3⟩
    have HC4 : Hid (Chg 0 0 w w4) := HC3.out.trans cc3
    have HB4 : Hid (w4.heap[w.heap.size]? = some (.cells #[.int .i64 0, .string ⟨#[]⟩, .string ⟨#[]⟩, .int .i64 0, .int .i64 0, .int .i64 0, .string ⟨#[]⟩] 24 (0, 0))) := (cc3.block _ (by omega) (by omega)).trans HB3.out
    have HD4 : Hid (w4.heap[w2.heap.size]? = some (.cells #[.int .i64 0, .string ⟨#[]⟩, .string ⟨#[]⟩, .int .i64 h, .int .i64 0, .int .i64 0, .string ⟨#[]⟩] 24 (0, 0))) := (cc3.block _ (by omega) (by omega)).trans HD3.out
    have hq4 : w2.heap.size < w4.heap.size := by have := cc3.size; omega
    have hz4 : w.heap.size < w4.heap.size := by omega
    have hg4 : g < w4.heap.size := by omega
    clear cc3 HB3 HD3
    have m0 := HC4.out.cell cl0 (by omega)
    have m1 := HC4.out.cell cl1 (by omega)
    have m2 := HC4.out.cell cl2 (by omega)
    have m3 := HC4.out.cell cl3 (by omega)
    go_wp2_with fail
    clear m0 m1 m2 m3
    refine (hP w4).mono ?_
    rintro e w5 ⟨rfl, cc4⟩
    have HC5 : Hid (Chg 0 0 w w5) := HC4.out.trans cc4
    have HB5 : Hid (w5.heap[w.heap.size]? = some (.cells #[.int .i64 0, .string ⟨#[]⟩, .string ⟨#[]⟩, .int .i64 0, .int .i64 0, .int .i64 0, .string ⟨#[]⟩] 24 (0, 0))) := (cc4.block _ (by omega) (by omega)).trans HB4.out
    have HD5 : Hid (w5.heap[w2.heap.size]? = some (.cells #[.int .i64 0, .string ⟨#[]⟩, .string ⟨#[]⟩, .int .i64 h, .int .i64 0, .int .i64 0, .string ⟨#[]⟩] 24 (0, 0))) := (cc4.block _ (by omega) (by omega)).trans HD4.out
    have hq5 : w2.heap.size < w5.heap.size := by have := cc4.size; omega
    have hz5 : w.heap.size < w5.heap.size := by omega
    have hg5 : g < w5.heap.size := by omega
    clear cc4 HB4 HD4
    have m0 := HC5.out.cell cl0 (by omega)
    have m1 := HC5.out.cell cl1 (by omega)
    have m2 := HC5.out.cell cl2 (by omega)
    have m3 := HC5.out.cell cl3 (by omega)
    obtain ⟨⟨y0, y1, y2, y3, y4, y5, y6⟩, f0, f1, f2, f3, f4, f5, f6⟩ := seven_all HB5.out
    obtain ⟨⟨z0, z1, z2, z3, z4, z5, z6⟩, k0, k1, k2, k3, k4, k5, k6⟩ := seven_all HD5.out
    cases g1
    · go_wp2
      go_region
      go_wp2
      exact bodyPost_ret (v := .tuple #[.agg (cCall ⟨1, 11, ⟨#[]⟩, ⟨#[]⟩, h, n, 0, d, []⟩), .bool (false && g2)]) (by simp [results, Tryz.results17, go_sem, *]) rfl ⟨⟨1, 11, ⟨#[]⟩, ⟨#[]⟩, h, n, 0, d, []⟩, by rw [HE0.out], HE.out, (Chg.drew (Chg.alloc (Chg.setCell (Chg.setCell (Chg.setCell (Chg.setCell (Chg.setCell (Chg.setCell (Chg.setCell (Chg.setCell (Chg.setCell (Chg.setCell HC5.out (Or.inr (Nat.le_of_lt hz2)) _) (Or.inr (Nat.le_of_lt hz2)) _) (Or.inr (Nat.le_of_lt hz2)) _) (Or.inr (Nat.le_refl _)) _) (Or.inr (Nat.le_refl _)) _) (Or.inr (Nat.le_refl _)) _) (Or.inr (Nat.le_refl _)) _) (Or.inr (Nat.le_refl _)) _) (Or.inr (Nat.le_refl _)) _) (Or.inr (Nat.le_refl _)) _) _))⟩
    · go_wp2
      go_region
      go_wp2
      exact bodyPost_ret (v := .tuple #[.agg (cCall ⟨1, 11, ⟨#[]⟩, ⟨#[]⟩, h, n, 0, d, []⟩), .bool (true && g2)]) (by simp [results, Tryz.results17, go_sem, *]) rfl ⟨⟨1, 11, ⟨#[]⟩, ⟨#[]⟩, h, n, 0, d, []⟩, by rw [HE0.out], HE.out, (Chg.drew (Chg.alloc (Chg.setCell (Chg.setCell (Chg.setCell (Chg.setCell (Chg.setCell (Chg.setCell (Chg.setCell (Chg.setCell (Chg.setCell (Chg.setCell HC5.out (Or.inr (Nat.le_of_lt hz2)) _) (Or.inr (Nat.le_of_lt hz2)) _) (Or.inr (Nat.le_of_lt hz2)) _) (Or.inr (Nat.le_refl _)) _) (Or.inr (Nat.le_refl _)) _) (Or.inr (Nat.le_refl _)) _) (Or.inr (Nat.le_refl _)) _) (Or.inr (Nat.le_refl _)) _) (Or.inr (Nat.le_refl _)) _) (Or.inr (Nat.le_refl _)) _) _))⟩

end Go.Proofs.YteaeikmgkmpkiaaGreatDoor
