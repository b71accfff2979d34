/- l14Handled of the model, where it refuses a line. (made by tools/mkhan.py) -/
import Derived.Test.YteaeikmgkmpkiaaGreatDoorLineLong
namespace Go.Proofs.YteaeikmgkmpkiaaGreatDoor
open Go.RowKit Go.Lib

set_option maxRecDepth 20000 in
set_option maxHeartbeats 4000000 in
theorem han_none_close (w : World) (F : List ByteArray) (g fc : Nat) (hc : ∀ i, i < F.length → w.cell? ⟨g, i, none⟩ = some (.string (F.getD i noText))) (hs : ∀ x ∈ F, x.size ≤ 1048576) (hk : (F.getD 0 noText) = ⟨#[99, 108, 111, 115, 101]⟩) (h1 : 1 ≤ F.length) (hn : F.length ≠ 2) :
    Calls Tryz.prog 17 #[.slice (some ⟨g, 0, none⟩) F.length fc] w (CallPost w (none)) := by
  have b_close : ((F.getD 0 noText).toList == [99, 108, 111, 115, 101]) = true := tl_yes hk
  have b_fstat : ((F.getD 0 noText).toList == [102, 115, 116, 97, 116]) = false := tl_no (by rw [hk]; decide)
  have b_ftrunc : ((F.getD 0 noText).toList == [102, 116, 114, 117, 110, 99]) = false := tl_no (by rw [hk]; decide)
  have b_pread : ((F.getD 0 noText).toList == [112, 114, 101, 97, 100]) = false := tl_no (by rw [hk]; decide)
  have b_pwrite : ((F.getD 0 noText).toList == [112, 119, 114, 105, 116, 101]) = false := tl_no (by rw [hk]; decide)
  have hln : (((F.length : Nat) : Int) == 2) = false := by rw [beq_eq_false_iff_ne]; omega
  clear hk
  have HC1 : Hid (Chg 0 0 w (w.alloc (.cells #[.int .i64 0, .string ⟨#[]⟩, .string ⟨#[]⟩, .int .i64 0, .int .i64 0, .int .i64 0, .string ⟨#[]⟩] 24))) := Chg.alloc (Chg.refl 0 0 w) _
  have HB1 : Hid ((w.alloc (.cells #[.int .i64 0, .string ⟨#[]⟩, .string ⟨#[]⟩, .int .i64 0, .int .i64 0, .int .i64 0, .string ⟨#[]⟩] 24)).heap[w.heap.size]? = some (.cells #[.int .i64 0, .string ⟨#[]⟩, .string ⟨#[]⟩, .int .i64 0, .int .i64 0, .int .i64 0, .string ⟨#[]⟩] 24 (0, 0))) := heap_new w _
  have hz : w.heap.size < (w.alloc (.cells #[.int .i64 0, .string ⟨#[]⟩, .string ⟨#[]⟩, .int .i64 0, .int .i64 0, .int .i64 0, .string ⟨#[]⟩] 24)).heap.size := by simp
  go_enter Tryz.func17, Tryz.ntmps17
  by_cases h2 : F.length < 2
  · have h2i : ((F.length : Nat) : Int) < 2 := by omega
    clear hc hs HB1
    go_wp2
    exact bodyPost_ret (v := .tuple #[.agg (cCall ⟨0, 0, ⟨#[]⟩, ⟨#[]⟩, 0, 0, 0, ⟨#[]⟩, []⟩), .bool false]) (by simp [results, Tryz.results17, go_sem, *]) rfl ⟨⟨0, 0, ⟨#[]⟩, ⟨#[]⟩, 0, 0, 0, ⟨#[]⟩, []⟩, rfl, fun s' e => by (cases e), HC1.out⟩
  · have h2i : ¬ (((F.length : Nat) : Int) < 2) := by omega
    have p0 : (0 : Int) < (F.length : Int) := by omega
    have p1 : (1 : Int) < (F.length : Int) := by omega
    have cl0 := hc 0 (by omega)
    have cl1 := hc 1 (by omega)
    have hx1 : (F.getD 1 noText).size ≤ 1048576 := hs _ (by rw [List.getD_eq_getElem?_getD, List.getElem?_eq_getElem (by omega : 1 < F.length)]; exact List.getElem_mem _)
    have hg := lt_of_cell cl0
    clear hc hs
    generalize F.getD 0 noText = x0 at *
    generalize F.getD 1 noText = x1 at *
    have hN := fun W => l14Number_calls W x1 hx1
    go_wp2_with fail
    generalize w.alloc (.cells #[.int .i64 0, .string ⟨#[]⟩, .string ⟨#[]⟩, .int .i64 0, .int .i64 0, .int .i64 0, .string ⟨#[]⟩] 24) = w1 at *
    refine (hN w1).mono ?_
    rintro e w2 ⟨rfl, cc1⟩
    have HC2 : Hid (Chg 0 0 w w2) := HC1.out.trans cc1
    have HB2 : Hid (w2.heap[w.heap.size]? = some (.cells #[.int .i64 0, .string ⟨#[]⟩, .string ⟨#[]⟩, .int .i64 0, .int .i64 0, .int .i64 0, .string ⟨#[]⟩] 24 (0, 0))) := (cc1.block _ (by have := HC1.out.size; omega) (by omega)).trans HB1.out
    have hz2 : w.heap.size < w2.heap.size := by have := cc1.size; omega
    have hg2 : g < w2.heap.size := by omega
    clear cc1 HB1
    have m0 := HC2.out.cell cl0 (by omega)
    have m1 := HC2.out.cell cl1 (by omega)
    clear hN
    obtain ⟨⟨y0, y1, y2, y3, y4, y5, y6⟩, f0, f1, f2, f3, f4, f5, f6⟩ := seven_all HB2.out
    cases numF x1 with
    | none =>
      rw [Option.isSome_none, Option.getD_none]
      go_wp2
      exact bodyPost_ret (v := .tuple #[.agg (cCall ⟨0, 0, ⟨#[]⟩, ⟨#[]⟩, 0, 0, 0, ⟨#[]⟩, []⟩), .bool false]) (by simp [results, Tryz.results17, go_sem, *]) rfl ⟨⟨0, 0, ⟨#[]⟩, ⟨#[]⟩, 0, 0, 0, ⟨#[]⟩, []⟩, rfl, fun s' e => by (cases e), (Chg.alloc (Chg.setCell (Chg.setCell (Chg.setCell (Chg.setCell (Chg.setCell (Chg.setCell (Chg.setCell HC2.out (Or.inr (Nat.le_refl _)) _) (Or.inr (Nat.le_refl _)) _) (Or.inr (Nat.le_refl _)) _) (Or.inr (Nat.le_refl _)) _) (Or.inr (Nat.le_refl _)) _) (Or.inr (Nat.le_refl _)) _) (Or.inr (Nat.le_refl _)) _) _)⟩
    | some h =>
      rw [Option.isSome_some, Option.getD_some]
      go_wp2
      exact bodyPost_ret (v := .tuple #[.agg (cCall ⟨1, 0, ⟨#[]⟩, ⟨#[]⟩, h, 0, 0, ⟨#[]⟩, []⟩), .bool false]) (by simp [results, Tryz.results17, go_sem, *]) rfl ⟨⟨1, 0, ⟨#[]⟩, ⟨#[]⟩, h, 0, 0, ⟨#[]⟩, []⟩, rfl, fun s' e => by (cases e), (Chg.alloc (Chg.setCell (Chg.setCell (Chg.setCell (Chg.setCell (Chg.setCell (Chg.setCell (Chg.setCell HC2.out (Or.inr (Nat.le_refl _)) _) (Or.inr (Nat.le_refl _)) _) (Or.inr (Nat.le_refl _)) _) (Or.inr (Nat.le_refl _)) _) (Or.inr (Nat.le_refl _)) _) (Or.inr (Nat.le_refl _)) _) (Or.inr (Nat.le_refl _)) _) _)⟩

set_option maxRecDepth 20000 in
set_option maxHeartbeats 4000000 in
theorem han_none_fstat (w : World) (F : List ByteArray) (g fc : Nat) (hc : ∀ i, i < F.length → w.cell? ⟨g, i, none⟩ = some (.string (F.getD i noText))) (hs : ∀ x ∈ F, x.size ≤ 1048576) (hk : (F.getD 0 noText) = ⟨#[102, 115, 116, 97, 116]⟩) (h1 : 1 ≤ F.length) (hn : F.length ≠ 2) :
    Calls Tryz.prog 17 #[.slice (some ⟨g, 0, none⟩) F.length fc] w (CallPost w (none)) := by
  have b_close : ((F.getD 0 noText).toList == [99, 108, 111, 115, 101]) = false := tl_no (by rw [hk]; decide)
  have b_fstat : ((F.getD 0 noText).toList == [102, 115, 116, 97, 116]) = true := tl_yes hk
  have b_ftrunc : ((F.getD 0 noText).toList == [102, 116, 114, 117, 110, 99]) = false := tl_no (by rw [hk]; decide)
  have b_pread : ((F.getD 0 noText).toList == [112, 114, 101, 97, 100]) = false := tl_no (by rw [hk]; decide)
  have b_pwrite : ((F.getD 0 noText).toList == [112, 119, 114, 105, 116, 101]) = false := tl_no (by rw [hk]; decide)
  have hln : (((F.length : Nat) : Int) == 2) = false := by rw [beq_eq_false_iff_ne]; omega
  clear hk
  have HC1 : Hid (Chg 0 0 w (w.alloc (.cells #[.int .i64 0, .string ⟨#[]⟩, .string ⟨#[]⟩, .int .i64 0, .int .i64 0, .int .i64 0, .string ⟨#[]⟩] 24))) := Chg.alloc (Chg.refl 0 0 w) _
  have HB1 : Hid ((w.alloc (.cells #[.int .i64 0, .string ⟨#[]⟩, .string ⟨#[]⟩, .int .i64 0, .int .i64 0, .int .i64 0, .string ⟨#[]⟩] 24)).heap[w.heap.size]? = some (.cells #[.int .i64 0, .string ⟨#[]⟩, .string ⟨#[]⟩, .int .i64 0, .int .i64 0, .int .i64 0, .string ⟨#[]⟩] 24 (0, 0))) := heap_new w _
  have hz : w.heap.size < (w.alloc (.cells #[.int .i64 0, .string ⟨#[]⟩, .string ⟨#[]⟩, .int .i64 0, .int .i64 0, .int .i64 0, .string ⟨#[]⟩] 24)).heap.size := by simp
  go_enter Tryz.func17, Tryz.ntmps17
  by_cases h2 : F.length < 2
  · have h2i : ((F.length : Nat) : Int) < 2 := by omega
    clear hc hs HB1
    go_wp2
    exact bodyPost_ret (v := .tuple #[.agg (cCall ⟨0, 0, ⟨#[]⟩, ⟨#[]⟩, 0, 0, 0, ⟨#[]⟩, []⟩), .bool false]) (by simp [results, Tryz.results17, go_sem, *]) rfl ⟨⟨0, 0, ⟨#[]⟩, ⟨#[]⟩, 0, 0, 0, ⟨#[]⟩, []⟩, rfl, fun s' e => by (cases e), HC1.out⟩
  · have h2i : ¬ (((F.length : Nat) : Int) < 2) := by omega
    have p0 : (0 : Int) < (F.length : Int) := by omega
    have p1 : (1 : Int) < (F.length : Int) := by omega
    have cl0 := hc 0 (by omega)
    have cl1 := hc 1 (by omega)
    have hx1 : (F.getD 1 noText).size ≤ 1048576 := hs _ (by rw [List.getD_eq_getElem?_getD, List.getElem?_eq_getElem (by omega : 1 < F.length)]; exact List.getElem_mem _)
    have hg := lt_of_cell cl0
    clear hc hs
    generalize F.getD 0 noText = x0 at *
    generalize F.getD 1 noText = x1 at *
    have hN := fun W => l14Number_calls W x1 hx1
    go_wp2_with fail
    generalize w.alloc (.cells #[.int .i64 0, .string ⟨#[]⟩, .string ⟨#[]⟩, .int .i64 0, .int .i64 0, .int .i64 0, .string ⟨#[]⟩] 24) = w1 at *
    refine (hN w1).mono ?_
    rintro e w2 ⟨rfl, cc1⟩
    have HC2 : Hid (Chg 0 0 w w2) := HC1.out.trans cc1
    have HB2 : Hid (w2.heap[w.heap.size]? = some (.cells #[.int .i64 0, .string ⟨#[]⟩, .string ⟨#[]⟩, .int .i64 0, .int .i64 0, .int .i64 0, .string ⟨#[]⟩] 24 (0, 0))) := (cc1.block _ (by have := HC1.out.size; omega) (by omega)).trans HB1.out
    have hz2 : w.heap.size < w2.heap.size := by have := cc1.size; omega
    have hg2 : g < w2.heap.size := by omega
    clear cc1 HB1
    have m0 := HC2.out.cell cl0 (by omega)
    have m1 := HC2.out.cell cl1 (by omega)
    clear hN
    obtain ⟨⟨y0, y1, y2, y3, y4, y5, y6⟩, f0, f1, f2, f3, f4, f5, f6⟩ := seven_all HB2.out
    cases numF x1 with
    | none =>
      rw [Option.isSome_none, Option.getD_none]
      go_wp2
      exact bodyPost_ret (v := .tuple #[.agg (cCall ⟨0, 0, ⟨#[]⟩, ⟨#[]⟩, 0, 0, 0, ⟨#[]⟩, []⟩), .bool false]) (by simp [results, Tryz.results17, go_sem, *]) rfl ⟨⟨0, 0, ⟨#[]⟩, ⟨#[]⟩, 0, 0, 0, ⟨#[]⟩, []⟩, rfl, fun s' e => by (cases e), (Chg.alloc (Chg.setCell (Chg.setCell (Chg.setCell (Chg.setCell (Chg.setCell (Chg.setCell (Chg.setCell HC2.out (Or.inr (Nat.le_refl _)) _) (Or.inr (Nat.le_refl _)) _) (Or.inr (Nat.le_refl _)) _) (Or.inr (Nat.le_refl _)) _) (Or.inr (Nat.le_refl _)) _) (Or.inr (Nat.le_refl _)) _) (Or.inr (Nat.le_refl _)) _) _)⟩
    | some h =>
      rw [Option.isSome_some, Option.getD_some]
      go_wp2
      exact bodyPost_ret (v := .tuple #[.agg (cCall ⟨1, 0, ⟨#[]⟩, ⟨#[]⟩, h, 0, 0, ⟨#[]⟩, []⟩), .bool false]) (by simp [results, Tryz.results17, go_sem, *]) rfl ⟨⟨1, 0, ⟨#[]⟩, ⟨#[]⟩, h, 0, 0, ⟨#[]⟩, []⟩, rfl, fun s' e => by (cases e), (Chg.alloc (Chg.setCell (Chg.setCell (Chg.setCell (Chg.setCell (Chg.setCell (Chg.setCell (Chg.setCell HC2.out (Or.inr (Nat.le_refl _)) _) (Or.inr (Nat.le_refl _)) _) (Or.inr (Nat.le_refl _)) _) (Or.inr (Nat.le_refl _)) _) (Or.inr (Nat.le_refl _)) _) (Or.inr (Nat.le_refl _)) _) (Or.inr (Nat.le_refl _)) _) _)⟩

set_option maxRecDepth 20000 in
set_option maxHeartbeats 4000000 in
theorem han_none_ftrunc (w : World) (F : List ByteArray) (g fc : Nat) (hc : ∀ i, i < F.length → w.cell? ⟨g, i, none⟩ = some (.string (F.getD i noText))) (hs : ∀ x ∈ F, x.size ≤ 1048576) (hk : (F.getD 0 noText) = ⟨#[102, 116, 114, 117, 110, 99]⟩) (h1 : 1 ≤ F.length) (hn : F.length ≠ 3) :
    Calls Tryz.prog 17 #[.slice (some ⟨g, 0, none⟩) F.length fc] w (CallPost w (none)) := by
  have b_close : ((F.getD 0 noText).toList == [99, 108, 111, 115, 101]) = false := tl_no (by rw [hk]; decide)
  have b_fstat : ((F.getD 0 noText).toList == [102, 115, 116, 97, 116]) = false := tl_no (by rw [hk]; decide)
  have b_ftrunc : ((F.getD 0 noText).toList == [102, 116, 114, 117, 110, 99]) = true := tl_yes hk
  have b_pread : ((F.getD 0 noText).toList == [112, 114, 101, 97, 100]) = false := tl_no (by rw [hk]; decide)
  have b_pwrite : ((F.getD 0 noText).toList == [112, 119, 114, 105, 116, 101]) = false := tl_no (by rw [hk]; decide)
  have hln : (((F.length : Nat) : Int) == 3) = false := by rw [beq_eq_false_iff_ne]; omega
  clear hk
  have HC1 : Hid (Chg 0 0 w (w.alloc (.cells #[.int .i64 0, .string ⟨#[]⟩, .string ⟨#[]⟩, .int .i64 0, .int .i64 0, .int .i64 0, .string ⟨#[]⟩] 24))) := Chg.alloc (Chg.refl 0 0 w) _
  have HB1 : Hid ((w.alloc (.cells #[.int .i64 0, .string ⟨#[]⟩, .string ⟨#[]⟩, .int .i64 0, .int .i64 0, .int .i64 0, .string ⟨#[]⟩] 24)).heap[w.heap.size]? = some (.cells #[.int .i64 0, .string ⟨#[]⟩, .string ⟨#[]⟩, .int .i64 0, .int .i64 0, .int .i64 0, .string ⟨#[]⟩] 24 (0, 0))) := heap_new w _
  have hz : w.heap.size < (w.alloc (.cells #[.int .i64 0, .string ⟨#[]⟩, .string ⟨#[]⟩, .int .i64 0, .int .i64 0, .int .i64 0, .string ⟨#[]⟩] 24)).heap.size := by simp
  go_enter Tryz.func17, Tryz.ntmps17
  by_cases h2 : F.length < 2
  · have h2i : ((F.length : Nat) : Int) < 2 := by omega
    clear hc hs HB1
    go_wp2
    exact bodyPost_ret (v := .tuple #[.agg (cCall ⟨0, 0, ⟨#[]⟩, ⟨#[]⟩, 0, 0, 0, ⟨#[]⟩, []⟩), .bool false]) (by simp [results, Tryz.results17, go_sem, *]) rfl ⟨⟨0, 0, ⟨#[]⟩, ⟨#[]⟩, 0, 0, 0, ⟨#[]⟩, []⟩, rfl, fun s' e => by (cases e), HC1.out⟩
  · have h2i : ¬ (((F.length : Nat) : Int) < 2) := by omega
    have p0 : (0 : Int) < (F.length : Int) := by omega
    have p1 : (1 : Int) < (F.length : Int) := by omega
    have cl0 := hc 0 (by omega)
    have cl1 := hc 1 (by omega)
    have hx1 : (F.getD 1 noText).size ≤ 1048576 := hs _ (by rw [List.getD_eq_getElem?_getD, List.getElem?_eq_getElem (by omega : 1 < F.length)]; exact List.getElem_mem _)
    have hg := lt_of_cell cl0
    clear hc hs
    generalize F.getD 0 noText = x0 at *
    generalize F.getD 1 noText = x1 at *
    have hN := fun W => l14Number_calls W x1 hx1
    go_wp2_with fail
    generalize w.alloc (.cells #[.int .i64 0, .string ⟨#[]⟩, .string ⟨#[]⟩, .int .i64 0, .int .i64 0, .int .i64 0, .string ⟨#[]⟩] 24) = w1 at *
    refine (hN w1).mono ?_
    rintro e w2 ⟨rfl, cc1⟩
    have HC2 : Hid (Chg 0 0 w w2) := HC1.out.trans cc1
    have HB2 : Hid (w2.heap[w.heap.size]? = some (.cells #[.int .i64 0, .string ⟨#[]⟩, .string ⟨#[]⟩, .int .i64 0, .int .i64 0, .int .i64 0, .string ⟨#[]⟩] 24 (0, 0))) := (cc1.block _ (by have := HC1.out.size; omega) (by omega)).trans HB1.out
    have hz2 : w.heap.size < w2.heap.size := by have := cc1.size; omega
    have hg2 : g < w2.heap.size := by omega
    clear cc1 HB1
    have m0 := HC2.out.cell cl0 (by omega)
    have m1 := HC2.out.cell cl1 (by omega)
    clear hN
    obtain ⟨⟨y0, y1, y2, y3, y4, y5, y6⟩, f0, f1, f2, f3, f4, f5, f6⟩ := seven_all HB2.out
    cases numF x1 with
    | none =>
      rw [Option.isSome_none, Option.getD_none]
      go_wp2
      exact bodyPost_ret (v := .tuple #[.agg (cCall ⟨0, 0, ⟨#[]⟩, ⟨#[]⟩, 0, 0, 0, ⟨#[]⟩, []⟩), .bool false]) (by simp [results, Tryz.results17, go_sem, *]) rfl ⟨⟨0, 0, ⟨#[]⟩, ⟨#[]⟩, 0, 0, 0, ⟨#[]⟩, []⟩, rfl, fun s' e => by (cases e), (Chg.alloc (Chg.setCell (Chg.setCell (Chg.setCell (Chg.setCell (Chg.setCell (Chg.setCell (Chg.setCell HC2.out (Or.inr (Nat.le_refl _)) _) (Or.inr (Nat.le_refl _)) _) (Or.inr (Nat.le_refl _)) _) (Or.inr (Nat.le_refl _)) _) (Or.inr (Nat.le_refl _)) _) (Or.inr (Nat.le_refl _)) _) (Or.inr (Nat.le_refl _)) _) _)⟩
    | some h =>
      rw [Option.isSome_some, Option.getD_some]
      go_wp2
      exact bodyPost_ret (v := .tuple #[.agg (cCall ⟨1, 0, ⟨#[]⟩, ⟨#[]⟩, h, 0, 0, ⟨#[]⟩, []⟩), .bool false]) (by simp [results, Tryz.results17, go_sem, *]) rfl ⟨⟨1, 0, ⟨#[]⟩, ⟨#[]⟩, h, 0, 0, ⟨#[]⟩, []⟩, rfl, fun s' e => by (cases e), (Chg.alloc (Chg.setCell (Chg.setCell (Chg.setCell (Chg.setCell (Chg.setCell (Chg.setCell (Chg.setCell HC2.out (Or.inr (Nat.le_refl _)) _) (Or.inr (Nat.le_refl _)) _) (Or.inr (Nat.le_refl _)) _) (Or.inr (Nat.le_refl _)) _) (Or.inr (Nat.le_refl _)) _) (Or.inr (Nat.le_refl _)) _) (Or.inr (Nat.le_refl _)) _) _)⟩

set_option maxRecDepth 20000 in
set_option maxHeartbeats 4000000 in
theorem han_none_pread (w : World) (F : List ByteArray) (g fc : Nat) (hc : ∀ i, i < F.length → w.cell? ⟨g, i, none⟩ = some (.string (F.getD i noText))) (hs : ∀ x ∈ F, x.size ≤ 1048576) (hk : (F.getD 0 noText) = ⟨#[112, 114, 101, 97, 100]⟩) (h1 : 1 ≤ F.length) (hn : F.length ≠ 4) :
    Calls Tryz.prog 17 #[.slice (some ⟨g, 0, none⟩) F.length fc] w (CallPost w (none)) := by
  have b_close : ((F.getD 0 noText).toList == [99, 108, 111, 115, 101]) = false := tl_no (by rw [hk]; decide)
  have b_fstat : ((F.getD 0 noText).toList == [102, 115, 116, 97, 116]) = false := tl_no (by rw [hk]; decide)
  have b_ftrunc : ((F.getD 0 noText).toList == [102, 116, 114, 117, 110, 99]) = false := tl_no (by rw [hk]; decide)
  have b_pread : ((F.getD 0 noText).toList == [112, 114, 101, 97, 100]) = true := tl_yes hk
  have b_pwrite : ((F.getD 0 noText).toList == [112, 119, 114, 105, 116, 101]) = false := tl_no (by rw [hk]; decide)
  have hln : (((F.length : Nat) : Int) == 4) = false := by rw [beq_eq_false_iff_ne]; omega
  clear hk
  have HC1 : Hid (Chg 0 0 w (w.alloc (.cells #[.int .i64 0, .string ⟨#[]⟩, .string ⟨#[]⟩, .int .i64 0, .int .i64 0, .int .i64 0, .string ⟨#[]⟩] 24))) := Chg.alloc (Chg.refl 0 0 w) _
  have HB1 : Hid ((w.alloc (.cells #[.int .i64 0, .string ⟨#[]⟩, .string ⟨#[]⟩, .int .i64 0, .int .i64 0, .int .i64 0, .string ⟨#[]⟩] 24)).heap[w.heap.size]? = some (.cells #[.int .i64 0, .string ⟨#[]⟩, .string ⟨#[]⟩, .int .i64 0, .int .i64 0, .int .i64 0, .string ⟨#[]⟩] 24 (0, 0))) := heap_new w _
  have hz : w.heap.size < (w.alloc (.cells #[.int .i64 0, .string ⟨#[]⟩, .string ⟨#[]⟩, .int .i64 0, .int .i64 0, .int .i64 0, .string ⟨#[]⟩] 24)).heap.size := by simp
  go_enter Tryz.func17, Tryz.ntmps17
  by_cases h2 : F.length < 2
  · have h2i : ((F.length : Nat) : Int) < 2 := by omega
    clear hc hs HB1
    go_wp2
    exact bodyPost_ret (v := .tuple #[.agg (cCall ⟨0, 0, ⟨#[]⟩, ⟨#[]⟩, 0, 0, 0, ⟨#[]⟩, []⟩), .bool false]) (by simp [results, Tryz.results17, go_sem, *]) rfl ⟨⟨0, 0, ⟨#[]⟩, ⟨#[]⟩, 0, 0, 0, ⟨#[]⟩, []⟩, rfl, fun s' e => by (cases e), HC1.out⟩
  · have h2i : ¬ (((F.length : Nat) : Int) < 2) := by omega
    have p0 : (0 : Int) < (F.length : Int) := by omega
    have p1 : (1 : Int) < (F.length : Int) := by omega
    have cl0 := hc 0 (by omega)
    have cl1 := hc 1 (by omega)
    have hx1 : (F.getD 1 noText).size ≤ 1048576 := hs _ (by rw [List.getD_eq_getElem?_getD, List.getElem?_eq_getElem (by omega : 1 < F.length)]; exact List.getElem_mem _)
    have hg := lt_of_cell cl0
    clear hc hs
    generalize F.getD 0 noText = x0 at *
    generalize F.getD 1 noText = x1 at *
    have hN := fun W => l14Number_calls W x1 hx1
    go_wp2_with fail
    generalize w.alloc (.cells #[.int .i64 0, .string ⟨#[]⟩, .string ⟨#[]⟩, .int .i64 0, .int .i64 0, .int .i64 0, .string ⟨#[]⟩] 24) = w1 at *
    refine (hN w1).mono ?_
    rintro e w2 ⟨rfl, cc1⟩
    have HC2 : Hid (Chg 0 0 w w2) := HC1.out.trans cc1
    have HB2 : Hid (w2.heap[w.heap.size]? = some (.cells #[.int .i64 0, .string ⟨#[]⟩, .string ⟨#[]⟩, .int .i64 0, .int .i64 0, .int .i64 0, .string ⟨#[]⟩] 24 (0, 0))) := (cc1.block _ (by have := HC1.out.size; omega) (by omega)).trans HB1.out
    have hz2 : w.heap.size < w2.heap.size := by have := cc1.size; omega
    have hg2 : g < w2.heap.size := by omega
    clear cc1 HB1
    have m0 := HC2.out.cell cl0 (by omega)
    have m1 := HC2.out.cell cl1 (by omega)
    clear hN
    obtain ⟨⟨y0, y1, y2, y3, y4, y5, y6⟩, f0, f1, f2, f3, f4, f5, f6⟩ := seven_all HB2.out
    cases numF x1 with
    | none =>
      rw [Option.isSome_none, Option.getD_none]
      go_wp2
      exact bodyPost_ret (v := .tuple #[.agg (cCall ⟨0, 0, ⟨#[]⟩, ⟨#[]⟩, 0, 0, 0, ⟨#[]⟩, []⟩), .bool false]) (by simp [results, Tryz.results17, go_sem, *]) rfl ⟨⟨0, 0, ⟨#[]⟩, ⟨#[]⟩, 0, 0, 0, ⟨#[]⟩, []⟩, rfl, fun s' e => by (cases e), (Chg.alloc (Chg.setCell (Chg.setCell (Chg.setCell (Chg.setCell (Chg.setCell (Chg.setCell (Chg.setCell HC2.out (Or.inr (Nat.le_refl _)) _) (Or.inr (Nat.le_refl _)) _) (Or.inr (Nat.le_refl _)) _) (Or.inr (Nat.le_refl _)) _) (Or.inr (Nat.le_refl _)) _) (Or.inr (Nat.le_refl _)) _) (Or.inr (Nat.le_refl _)) _) _)⟩
    | some h =>
      rw [Option.isSome_some, Option.getD_some]
      go_wp2
      exact bodyPost_ret (v := .tuple #[.agg (cCall ⟨1, 0, ⟨#[]⟩, ⟨#[]⟩, h, 0, 0, ⟨#[]⟩, []⟩), .bool false]) (by simp [results, Tryz.results17, go_sem, *]) rfl ⟨⟨1, 0, ⟨#[]⟩, ⟨#[]⟩, h, 0, 0, ⟨#[]⟩, []⟩, rfl, fun s' e => by (cases e), (Chg.alloc (Chg.setCell (Chg.setCell (Chg.setCell (Chg.setCell (Chg.setCell (Chg.setCell (Chg.setCell HC2.out (Or.inr (Nat.le_refl _)) _) (Or.inr (Nat.le_refl _)) _) (Or.inr (Nat.le_refl _)) _) (Or.inr (Nat.le_refl _)) _) (Or.inr (Nat.le_refl _)) _) (Or.inr (Nat.le_refl _)) _) (Or.inr (Nat.le_refl _)) _) _)⟩

set_option maxRecDepth 20000 in
set_option maxHeartbeats 4000000 in
theorem han_none_pwrite (w : World) (F : List ByteArray) (g fc : Nat) (hc : ∀ i, i < F.length → w.cell? ⟨g, i, none⟩ = some (.string (F.getD i noText))) (hs : ∀ x ∈ F, x.size ≤ 1048576) (hk : (F.getD 0 noText) = ⟨#[112, 119, 114, 105, 116, 101]⟩) (h1 : 1 ≤ F.length) (hn : F.length ≠ 4) :
    Calls Tryz.prog 17 #[.slice (some ⟨g, 0, none⟩) F.length fc] w (CallPost w (none)) := by
  have b_close : ((F.getD 0 noText).toList == [99, 108, 111, 115, 101]) = false := tl_no (by rw [hk]; decide)
  have b_fstat : ((F.getD 0 noText).toList == [102, 115, 116, 97, 116]) = false := tl_no (by rw [hk]; decide)
  have b_ftrunc : ((F.getD 0 noText).toList == [102, 116, 114, 117, 110, 99]) = false := tl_no (by rw [hk]; decide)
  have b_pread : ((F.getD 0 noText).toList == [112, 114, 101, 97, 100]) = false := tl_no (by rw [hk]; decide)
  have b_pwrite : ((F.getD 0 noText).toList == [112, 119, 114, 105, 116, 101]) = true := tl_yes hk
  have hln : (((F.length : Nat) : Int) == 4) = false := by rw [beq_eq_false_iff_ne]; omega
  clear hk
  have HC1 : Hid (Chg 0 0 w (w.alloc (.cells #[.int .i64 0, .string ⟨#[]⟩, .string ⟨#[]⟩, .int .i64 0, .int .i64 0, .int .i64 0, .string ⟨#[]⟩] 24))) := Chg.alloc (Chg.refl 0 0 w) _
  have HB1 : Hid ((w.alloc (.cells #[.int .i64 0, .string ⟨#[]⟩, .string ⟨#[]⟩, .int .i64 0, .int .i64 0, .int .i64 0, .string ⟨#[]⟩] 24)).heap[w.heap.size]? = some (.cells #[.int .i64 0, .string ⟨#[]⟩, .string ⟨#[]⟩, .int .i64 0, .int .i64 0, .int .i64 0, .string ⟨#[]⟩] 24 (0, 0))) := heap_new w _
  have hz : w.heap.size < (w.alloc (.cells #[.int .i64 0, .string ⟨#[]⟩, .string ⟨#[]⟩, .int .i64 0, .int .i64 0, .int .i64 0, .string ⟨#[]⟩] 24)).heap.size := by simp
  go_enter Tryz.func17, Tryz.ntmps17
  by_cases h2 : F.length < 2
  · have h2i : ((F.length : Nat) : Int) < 2 := by omega
    clear hc hs HB1
    go_wp2
    exact bodyPost_ret (v := .tuple #[.agg (cCall ⟨0, 0, ⟨#[]⟩, ⟨#[]⟩, 0, 0, 0, ⟨#[]⟩, []⟩), .bool false]) (by simp [results, Tryz.results17, go_sem, *]) rfl ⟨⟨0, 0, ⟨#[]⟩, ⟨#[]⟩, 0, 0, 0, ⟨#[]⟩, []⟩, rfl, fun s' e => by (cases e), HC1.out⟩
  · have h2i : ¬ (((F.length : Nat) : Int) < 2) := by omega
    have p0 : (0 : Int) < (F.length : Int) := by omega
    have p1 : (1 : Int) < (F.length : Int) := by omega
    have cl0 := hc 0 (by omega)
    have cl1 := hc 1 (by omega)
    have hx1 : (F.getD 1 noText).size ≤ 1048576 := hs _ (by rw [List.getD_eq_getElem?_getD, List.getElem?_eq_getElem (by omega : 1 < F.length)]; exact List.getElem_mem _)
    have hg := lt_of_cell cl0
    clear hc hs
    generalize F.getD 0 noText = x0 at *
    generalize F.getD 1 noText = x1 at *
    have hN := fun W => l14Number_calls W x1 hx1
    go_wp2_with fail
    generalize w.alloc (.cells #[.int .i64 0, .string ⟨#[]⟩, .string ⟨#[]⟩, .int .i64 0, .int .i64 0, .int .i64 0, .string ⟨#[]⟩] 24) = w1 at *
    refine (hN w1).mono ?_
    rintro e w2 ⟨rfl, cc1⟩
    have HC2 : Hid (Chg 0 0 w w2) := HC1.out.trans cc1
    have HB2 : Hid (w2.heap[w.heap.size]? = some (.cells #[.int .i64 0, .string ⟨#[]⟩, .string ⟨#[]⟩, .int .i64 0, .int .i64 0, .int .i64 0, .string ⟨#[]⟩] 24 (0, 0))) := (cc1.block _ (by have := HC1.out.size; omega) (by omega)).trans HB1.out
    have hz2 : w.heap.size < w2.heap.size := by have := cc1.size; omega
    have hg2 : g < w2.heap.size := by omega
    clear cc1 HB1
    have m0 := HC2.out.cell cl0 (by omega)
    have m1 := HC2.out.cell cl1 (by omega)
    clear hN
    obtain ⟨⟨y0, y1, y2, y3, y4, y5, y6⟩, f0, f1, f2, f3, f4, f5, f6⟩ := seven_all HB2.out
    cases numF x1 with
    | none =>
      rw [Option.isSome_none, Option.getD_none]
      go_wp2
      exact bodyPost_ret (v := .tuple #[.agg (cCall ⟨0, 0, ⟨#[]⟩, ⟨#[]⟩, 0, 0, 0, ⟨#[]⟩, []⟩), .bool false]) (by simp [results, Tryz.results17, go_sem, *]) rfl ⟨⟨0, 0, ⟨#[]⟩, ⟨#[]⟩, 0, 0, 0, ⟨#[]⟩, []⟩, rfl, fun s' e => by (cases e), (Chg.alloc (Chg.setCell (Chg.setCell (Chg.setCell (Chg.setCell (Chg.setCell (Chg.setCell (Chg.setCell HC2.out (Or.inr (Nat.le_refl _)) _) (Or.inr (Nat.le_refl _)) _) (Or.inr (Nat.le_refl _)) _) (Or.inr (Nat.le_refl _)) _) (Or.inr (Nat.le_refl _)) _) (Or.inr (Nat.le_refl _)) _) (Or.inr (Nat.le_refl _)) _) _)⟩
    | some h =>
      rw [Option.isSome_some, Option.getD_some]
      go_wp2
      exact bodyPost_ret (v := .tuple #[.agg (cCall ⟨1, 0, ⟨#[]⟩, ⟨#[]⟩, h, 0, 0, ⟨#[]⟩, []⟩), .bool false]) (by simp [results, Tryz.results17, go_sem, *]) rfl ⟨⟨1, 0, ⟨#[]⟩, ⟨#[]⟩, h, 0, 0, ⟨#[]⟩, []⟩, rfl, fun s' e => by (cases e), (Chg.alloc (Chg.setCell (Chg.setCell (Chg.setCell (Chg.setCell (Chg.setCell (Chg.setCell (Chg.setCell HC2.out (Or.inr (Nat.le_refl _)) _) (Or.inr (Nat.le_refl _)) _) (Or.inr (Nat.le_refl _)) _) (Or.inr (Nat.le_refl _)) _) (Or.inr (Nat.le_refl _)) _) (Or.inr (Nat.le_refl _)) _) (Or.inr (Nat.le_refl _)) _) _)⟩

set_option maxRecDepth 20000 in
set_option maxHeartbeats 4000000 in
theorem han_none_all (w : World) (F : List ByteArray) (g fc : Nat) (hc : ∀ i, i < F.length → w.cell? ⟨g, i, none⟩ = some (.string (F.getD i noText))) (hs : ∀ x ∈ F, x.size ≤ 1048576) (h_close : (F.getD 0 noText) ≠ ⟨#[99, 108, 111, 115, 101]⟩) (h_fstat : (F.getD 0 noText) ≠ ⟨#[102, 115, 116, 97, 116]⟩) (h_ftrunc : (F.getD 0 noText) ≠ ⟨#[102, 116, 114, 117, 110, 99]⟩) (h_pread : (F.getD 0 noText) ≠ ⟨#[112, 114, 101, 97, 100]⟩) (h_pwrite : (F.getD 0 noText) ≠ ⟨#[112, 119, 114, 105, 116, 101]⟩) (h1 : 1 ≤ F.length) :
    Calls Tryz.prog 17 #[.slice (some ⟨g, 0, none⟩) F.length fc] w (CallPost w (none)) := by
  have b_close : ((F.getD 0 noText).toList == [99, 108, 111, 115, 101]) = false := tl_no h_close
  have b_fstat : ((F.getD 0 noText).toList == [102, 115, 116, 97, 116]) = false := tl_no h_fstat
  have b_ftrunc : ((F.getD 0 noText).toList == [102, 116, 114, 117, 110, 99]) = false := tl_no h_ftrunc
  have b_pread : ((F.getD 0 noText).toList == [112, 114, 101, 97, 100]) = false := tl_no h_pread
  have b_pwrite : ((F.getD 0 noText).toList == [112, 119, 114, 105, 116, 101]) = false := tl_no h_pwrite
  clear h_close h_fstat h_ftrunc h_pread h_pwrite
  have HC1 : Hid (Chg 0 0 w (w.alloc (.cells #[.int .i64 0, .string ⟨#[]⟩, .string ⟨#[]⟩, .int .i64 0, .int .i64 0, .int .i64 0, .string ⟨#[]⟩] 24))) := Chg.alloc (Chg.refl 0 0 w) _
  have HB1 : Hid ((w.alloc (.cells #[.int .i64 0, .string ⟨#[]⟩, .string ⟨#[]⟩, .int .i64 0, .int .i64 0, .int .i64 0, .string ⟨#[]⟩] 24)).heap[w.heap.size]? = some (.cells #[.int .i64 0, .string ⟨#[]⟩, .string ⟨#[]⟩, .int .i64 0, .int .i64 0, .int .i64 0, .string ⟨#[]⟩] 24 (0, 0))) := heap_new w _
  have hz : w.heap.size < (w.alloc (.cells #[.int .i64 0, .string ⟨#[]⟩, .string ⟨#[]⟩, .int .i64 0, .int .i64 0, .int .i64 0, .string ⟨#[]⟩] 24)).heap.size := by simp
  go_enter Tryz.func17, Tryz.ntmps17
  by_cases h2 : F.length < 2
  · have h2i : ((F.length : Nat) : Int) < 2 := by omega
    clear hc hs HB1
    go_wp2
    exact bodyPost_ret (v := .tuple #[.agg (cCall ⟨0, 0, ⟨#[]⟩, ⟨#[]⟩, 0, 0, 0, ⟨#[]⟩, []⟩), .bool false]) (by simp [results, Tryz.results17, go_sem, *]) rfl ⟨⟨0, 0, ⟨#[]⟩, ⟨#[]⟩, 0, 0, 0, ⟨#[]⟩, []⟩, rfl, fun s' e => by (cases e), HC1.out⟩
  · have h2i : ¬ (((F.length : Nat) : Int) < 2) := by omega
    have p0 : (0 : Int) < (F.length : Int) := by omega
    have p1 : (1 : Int) < (F.length : Int) := by omega
    have cl0 := hc 0 (by omega)
    have cl1 := hc 1 (by omega)
    have hx1 : (F.getD 1 noText).size ≤ 1048576 := hs _ (by rw [List.getD_eq_getElem?_getD, List.getElem?_eq_getElem (by omega : 1 < F.length)]; exact List.getElem_mem _)
    have hg := lt_of_cell cl0
    clear hc hs
    generalize F.getD 0 noText = x0 at *
    generalize F.getD 1 noText = x1 at *
    have hN := fun W => l14Number_calls W x1 hx1
    go_wp2_with fail
    generalize w.alloc (.cells #[.int .i64 0, .string ⟨#[]⟩, .string ⟨#[]⟩, .int .i64 0, .int .i64 0, .int .i64 0, .string ⟨#[]⟩] 24) = w1 at *
    refine (hN w1).mono ?_
    rintro e w2 ⟨rfl, cc1⟩
    have HC2 : Hid (Chg 0 0 w w2) := HC1.out.trans cc1
    have HB2 : Hid (w2.heap[w.heap.size]? = some (.cells #[.int .i64 0, .string ⟨#[]⟩, .string ⟨#[]⟩, .int .i64 0, .int .i64 0, .int .i64 0, .string ⟨#[]⟩] 24 (0, 0))) := (cc1.block _ (by have := HC1.out.size; omega) (by omega)).trans HB1.out
    have hz2 : w.heap.size < w2.heap.size := by have := cc1.size; omega
    have hg2 : g < w2.heap.size := by omega
    clear cc1 HB1
    have m0 := HC2.out.cell cl0 (by omega)
    have m1 := HC2.out.cell cl1 (by omega)
    clear hN
    obtain ⟨⟨y0, y1, y2, y3, y4, y5, y6⟩, f0, f1, f2, f3, f4, f5, f6⟩ := seven_all HB2.out
    cases numF x1 with
    | none =>
      rw [Option.isSome_none, Option.getD_none]
      go_wp2
      exact bodyPost_ret (v := .tuple #[.agg (cCall ⟨0, 0, ⟨#[]⟩, ⟨#[]⟩, 0, 0, 0, ⟨#[]⟩, []⟩), .bool false]) (by simp [results, Tryz.results17, go_sem, *]) rfl ⟨⟨0, 0, ⟨#[]⟩, ⟨#[]⟩, 0, 0, 0, ⟨#[]⟩, []⟩, rfl, fun s' e => by (cases e), (Chg.alloc (Chg.setCell (Chg.setCell (Chg.setCell (Chg.setCell (Chg.setCell (Chg.setCell (Chg.setCell HC2.out (Or.inr (Nat.le_refl _)) _) (Or.inr (Nat.le_refl _)) _) (Or.inr (Nat.le_refl _)) _) (Or.inr (Nat.le_refl _)) _) (Or.inr (Nat.le_refl _)) _) (Or.inr (Nat.le_refl _)) _) (Or.inr (Nat.le_refl _)) _) _)⟩
    | some h =>
      rw [Option.isSome_some, Option.getD_some]
      go_wp2
      exact bodyPost_ret (v := .tuple #[.agg (cCall ⟨1, 0, ⟨#[]⟩, ⟨#[]⟩, h, 0, 0, ⟨#[]⟩, []⟩), .bool false]) (by simp [results, Tryz.results17, go_sem, *]) rfl ⟨⟨1, 0, ⟨#[]⟩, ⟨#[]⟩, h, 0, 0, ⟨#[]⟩, []⟩, rfl, fun s' e => by (cases e), (Chg.alloc (Chg.setCell (Chg.setCell (Chg.setCell (Chg.setCell (Chg.setCell (Chg.setCell (Chg.setCell HC2.out (Or.inr (Nat.le_refl _)) _) (Or.inr (Nat.le_refl _)) _) (Or.inr (Nat.le_refl _)) _) (Or.inr (Nat.le_refl _)) _) (Or.inr (Nat.le_refl _)) _) (Or.inr (Nat.le_refl _)) _) (Or.inr (Nat.le_refl _)) _) _)⟩

end Go.Proofs.YteaeikmgkmpkiaaGreatDoor
