/- l14Long of the model: the lines of several fields behind the path. (made by tools/mklong.py) -/
import Derived.Test.YteaeikmgkmpkiaaGreatDoorLineNum
import Derived.Test.YteaeikmgkmpkiaaGreatDoorUnqSpec
import Derived.Test.YteaeikmgkmpkiaaGreatDoorTakeC
namespace Go.Proofs.YteaeikmgkmpkiaaGreatDoor
open Go.RowKit Go.Lib

abbrev cCall (s : Lst) : Array Value := #[.int .i64 s.ck, .string s.path, .string s.to', .int .i64 s.han, .int .i64 s.off, .int .i64 s.siz, .string s.data]
theorem seven_all {w : World} {s : Nat} {a b c d e f g : Value} {t : TypeId} (hh : w.heap[s]? = some (.cells #[a, b, c, d, e, f, g] t (0, 0))) :
    (w.cell? ⟨s, 0, none⟩ = some a ∧ w.cell? ⟨s, 1, none⟩ = some b ∧ w.cell? ⟨s, 2, none⟩ = some c ∧ w.cell? ⟨s, 3, none⟩ = some d ∧ w.cell? ⟨s, 4, none⟩ = some e ∧ w.cell? ⟨s, 5, none⟩ = some f ∧ w.cell? ⟨s, 6, none⟩ = some g) ∧
      w.frozen? ⟨s, 0, none⟩ = false ∧ w.frozen? ⟨s, 1, none⟩ = false ∧ w.frozen? ⟨s, 2, none⟩ = false ∧ w.frozen? ⟨s, 3, none⟩ = false ∧ w.frozen? ⟨s, 4, none⟩ = false ∧ w.frozen? ⟨s, 5, none⟩ = false ∧ w.frozen? ⟨s, 6, none⟩ = false := by
  simp [World.cell?, World.frozen?, hh]
def CallPost (w : World) (R : Option Lst) (e : Ending) (w' : World) : Prop := ∃ s : Lst, e = .returned (.tuple #[.agg (cCall s), .bool R.isSome]) ∧ (∀ s', R = some s' → s' = s) ∧ Chg 0 0 w w'

set_option maxRecDepth 20000 in
set_option maxHeartbeats 4000000 in
theorem long_rename (w : World) (F : List ByteArray) (g fc : Nat) (hc : ∀ i, i < F.length → w.cell? ⟨g, i, none⟩ = some (.string (F.getD i noText))) (hs : ∀ x ∈ F, x.size ≤ 1048576) (hk : F.getD 0 noText = ⟨#[114, 101, 110, 97, 109, 101]⟩) (hn : F.length = 3) :
    Calls Tryz.prog 16 #[.slice (some ⟨g, 0, none⟩) F.length fc] w (CallPost w (some ⟨1, 5, (F.getD 1 noText), (F.getD 2 noText), 0, 0, 0, ⟨#[]⟩, []⟩)) := by
  have b_rename : ((F.getD 0 noText).toList == [114, 101, 110, 97, 109, 101]) = true := tl_yes hk
  have b_link : ((F.getD 0 noText).toList == [108, 105, 110, 107]) = false := tl_no (by rw [hk]; decide)
  have b_symlink : ((F.getD 0 noText).toList == [115, 121, 109, 108, 105, 110, 107]) = false := tl_no (by rw [hk]; decide)
  have b_append : ((F.getD 0 noText).toList == [97, 112, 112, 101, 110, 100]) = false := tl_no (by rw [hk]; decide)
  have b_write : ((F.getD 0 noText).toList == [119, 114, 105, 116, 101]) = false := tl_no (by rw [hk]; decide)
  have b_fill : ((F.getD 0 noText).toList == [102, 105, 108, 108]) = false := tl_no (by rw [hk]; decide)
  have b_trunc : ((F.getD 0 noText).toList == [116, 114, 117, 110, 99]) = false := tl_no (by rw [hk]; decide)
  have b_read : ((F.getD 0 noText).toList == [114, 101, 97, 100]) = false := tl_no (by rw [hk]; decide)
  have cl0 := hc 0 (by omega)
  have cl1 := hc 1 (by omega)
  have cl2 := hc 2 (by omega)
  have hg := lt_of_cell cl0
  have hx1 : (F.getD 1 noText).size ≤ 1048576 := hs _ (by rw [List.getD_eq_getElem?_getD, List.getElem?_eq_getElem (by omega : 1 < F.length)]; exact List.getElem_mem _)
  have hx2 : (F.getD 2 noText).size ≤ 1048576 := hs _ (by rw [List.getD_eq_getElem?_getD, List.getElem?_eq_getElem (by omega : 2 < F.length)]; exact List.getElem_mem _)
  clear hc hs hk
  generalize F.getD 0 noText = x0 at *
  generalize F.getD 1 noText = x1 at *
  generalize F.getD 2 noText = x2 at *
  rw [hn]
  clear hn
  go_enter Tryz.func16, Tryz.ntmps16
  go_wp2
  go_region
  go_wp2
  exact bodyPost_ret (v := .tuple #[.agg (cCall ⟨1, 5, x1, x2, 0, 0, 0, ⟨#[]⟩, []⟩), .bool true]) (by simp [results, Tryz.results16, go_sem]) rfl ⟨⟨1, 5, x1, x2, 0, 0, 0, ⟨#[]⟩, []⟩, rfl, fun s' e => by injection e with e; exact e.symm, Chg.drew (Chg.alloc (Chg.refl 0 0 w) _)⟩

set_option maxRecDepth 20000 in
set_option maxHeartbeats 4000000 in
theorem long_link (w : World) (F : List ByteArray) (g fc : Nat) (hc : ∀ i, i < F.length → w.cell? ⟨g, i, none⟩ = some (.string (F.getD i noText))) (hs : ∀ x ∈ F, x.size ≤ 1048576) (hk : F.getD 0 noText = ⟨#[108, 105, 110, 107]⟩) (hn : F.length = 3) :
    Calls Tryz.prog 16 #[.slice (some ⟨g, 0, none⟩) F.length fc] w (CallPost w (some ⟨1, 9, (F.getD 1 noText), (F.getD 2 noText), 0, 0, 0, ⟨#[]⟩, []⟩)) := by
  have b_rename : ((F.getD 0 noText).toList == [114, 101, 110, 97, 109, 101]) = false := tl_no (by rw [hk]; decide)
  have b_link : ((F.getD 0 noText).toList == [108, 105, 110, 107]) = true := tl_yes hk
  have b_symlink : ((F.getD 0 noText).toList == [115, 121, 109, 108, 105, 110, 107]) = false := tl_no (by rw [hk]; decide)
  have b_append : ((F.getD 0 noText).toList == [97, 112, 112, 101, 110, 100]) = false := tl_no (by rw [hk]; decide)
  have b_write : ((F.getD 0 noText).toList == [119, 114, 105, 116, 101]) = false := tl_no (by rw [hk]; decide)
  have b_fill : ((F.getD 0 noText).toList == [102, 105, 108, 108]) = false := tl_no (by rw [hk]; decide)
  have b_trunc : ((F.getD 0 noText).toList == [116, 114, 117, 110, 99]) = false := tl_no (by rw [hk]; decide)
  have b_read : ((F.getD 0 noText).toList == [114, 101, 97, 100]) = false := tl_no (by rw [hk]; decide)
  have cl0 := hc 0 (by omega)
  have cl1 := hc 1 (by omega)
  have cl2 := hc 2 (by omega)
  have hg := lt_of_cell cl0
  have hx1 : (F.getD 1 noText).size ≤ 1048576 := hs _ (by rw [List.getD_eq_getElem?_getD, List.getElem?_eq_getElem (by omega : 1 < F.length)]; exact List.getElem_mem _)
  have hx2 : (F.getD 2 noText).size ≤ 1048576 := hs _ (by rw [List.getD_eq_getElem?_getD, List.getElem?_eq_getElem (by omega : 2 < F.length)]; exact List.getElem_mem _)
  clear hc hs hk
  generalize F.getD 0 noText = x0 at *
  generalize F.getD 1 noText = x1 at *
  generalize F.getD 2 noText = x2 at *
  rw [hn]
  clear hn
  go_enter Tryz.func16, Tryz.ntmps16
  go_wp2
  go_region
  go_wp2
  exact bodyPost_ret (v := .tuple #[.agg (cCall ⟨1, 9, x1, x2, 0, 0, 0, ⟨#[]⟩, []⟩), .bool true]) (by simp [results, Tryz.results16, go_sem]) rfl ⟨⟨1, 9, x1, x2, 0, 0, 0, ⟨#[]⟩, []⟩, rfl, fun s' e => by injection e with e; exact e.symm, Chg.drew (Chg.alloc (Chg.refl 0 0 w) _)⟩

set_option maxRecDepth 20000 in
set_option maxHeartbeats 4000000 in
theorem long_symlink (w : World) (F : List ByteArray) (g fc : Nat) (hc : ∀ i, i < F.length → w.cell? ⟨g, i, none⟩ = some (.string (F.getD i noText))) (hs : ∀ x ∈ F, x.size ≤ 1048576) (hk : F.getD 0 noText = ⟨#[115, 121, 109, 108, 105, 110, 107]⟩) (hn : F.length = 3) :
    Calls Tryz.prog 16 #[.slice (some ⟨g, 0, none⟩) F.length fc] w (CallPost w (some ⟨1, 10, (F.getD 1 noText), (F.getD 2 noText), 0, 0, 0, ⟨#[]⟩, []⟩)) := by
  have b_rename : ((F.getD 0 noText).toList == [114, 101, 110, 97, 109, 101]) = false := tl_no (by rw [hk]; decide)
  have b_link : ((F.getD 0 noText).toList == [108, 105, 110, 107]) = false := tl_no (by rw [hk]; decide)
  have b_symlink : ((F.getD 0 noText).toList == [115, 121, 109, 108, 105, 110, 107]) = true := tl_yes hk
  have b_append : ((F.getD 0 noText).toList == [97, 112, 112, 101, 110, 100]) = false := tl_no (by rw [hk]; decide)
  have b_write : ((F.getD 0 noText).toList == [119, 114, 105, 116, 101]) = false := tl_no (by rw [hk]; decide)
  have b_fill : ((F.getD 0 noText).toList == [102, 105, 108, 108]) = false := tl_no (by rw [hk]; decide)
  have b_trunc : ((F.getD 0 noText).toList == [116, 114, 117, 110, 99]) = false := tl_no (by rw [hk]; decide)
  have b_read : ((F.getD 0 noText).toList == [114, 101, 97, 100]) = false := tl_no (by rw [hk]; decide)
  have cl0 := hc 0 (by omega)
  have cl1 := hc 1 (by omega)
  have cl2 := hc 2 (by omega)
  have hg := lt_of_cell cl0
  have hx1 : (F.getD 1 noText).size ≤ 1048576 := hs _ (by rw [List.getD_eq_getElem?_getD, List.getElem?_eq_getElem (by omega : 1 < F.length)]; exact List.getElem_mem _)
  have hx2 : (F.getD 2 noText).size ≤ 1048576 := hs _ (by rw [List.getD_eq_getElem?_getD, List.getElem?_eq_getElem (by omega : 2 < F.length)]; exact List.getElem_mem _)
  clear hc hs hk
  generalize F.getD 0 noText = x0 at *
  generalize F.getD 1 noText = x1 at *
  generalize F.getD 2 noText = x2 at *
  rw [hn]
  clear hn
  go_enter Tryz.func16, Tryz.ntmps16
  go_wp2
  go_region
  go_wp2
  exact bodyPost_ret (v := .tuple #[.agg (cCall ⟨1, 10, x1, x2, 0, 0, 0, ⟨#[]⟩, []⟩), .bool true]) (by simp [results, Tryz.results16, go_sem]) rfl ⟨⟨1, 10, x1, x2, 0, 0, 0, ⟨#[]⟩, []⟩, rfl, fun s' e => by injection e with e; exact e.symm, Chg.drew (Chg.alloc (Chg.refl 0 0 w) _)⟩

set_option maxRecDepth 20000 in
set_option maxHeartbeats 4000000 in
theorem long_append (w : World) (F : List ByteArray) (g fc : Nat) (hc : ∀ i, i < F.length → w.cell? ⟨g, i, none⟩ = some (.string (F.getD i noText))) (hs : ∀ x ∈ F, x.size ≤ 1048576) (hk : F.getD 0 noText = ⟨#[97, 112, 112, 101, 110, 100]⟩) (hn : F.length = 3) :
    Calls Tryz.prog 16 #[.slice (some ⟨g, 0, none⟩) F.length fc] w (CallPost w ((unqD (F.getD 2 noText)).map fun d => (⟨1, 8, (F.getD 1 noText), ⟨#[]⟩, 0, 0, 0, d, []⟩ : Lst))) := by
  have b_rename : ((F.getD 0 noText).toList == [114, 101, 110, 97, 109, 101]) = false := tl_no (by rw [hk]; decide)
  have b_link : ((F.getD 0 noText).toList == [108, 105, 110, 107]) = false := tl_no (by rw [hk]; decide)
  have b_symlink : ((F.getD 0 noText).toList == [115, 121, 109, 108, 105, 110, 107]) = false := tl_no (by rw [hk]; decide)
  have b_append : ((F.getD 0 noText).toList == [97, 112, 112, 101, 110, 100]) = true := tl_yes hk
  have b_write : ((F.getD 0 noText).toList == [119, 114, 105, 116, 101]) = false := tl_no (by rw [hk]; decide)
  have b_fill : ((F.getD 0 noText).toList == [102, 105, 108, 108]) = false := tl_no (by rw [hk]; decide)
  have b_trunc : ((F.getD 0 noText).toList == [116, 114, 117, 110, 99]) = false := tl_no (by rw [hk]; decide)
  have b_read : ((F.getD 0 noText).toList == [114, 101, 97, 100]) = false := tl_no (by rw [hk]; decide)
  have cl0 := hc 0 (by omega)
  have cl1 := hc 1 (by omega)
  have cl2 := hc 2 (by omega)
  have hg := lt_of_cell cl0
  have hx1 : (F.getD 1 noText).size ≤ 1048576 := hs _ (by rw [List.getD_eq_getElem?_getD, List.getElem?_eq_getElem (by omega : 1 < F.length)]; exact List.getElem_mem _)
  have hx2 : (F.getD 2 noText).size ≤ 1048576 := hs _ (by rw [List.getD_eq_getElem?_getD, List.getElem?_eq_getElem (by omega : 2 < F.length)]; exact List.getElem_mem _)
  clear hc hs hk
  generalize F.getD 0 noText = x0 at *
  generalize F.getD 1 noText = x1 at *
  generalize F.getD 2 noText = x2 at *
  rw [hn]
  clear hn
  have HC1 : Hid (Chg 0 0 w (w.alloc (.cells #[.int .i64 0, .string ⟨#[]⟩, .string ⟨#[]⟩, .int .i64 0, .int .i64 0, .int .i64 0, .string ⟨#[]⟩] 24))) := Chg.alloc (Chg.refl 0 0 w) _
  have HB1 : Hid ((w.alloc (.cells #[.int .i64 0, .string ⟨#[]⟩, .string ⟨#[]⟩, .int .i64 0, .int .i64 0, .int .i64 0, .string ⟨#[]⟩] 24)).heap[w.heap.size]? = some (.cells #[.int .i64 0, .string ⟨#[]⟩, .string ⟨#[]⟩, .int .i64 0, .int .i64 0, .int .i64 0, .string ⟨#[]⟩] 24 (0, 0))) := heap_new w _
  have hz : w.heap.size < (w.alloc (.cells #[.int .i64 0, .string ⟨#[]⟩, .string ⟨#[]⟩, .int .i64 0, .int .i64 0, .int .i64 0, .string ⟨#[]⟩] 24)).heap.size := by simp
  have hU := fun W => specUnquote_calls W x2 hx2
  obtain ⟨gd, d, e1, e2, HE⟩ : ∃ gd d, unqV x2 = unqO gd d ∧ ((unqD x2).map fun d => (⟨1, 8, x1, ⟨#[]⟩, 0, 0, 0, d, []⟩ : Lst)).isSome = gd ∧ Hid (∀ s', ((unqD x2).map fun d => (⟨1, 8, x1, ⟨#[]⟩, 0, 0, 0, d, []⟩ : Lst)) = some s' → s' = ⟨1, 8, x1, ⟨#[]⟩, 0, 0, 0, d, []⟩) := by
    cases hd : unqD x2 with
    | none => exact ⟨false, _, unqD_none hd, rfl, fun s' e => by cases e⟩
    | some d => exact ⟨true, d, unqD_some hd, rfl, fun s' e => by injection e with e; exact e.symm⟩
  rw [e1] at hU
  unfold CallPost
  rw [e2]
  clear e1 e2
  go_enter Tryz.func16, Tryz.ntmps16
  go_wp2_with fail
  generalize w.alloc (.cells #[.int .i64 0, .string ⟨#[]⟩, .string ⟨#[]⟩, .int .i64 0, .int .i64 0, .int .i64 0, .string ⟨#[]⟩] 24) = w1 at *
  refine (hU w1).mono ?_
  rintro e w2 ⟨rfl, cc1⟩
  have HC2 : Hid (Chg 0 0 w w2) := HC1.out.trans cc1
  have HB2 : Hid (w2.heap[w.heap.size]? = some (.cells #[.int .i64 0, .string ⟨#[]⟩, .string ⟨#[]⟩, .int .i64 0, .int .i64 0, .int .i64 0, .string ⟨#[]⟩] 24 (0, 0))) := (cc1.block _ (by have := HC1.out.size; omega) (by omega)).trans HB1.out
  have hz2 : w.heap.size < w2.heap.size := by have := cc1.size; omega
  have hg2 : g < w2.heap.size := by omega
  clear cc1 HB1
  have m0 := HC2.out.cell cl0 (by omega)
  have m1 := HC2.out.cell cl1 (by omega)
  have m2 := HC2.out.cell cl2 (by omega)
  obtain ⟨⟨y0, y1, y2, y3, y4, y5, y6⟩, f0, f1, f2, f3, f4, f5, f6⟩ := seven_all HB2.out
  go_wp2
  go_region
  go_wp2
  exact bodyPost_ret (v := .tuple #[.agg (cCall ⟨1, 8, x1, ⟨#[]⟩, 0, 0, 0, d, []⟩), .bool gd]) (by simp [results, Tryz.results16, go_sem, *]) rfl ⟨⟨1, 8, x1, ⟨#[]⟩, 0, 0, 0, d, []⟩, rfl, HE.out, (Chg.drew (Chg.alloc (Chg.setCell (Chg.setCell (Chg.setCell (Chg.setCell (Chg.setCell (Chg.setCell (Chg.setCell HC2.out (Or.inr (Nat.le_refl _)) _) (Or.inr (Nat.le_refl _)) _) (Or.inr (Nat.le_refl _)) _) (Or.inr (Nat.le_refl _)) _) (Or.inr (Nat.le_refl _)) _) (Or.inr (Nat.le_refl _)) _) (Or.inr (Nat.le_refl _)) _) _))⟩

set_option maxRecDepth 20000 in
set_option maxHeartbeats 4000000 in
theorem long_trunc (w : World) (F : List ByteArray) (g fc : Nat) (hc : ∀ i, i < F.length → w.cell? ⟨g, i, none⟩ = some (.string (F.getD i noText))) (hs : ∀ x ∈ F, x.size ≤ 1048576) (hk : F.getD 0 noText = ⟨#[116, 114, 117, 110, 99]⟩) (hn : F.length = 3) :
    Calls Tryz.prog 16 #[.slice (some ⟨g, 0, none⟩) F.length fc] w (CallPost w ((numF (F.getD 2 noText)).map fun n => (⟨1, 7, (F.getD 1 noText), ⟨#[]⟩, 0, 0, n, ⟨#[]⟩, []⟩ : Lst))) := by
  have b_rename : ((F.getD 0 noText).toList == [114, 101, 110, 97, 109, 101]) = false := tl_no (by rw [hk]; decide)
  have b_link : ((F.getD 0 noText).toList == [108, 105, 110, 107]) = false := tl_no (by rw [hk]; decide)
  have b_symlink : ((F.getD 0 noText).toList == [115, 121, 109, 108, 105, 110, 107]) = false := tl_no (by rw [hk]; decide)
  have b_append : ((F.getD 0 noText).toList == [97, 112, 112, 101, 110, 100]) = false := tl_no (by rw [hk]; decide)
  have b_write : ((F.getD 0 noText).toList == [119, 114, 105, 116, 101]) = false := tl_no (by rw [hk]; decide)
  have b_fill : ((F.getD 0 noText).toList == [102, 105, 108, 108]) = false := tl_no (by rw [hk]; decide)
  have b_trunc : ((F.getD 0 noText).toList == [116, 114, 117, 110, 99]) = true := tl_yes hk
  have b_read : ((F.getD 0 noText).toList == [114, 101, 97, 100]) = false := tl_no (by rw [hk]; decide)
  have cl0 := hc 0 (by omega)
  have cl1 := hc 1 (by omega)
  have cl2 := hc 2 (by omega)
  have hg := lt_of_cell cl0
  have hx1 : (F.getD 1 noText).size ≤ 1048576 := hs _ (by rw [List.getD_eq_getElem?_getD, List.getElem?_eq_getElem (by omega : 1 < F.length)]; exact List.getElem_mem _)
  have hx2 : (F.getD 2 noText).size ≤ 1048576 := hs _ (by rw [List.getD_eq_getElem?_getD, List.getElem?_eq_getElem (by omega : 2 < F.length)]; exact List.getElem_mem _)
  clear hc hs hk
  generalize F.getD 0 noText = x0 at *
  generalize F.getD 1 noText = x1 at *
  generalize F.getD 2 noText = x2 at *
  rw [hn]
  clear hn
  have HC1 : Hid (Chg 0 0 w (w.alloc (.cells #[.int .i64 0, .string ⟨#[]⟩, .string ⟨#[]⟩, .int .i64 0, .int .i64 0, .int .i64 0, .string ⟨#[]⟩] 24))) := Chg.alloc (Chg.refl 0 0 w) _
  have HB1 : Hid ((w.alloc (.cells #[.int .i64 0, .string ⟨#[]⟩, .string ⟨#[]⟩, .int .i64 0, .int .i64 0, .int .i64 0, .string ⟨#[]⟩] 24)).heap[w.heap.size]? = some (.cells #[.int .i64 0, .string ⟨#[]⟩, .string ⟨#[]⟩, .int .i64 0, .int .i64 0, .int .i64 0, .string ⟨#[]⟩] 24 (0, 0))) := heap_new w _
  have hz : w.heap.size < (w.alloc (.cells #[.int .i64 0, .string ⟨#[]⟩, .string ⟨#[]⟩, .int .i64 0, .int .i64 0, .int .i64 0, .string ⟨#[]⟩] 24)).heap.size := by simp
  have hN := fun W => l14Number_calls W x2 hx2
  have e2 : ((numF x2).map fun n => (⟨1, 7, x1, ⟨#[]⟩, 0, 0, n, ⟨#[]⟩, []⟩ : Lst)).isSome = (numF x2).isSome := by cases numF x2 <;> rfl
  have HE : Hid (∀ s', ((numF x2).map fun n => (⟨1, 7, x1, ⟨#[]⟩, 0, 0, n, ⟨#[]⟩, []⟩ : Lst)) = some s' → s' = ⟨1, 7, x1, ⟨#[]⟩, 0, 0, (numF x2).getD 0, ⟨#[]⟩, []⟩) := fun s' e => by
    cases hn : numF x2 with
    | none => rw [hn] at e; cases e
    | some n => rw [hn] at e; injection e with e; exact e.symm
  unfold CallPost
  rw [e2]
  clear e2
  generalize (numF x2).getD 0 = n at *
  generalize (numF x2).isSome = gd at *
  go_enter Tryz.func16, Tryz.ntmps16
  go_wp2_with fail
  generalize w.alloc (.cells #[.int .i64 0, .string ⟨#[]⟩, .string ⟨#[]⟩, .int .i64 0, .int .i64 0, .int .i64 0, .string ⟨#[]⟩] 24) = w1 at *
  refine (hN w1).mono ?_
  rintro e w2 ⟨rfl, cc1⟩
  have HC2 : Hid (Chg 0 0 w w2) := HC1.out.trans cc1
  have HB2 : Hid (w2.heap[w.heap.size]? = some (.cells #[.int .i64 0, .string ⟨#[]⟩, .string ⟨#[]⟩, .int .i64 0, .int .i64 0, .int .i64 0, .string ⟨#[]⟩] 24 (0, 0))) := (cc1.block _ (by have := HC1.out.size; omega) (by omega)).trans HB1.out
  have hz2 : w.heap.size < w2.heap.size := by have := cc1.size; omega
  have hg2 : g < w2.heap.size := by omega
  clear cc1 HB1
  have m0 := HC2.out.cell cl0 (by omega)
  have m1 := HC2.out.cell cl1 (by omega)
  have m2 := HC2.out.cell cl2 (by omega)
  obtain ⟨⟨y0, y1, y2, y3, y4, y5, y6⟩, f0, f1, f2, f3, f4, f5, f6⟩ := seven_all HB2.out
  go_wp2
  exact bodyPost_ret (v := .tuple #[.agg (cCall ⟨1, 7, x1, ⟨#[]⟩, 0, 0, n, ⟨#[]⟩, []⟩), .bool gd]) (by simp [results, Tryz.results16, go_sem, *]) rfl ⟨⟨1, 7, x1, ⟨#[]⟩, 0, 0, n, ⟨#[]⟩, []⟩, rfl, HE.out, (Chg.setCell (Chg.setCell (Chg.setCell (Chg.setCell (Chg.setCell (Chg.setCell (Chg.setCell HC2.out (Or.inr (Nat.le_refl _)) _) (Or.inr (Nat.le_refl _)) _) (Or.inr (Nat.le_refl _)) _) (Or.inr (Nat.le_refl _)) _) (Or.inr (Nat.le_refl _)) _) (Or.inr (Nat.le_refl _)) _) (Or.inr (Nat.le_refl _)) _)⟩

set_option maxRecDepth 20000 in
set_option maxHeartbeats 4000000 in
theorem long_read (w : World) (F : List ByteArray) (g fc : Nat) (hc : ∀ i, i < F.length → w.cell? ⟨g, i, none⟩ = some (.string (F.getD i noText))) (hs : ∀ x ∈ F, x.size ≤ 1048576) (hk : F.getD 0 noText = ⟨#[114, 101, 97, 100]⟩) (hn : F.length = 4) :
    Calls Tryz.prog 16 #[.slice (some ⟨g, 0, none⟩) F.length fc] w (CallPost w ((numF (F.getD 2 noText)).bind fun n => (numF (F.getD 3 noText)).map fun m => (⟨1, 17, (F.getD 1 noText), ⟨#[]⟩, 0, n, m, ⟨#[]⟩, []⟩ : Lst))) := by
  have b_rename : ((F.getD 0 noText).toList == [114, 101, 110, 97, 109, 101]) = false := tl_no (by rw [hk]; decide)
  have b_link : ((F.getD 0 noText).toList == [108, 105, 110, 107]) = false := tl_no (by rw [hk]; decide)
  have b_symlink : ((F.getD 0 noText).toList == [115, 121, 109, 108, 105, 110, 107]) = false := tl_no (by rw [hk]; decide)
  have b_append : ((F.getD 0 noText).toList == [97, 112, 112, 101, 110, 100]) = false := tl_no (by rw [hk]; decide)
  have b_write : ((F.getD 0 noText).toList == [119, 114, 105, 116, 101]) = false := tl_no (by rw [hk]; decide)
  have b_fill : ((F.getD 0 noText).toList == [102, 105, 108, 108]) = false := tl_no (by rw [hk]; decide)
  have b_trunc : ((F.getD 0 noText).toList == [116, 114, 117, 110, 99]) = false := tl_no (by rw [hk]; decide)
  have b_read : ((F.getD 0 noText).toList == [114, 101, 97, 100]) = true := tl_yes hk
  have cl0 := hc 0 (by omega)
  have cl1 := hc 1 (by omega)
  have cl2 := hc 2 (by omega)
  have cl3 := hc 3 (by omega)
  have hg := lt_of_cell cl0
  have hx1 : (F.getD 1 noText).size ≤ 1048576 := hs _ (by rw [List.getD_eq_getElem?_getD, List.getElem?_eq_getElem (by omega : 1 < F.length)]; exact List.getElem_mem _)
  have hx2 : (F.getD 2 noText).size ≤ 1048576 := hs _ (by rw [List.getD_eq_getElem?_getD, List.getElem?_eq_getElem (by omega : 2 < F.length)]; exact List.getElem_mem _)
  have hx3 : (F.getD 3 noText).size ≤ 1048576 := hs _ (by rw [List.getD_eq_getElem?_getD, List.getElem?_eq_getElem (by omega : 3 < F.length)]; exact List.getElem_mem _)
  clear hc hs hk
  generalize F.getD 0 noText = x0 at *
  generalize F.getD 1 noText = x1 at *
  generalize F.getD 2 noText = x2 at *
  generalize F.getD 3 noText = x3 at *
  rw [hn]
  clear hn
  have HC1 : Hid (Chg 0 0 w (w.alloc (.cells #[.int .i64 0, .string ⟨#[]⟩, .string ⟨#[]⟩, .int .i64 0, .int .i64 0, .int .i64 0, .string ⟨#[]⟩] 24))) := Chg.alloc (Chg.refl 0 0 w) _
  have HB1 : Hid ((w.alloc (.cells #[.int .i64 0, .string ⟨#[]⟩, .string ⟨#[]⟩, .int .i64 0, .int .i64 0, .int .i64 0, .string ⟨#[]⟩] 24)).heap[w.heap.size]? = some (.cells #[.int .i64 0, .string ⟨#[]⟩, .string ⟨#[]⟩, .int .i64 0, .int .i64 0, .int .i64 0, .string ⟨#[]⟩] 24 (0, 0))) := heap_new w _
  have hz : w.heap.size < (w.alloc (.cells #[.int .i64 0, .string ⟨#[]⟩, .string ⟨#[]⟩, .int .i64 0, .int .i64 0, .int .i64 0, .string ⟨#[]⟩] 24)).heap.size := by simp
  have hN := fun W => l14Number_calls W x2 hx2
  have hM := fun W => l14Number_calls W x3 hx3
  obtain ⟨n, g1, m, g2, e1, e3, e5, HE⟩ : ∃ n g1 m g2, Value.tuple #[.int .i64 ((numF x2).getD 0), .bool (numF x2).isSome] = .tuple #[.int .i64 n, .bool g1] ∧ Value.tuple #[.int .i64 ((numF x3).getD 0), .bool (numF x3).isSome] = .tuple #[.int .i64 m, .bool g2] ∧ ((numF x2).bind fun n => (numF x3).map fun m => (⟨1, 17, x1, ⟨#[]⟩, 0, n, m, ⟨#[]⟩, []⟩ : Lst)).isSome = (g1 && g2) ∧ Hid (∀ s', ((numF x2).bind fun n => (numF x3).map fun m => (⟨1, 17, x1, ⟨#[]⟩, 0, n, m, ⟨#[]⟩, []⟩ : Lst)) = some s' → s' = ⟨1, 17, x1, ⟨#[]⟩, 0, n, m, ⟨#[]⟩, []⟩) := by
    refine ⟨_, _, _, _, rfl, rfl, ?_, fun s' e => ?_⟩
    · cases numF x2 <;> cases numF x3 <;> rfl
    · cases hn : numF x2 with
      | none => rw [hn] at e; cases e
      | some n => cases hm : numF x3 with
        | none => rw [hn, hm] at e; cases e
        | some m => rw [hn, hm] at e; injection e with e; exact e.symm
  rw [e1] at hN
  rw [e3] at hM
  unfold CallPost
  rw [e5]
  clear e1 e3 e5
  go_enter Tryz.func16, Tryz.ntmps16
  go_wp2_with fail
  generalize w.alloc (.cells #[.int .i64 0, .string ⟨#[]⟩, .string ⟨#[]⟩, .int .i64 0, .int .i64 0, .int .i64 0, .string ⟨#[]⟩] 24) = w1 at *
  refine (hN w1).mono ?_
  rintro e w2 ⟨rfl, cc1⟩
  have HC2 : Hid (Chg 0 0 w w2) := HC1.out.trans cc1
  have HB2 : Hid (w2.heap[w.heap.size]? = some (.cells #[.int .i64 0, .string ⟨#[]⟩, .string ⟨#[]⟩, .int .i64 0, .int .i64 0, .int .i64 0, .string ⟨#[]⟩] 24 (0, 0))) := (cc1.block _ (by have := HC1.out.size; omega) (by omega)).trans HB1.out
  have hz2 : w.heap.size < w2.heap.size := by have := cc1.size; omega
  have hg2 : g < w2.heap.size := by omega
  clear cc1 HB1
  have m0 := HC2.out.cell cl0 (by omega)
  have m1 := HC2.out.cell cl1 (by omega)
  have m2 := HC2.out.cell cl2 (by omega)
  have m3 := HC2.out.cell cl3 (by omega)
  go_wp2_with fail
  clear m0 m1 m2 m3
  refine (hM w2).mono ?_
  rintro e w3 ⟨rfl, cc2⟩
  have HC3 : Hid (Chg 0 0 w w3) := HC2.out.trans cc2
  have HB3 : Hid (w3.heap[w.heap.size]? = some (.cells #[.int .i64 0, .string ⟨#[]⟩, .string ⟨#[]⟩, .int .i64 0, .int .i64 0, .int .i64 0, .string ⟨#[]⟩] 24 (0, 0))) := (cc2.block _ (by have := HC2.out.size; omega) (by omega)).trans HB2.out
  have hz3 : w.heap.size < w3.heap.size := by have := cc2.size; omega
  have hg3 : g < w3.heap.size := by omega
  clear cc2 HB2
  have m0 := HC3.out.cell cl0 (by omega)
  have m1 := HC3.out.cell cl1 (by omega)
  have m2 := HC3.out.cell cl2 (by omega)
  have m3 := HC3.out.cell cl3 (by omega)
  obtain ⟨⟨y0, y1, y2, y3, y4, y5, y6⟩, f0, f1, f2, f3, f4, f5, f6⟩ := seven_all HB3.out
  cases g1
  · skip
    go_wp2
    exact bodyPost_ret (v := .tuple #[.agg (cCall ⟨1, 17, x1, ⟨#[]⟩, 0, n, m, ⟨#[]⟩, []⟩), .bool (false && g2)]) (by simp [results, Tryz.results16, go_sem, *]) rfl ⟨⟨1, 17, x1, ⟨#[]⟩, 0, n, m, ⟨#[]⟩, []⟩, rfl, HE.out, (Chg.setCell (Chg.setCell (Chg.setCell (Chg.setCell (Chg.setCell (Chg.setCell (Chg.setCell HC3.out (Or.inr (Nat.le_refl _)) _) (Or.inr (Nat.le_refl _)) _) (Or.inr (Nat.le_refl _)) _) (Or.inr (Nat.le_refl _)) _) (Or.inr (Nat.le_refl _)) _) (Or.inr (Nat.le_refl _)) _) (Or.inr (Nat.le_refl _)) _)⟩
  · skip
    go_wp2
    exact bodyPost_ret (v := .tuple #[.agg (cCall ⟨1, 17, x1, ⟨#[]⟩, 0, n, m, ⟨#[]⟩, []⟩), .bool (true && g2)]) (by simp [results, Tryz.results16, go_sem, *]) rfl ⟨⟨1, 17, x1, ⟨#[]⟩, 0, n, m, ⟨#[]⟩, []⟩, rfl, HE.out, (Chg.setCell (Chg.setCell (Chg.setCell (Chg.setCell (Chg.setCell (Chg.setCell (Chg.setCell HC3.out (Or.inr (Nat.le_refl _)) _) (Or.inr (Nat.le_refl _)) _) (Or.inr (Nat.le_refl _)) _) (Or.inr (Nat.le_refl _)) _) (Or.inr (Nat.le_refl _)) _) (Or.inr (Nat.le_refl _)) _) (Or.inr (Nat.le_refl _)) _)⟩

set_option maxRecDepth 20000 in
set_option maxHeartbeats 4000000 in
theorem long_write (w : World) (F : List ByteArray) (g fc : Nat) (hc : ∀ i, i < F.length → w.cell? ⟨g, i, none⟩ = some (.string (F.getD i noText))) (hs : ∀ x ∈ F, x.size ≤ 1048576) (hk : F.getD 0 noText = ⟨#[119, 114, 105, 116, 101]⟩) (hn : F.length = 4) :
    Calls Tryz.prog 16 #[.slice (some ⟨g, 0, none⟩) F.length fc] w (CallPost w ((numF (F.getD 2 noText)).bind fun n => (unqD (F.getD 3 noText)).map fun d => (⟨1, 6, (F.getD 1 noText), ⟨#[]⟩, 0, n, 0, d, []⟩ : Lst))) := by
  have b_rename : ((F.getD 0 noText).toList == [114, 101, 110, 97, 109, 101]) = false := tl_no (by rw [hk]; decide)
  have b_link : ((F.getD 0 noText).toList == [108, 105, 110, 107]) = false := tl_no (by rw [hk]; decide)
  have b_symlink : ((F.getD 0 noText).toList == [115, 121, 109, 108, 105, 110, 107]) = false := tl_no (by rw [hk]; decide)
  have b_append : ((F.getD 0 noText).toList == [97, 112, 112, 101, 110, 100]) = false := tl_no (by rw [hk]; decide)
  have b_write : ((F.getD 0 noText).toList == [119, 114, 105, 116, 101]) = true := tl_yes hk
  have b_fill : ((F.getD 0 noText).toList == [102, 105, 108, 108]) = false := tl_no (by rw [hk]; decide)
  have b_trunc : ((F.getD 0 noText).toList == [116, 114, 117, 110, 99]) = false := tl_no (by rw [hk]; decide)
  have b_read : ((F.getD 0 noText).toList == [114, 101, 97, 100]) = false := tl_no (by rw [hk]; decide)
  have cl0 := hc 0 (by omega)
  have cl1 := hc 1 (by omega)
  have cl2 := hc 2 (by omega)
  have cl3 := hc 3 (by omega)
  have hg := lt_of_cell cl0
  have hx1 : (F.getD 1 noText).size ≤ 1048576 := hs _ (by rw [List.getD_eq_getElem?_getD, List.getElem?_eq_getElem (by omega : 1 < F.length)]; exact List.getElem_mem _)
  have hx2 : (F.getD 2 noText).size ≤ 1048576 := hs _ (by rw [List.getD_eq_getElem?_getD, List.getElem?_eq_getElem (by omega : 2 < F.length)]; exact List.getElem_mem _)
  have hx3 : (F.getD 3 noText).size ≤ 1048576 := hs _ (by rw [List.getD_eq_getElem?_getD, List.getElem?_eq_getElem (by omega : 3 < F.length)]; exact List.getElem_mem _)
  clear hc hs hk
  generalize F.getD 0 noText = x0 at *
  generalize F.getD 1 noText = x1 at *
  generalize F.getD 2 noText = x2 at *
  generalize F.getD 3 noText = x3 at *
  rw [hn]
  clear hn
  have HC1 : Hid (Chg 0 0 w (w.alloc (.cells #[.int .i64 0, .string ⟨#[]⟩, .string ⟨#[]⟩, .int .i64 0, .int .i64 0, .int .i64 0, .string ⟨#[]⟩] 24))) := Chg.alloc (Chg.refl 0 0 w) _
  have HB1 : Hid ((w.alloc (.cells #[.int .i64 0, .string ⟨#[]⟩, .string ⟨#[]⟩, .int .i64 0, .int .i64 0, .int .i64 0, .string ⟨#[]⟩] 24)).heap[w.heap.size]? = some (.cells #[.int .i64 0, .string ⟨#[]⟩, .string ⟨#[]⟩, .int .i64 0, .int .i64 0, .int .i64 0, .string ⟨#[]⟩] 24 (0, 0))) := heap_new w _
  have hz : w.heap.size < (w.alloc (.cells #[.int .i64 0, .string ⟨#[]⟩, .string ⟨#[]⟩, .int .i64 0, .int .i64 0, .int .i64 0, .string ⟨#[]⟩] 24)).heap.size := by simp
  have hN := fun W => l14Number_calls W x2 hx2
  have hM := fun W => specUnquote_calls W x3 hx3
  obtain ⟨n, g1, d, g2, e1, e3, e5, HE⟩ : ∃ n g1 d g2, Value.tuple #[.int .i64 ((numF x2).getD 0), .bool (numF x2).isSome] = .tuple #[.int .i64 n, .bool g1] ∧ unqV x3 = unqO g2 d ∧ ((numF x2).bind fun n => (unqD x3).map fun d => (⟨1, 6, x1, ⟨#[]⟩, 0, n, 0, d, []⟩ : Lst)).isSome = (g1 && g2) ∧ Hid (∀ s', ((numF x2).bind fun n => (unqD x3).map fun d => (⟨1, 6, x1, ⟨#[]⟩, 0, n, 0, d, []⟩ : Lst)) = some s' → s' = ⟨1, 6, x1, ⟨#[]⟩, 0, n, 0, d, []⟩) := by
    cases hd : unqD x3 with
    | none =>
      refine ⟨_, _, _, _, rfl, unqD_none hd, ?_, fun s' e => ?_⟩
      · cases numF x2 <;> rfl
      · cases hn : numF x2 <;> rw [hn] at e <;> cases e
    | some d =>
      refine ⟨_, _, _, _, rfl, unqD_some hd, ?_, fun s' e => ?_⟩
      · cases numF x2 <;> rfl
      · cases hn : numF x2 with
        | none => rw [hn] at e; cases e
        | some n => rw [hn] at e; injection e with e; exact e.symm
  rw [e1] at hN
  rw [e3] at hM
  unfold CallPost
  rw [e5]
  clear e1 e3 e5
  go_enter Tryz.func16, Tryz.ntmps16
  go_wp2_with fail
  generalize w.alloc (.cells #[.int .i64 0, .string ⟨#[]⟩, .string ⟨#[]⟩, .int .i64 0, .int .i64 0, .int .i64 0, .string ⟨#[]⟩] 24) = w1 at *
  refine (hN w1).mono ?_
  rintro e w2 ⟨rfl, cc1⟩
  have HC2 : Hid (Chg 0 0 w w2) := HC1.out.trans cc1
  have HB2 : Hid (w2.heap[w.heap.size]? = some (.cells #[.int .i64 0, .string ⟨#[]⟩, .string ⟨#[]⟩, .int .i64 0, .int .i64 0, .int .i64 0, .string ⟨#[]⟩] 24 (0, 0))) := (cc1.block _ (by have := HC1.out.size; omega) (by omega)).trans HB1.out
  have hz2 : w.heap.size < w2.heap.size := by have := cc1.size; omega
  have hg2 : g < w2.heap.size := by omega
  clear cc1 HB1
  have m0 := HC2.out.cell cl0 (by omega)
  have m1 := HC2.out.cell cl1 (by omega)
  have m2 := HC2.out.cell cl2 (by omega)
  have m3 := HC2.out.cell cl3 (by omega)
  go_wp2_with fail
  clear m0 m1 m2 m3
  refine (hM w2).mono ?_
  rintro e w3 ⟨rfl, cc2⟩
  have HC3 : Hid (Chg 0 0 w w3) := HC2.out.trans cc2
  have HB3 : Hid (w3.heap[w.heap.size]? = some (.cells #[.int .i64 0, .string ⟨#[]⟩, .string ⟨#[]⟩, .int .i64 0, .int .i64 0, .int .i64 0, .string ⟨#[]⟩] 24 (0, 0))) := (cc2.block _ (by have := HC2.out.size; omega) (by omega)).trans HB2.out
  have hz3 : w.heap.size < w3.heap.size := by have := cc2.size; omega
  have hg3 : g < w3.heap.size := by omega
  clear cc2 HB2
  have m0 := HC3.out.cell cl0 (by omega)
  have m1 := HC3.out.cell cl1 (by omega)
  have m2 := HC3.out.cell cl2 (by omega)
  have m3 := HC3.out.cell cl3 (by omega)
  obtain ⟨⟨y0, y1, y2, y3, y4, y5, y6⟩, f0, f1, f2, f3, f4, f5, f6⟩ := seven_all HB3.out
  cases g1
  · skip
    go_wp2
    go_region
    go_wp2
    exact bodyPost_ret (v := .tuple #[.agg (cCall ⟨1, 6, x1, ⟨#[]⟩, 0, n, 0, d, []⟩), .bool (false && g2)]) (by simp [results, Tryz.results16, go_sem, *]) rfl ⟨⟨1, 6, x1, ⟨#[]⟩, 0, n, 0, d, []⟩, rfl, HE.out, (Chg.drew (Chg.alloc (Chg.setCell (Chg.setCell (Chg.setCell (Chg.setCell (Chg.setCell (Chg.setCell (Chg.setCell HC3.out (Or.inr (Nat.le_refl _)) _) (Or.inr (Nat.le_refl _)) _) (Or.inr (Nat.le_refl _)) _) (Or.inr (Nat.le_refl _)) _) (Or.inr (Nat.le_refl _)) _) (Or.inr (Nat.le_refl _)) _) (Or.inr (Nat.le_refl _)) _) _))⟩
  · skip
    go_wp2
    go_region
    go_wp2
    exact bodyPost_ret (v := .tuple #[.agg (cCall ⟨1, 6, x1, ⟨#[]⟩, 0, n, 0, d, []⟩), .bool (true && g2)]) (by simp [results, Tryz.results16, go_sem, *]) rfl ⟨⟨1, 6, x1, ⟨#[]⟩, 0, n, 0, d, []⟩, rfl, HE.out, (Chg.drew (Chg.alloc (Chg.setCell (Chg.setCell (Chg.setCell (Chg.setCell (Chg.setCell (Chg.setCell (Chg.setCell HC3.out (Or.inr (Nat.le_refl _)) _) (Or.inr (Nat.le_refl _)) _) (Or.inr (Nat.le_refl _)) _) (Or.inr (Nat.le_refl _)) _) (Or.inr (Nat.le_refl _)) _) (Or.inr (Nat.le_refl _)) _) (Or.inr (Nat.le_refl _)) _) _))⟩

end Go.Proofs.YteaeikmgkmpkiaaGreatDoor
