/- l14Long of the model: fill. (made by tools/mklong.py) -/
import Derived.Test.YteaeikmgkmpkiaaGreatDoorLineLong
import Derived.Test.YteaeikmgkmpkiaaGreatDoorBytSeen
namespace Go.Proofs.YteaeikmgkmpkiaaGreatDoor
open Go.RowKit Go.Lib

set_option maxRecDepth 20000 in
set_option maxHeartbeats 4000000 in
theorem long_fill (w : World) (F : List ByteArray) (g fc : Nat) (hc : ∀ i, i < F.length → w.cell? ⟨g, i, none⟩ = some (.string (F.getD i noText))) (hs : ∀ x ∈ F, x.size ≤ 1048576) (hk : F.getD 0 noText = ⟨#[102, 105, 108, 108]⟩) (hn : F.length = 5) (h4 : (F.getD 4 noText).size = 1) (h5 : 97 ≤ chr (F.getD 4 noText) 0) (h6 : chr (F.getD 4 noText) 0 ≤ 122) :
    Calls Tryz.prog 16 #[.slice (some ⟨g, 0, none⟩) F.length fc] w (CallPost w ((numF (F.getD 2 noText)).bind fun n => (numF (F.getD 3 noText)).bind fun m => if 0 ≤ m ∧ m ≤ 3000 then some (⟨1, 6, (F.getD 1 noText), ⟨#[]⟩, 0, n, 0, (strOfNums (letL (chr (F.getD 4 noText) 0) m.toNat)), []⟩ : Lst) else none)) := by
  have h40 : 0 < (F.getD 4 noText).size := by omega
  have hcs : (F.getD 4 noText)[0].toNat = chr (F.getD 4 noText) 0 := (chr_lt h40).symm
  have h4i : (0 : Int) < ((F.getD 4 noText).size : Int) := by omega
  have b_rename : ((F.getD 0 noText).toList == [114, 101, 110, 97, 109, 101]) = false := tl_no (by rw [hk]; decide)
  have b_link : ((F.getD 0 noText).toList == [108, 105, 110, 107]) = false := tl_no (by rw [hk]; decide)
  have b_symlink : ((F.getD 0 noText).toList == [115, 121, 109, 108, 105, 110, 107]) = false := tl_no (by rw [hk]; decide)
  have b_append : ((F.getD 0 noText).toList == [97, 112, 112, 101, 110, 100]) = false := tl_no (by rw [hk]; decide)
  have b_write : ((F.getD 0 noText).toList == [119, 114, 105, 116, 101]) = false := tl_no (by rw [hk]; decide)
  have b_fill : ((F.getD 0 noText).toList == [102, 105, 108, 108]) = true := tl_yes hk
  have b_trunc : ((F.getD 0 noText).toList == [116, 114, 117, 110, 99]) = false := tl_no (by rw [hk]; decide)
  have b_read : ((F.getD 0 noText).toList == [114, 101, 97, 100]) = false := tl_no (by rw [hk]; decide)
  have cl0 := hc 0 (by omega)
  have cl1 := hc 1 (by omega)
  have cl2 := hc 2 (by omega)
  have cl3 := hc 3 (by omega)
  have cl4 := hc 4 (by omega)
  have hg := lt_of_cell cl0
  have hmx : Tryz.prog.follows .mixedOrders = true := by kernel_rfl
  have hx1 : (F.getD 1 noText).size ≤ 1048576 := hs _ (by rw [List.getD_eq_getElem?_getD, List.getElem?_eq_getElem (by omega : 1 < F.length)]; exact List.getElem_mem _)
  have hx2 : (F.getD 2 noText).size ≤ 1048576 := hs _ (by rw [List.getD_eq_getElem?_getD, List.getElem?_eq_getElem (by omega : 2 < F.length)]; exact List.getElem_mem _)
  have hx3 : (F.getD 3 noText).size ≤ 1048576 := hs _ (by rw [List.getD_eq_getElem?_getD, List.getElem?_eq_getElem (by omega : 3 < F.length)]; exact List.getElem_mem _)
  have hx4 : (F.getD 4 noText).size ≤ 1048576 := hs _ (by rw [List.getD_eq_getElem?_getD, List.getElem?_eq_getElem (by omega : 4 < F.length)]; exact List.getElem_mem _)
  clear hc hs hk
  generalize F.getD 0 noText = x0 at *
  generalize F.getD 1 noText = x1 at *
  generalize F.getD 2 noText = x2 at *
  generalize F.getD 3 noText = x3 at *
  generalize F.getD 4 noText = x4 at *
  rw [hn]
  clear hn
  generalize chr x4 0 = c at *
  have HC1 : Hid (Chg 0 0 w (w.alloc (.cells #[.int .i64 0, .string ⟨#[]⟩, .string ⟨#[]⟩, .int .i64 0, .int .i64 0, .int .i64 0, .string ⟨#[]⟩] 24))) := Chg.alloc (Chg.refl 0 0 w) _
  have HB1 : Hid ((w.alloc (.cells #[.int .i64 0, .string ⟨#[]⟩, .string ⟨#[]⟩, .int .i64 0, .int .i64 0, .int .i64 0, .string ⟨#[]⟩] 24)).heap[w.heap.size]? = some (.cells #[.int .i64 0, .string ⟨#[]⟩, .string ⟨#[]⟩, .int .i64 0, .int .i64 0, .int .i64 0, .string ⟨#[]⟩] 24 (0, 0))) := heap_new w _
  have hz : w.heap.size < (w.alloc (.cells #[.int .i64 0, .string ⟨#[]⟩, .string ⟨#[]⟩, .int .i64 0, .int .i64 0, .int .i64 0, .string ⟨#[]⟩] 24)).heap.size := by simp
  have hN := fun W => l14Number_calls W x2 hx2
  have hM := fun W => l14Number_calls W x3 hx3
  obtain ⟨RR, HRR⟩ : ∃ RR, Hid (RR = (numF x2).bind fun n => (numF x3).bind fun m => if 0 ≤ m ∧ m ≤ 3000 then some (⟨1, 6, x1, ⟨#[]⟩, 0, n, 0, (strOfNums (letL c m.toNat)), []⟩ : Lst) else none) := ⟨_, rfl⟩
  rw [← HRR.out]
  go_enter Tryz.func16, Tryz.ntmps16
  go_wp2_with fail
  generalize w.alloc (.cells #[.int .i64 0, .string ⟨#[]⟩, .string ⟨#[]⟩, .int .i64 0, .int .i64 0, .int .i64 0, .string ⟨#[]⟩] 24) = w1 at *
  refine (hN w1).mono ?_
  rintro e w2 ⟨rfl, cc1⟩
  have HC2 : Hid (Chg 0 0 w w2) := HC1.out.trans cc1
  have HB2 : Hid (w2.heap[w.heap.size]? = some (.cells #[.int .i64 0, .string ⟨#[]⟩, .string ⟨#[]⟩, .int .i64 0, .int .i64 0, .int .i64 0, .string ⟨#[]⟩] 24 (0, 0))) := (cc1.block _ (by have := HC1.out.size; omega) (by omega)).trans HB1.out
  have hz2 : w.heap.size < w2.heap.size := by have := cc1.size; omega
  have hg2 : g < w2.heap.size := by omega
  clear cc1 HB1
  have m0 := HC2.out.cell cl0 (by omega)
  have m1 := HC2.out.cell cl1 (by omega)
  have m2 := HC2.out.cell cl2 (by omega)
  have m3 := HC2.out.cell cl3 (by omega)
  have m4 := HC2.out.cell cl4 (by omega)
  go_wp2_with fail
  clear m0 m1 m2 m3 m4
  refine (hM w2).mono ?_
  rintro e w3 ⟨rfl, cc2⟩
  have HC3 : Hid (Chg 0 0 w w3) := HC2.out.trans cc2
  have HB3 : Hid (w3.heap[w.heap.size]? = some (.cells #[.int .i64 0, .string ⟨#[]⟩, .string ⟨#[]⟩, .int .i64 0, .int .i64 0, .int .i64 0, .string ⟨#[]⟩] 24 (0, 0))) := (cc2.block _ (by have := HC2.out.size; omega) (by omega)).trans HB2.out
  have hz3 : w.heap.size < w3.heap.size := by have := cc2.size; omega
  have hg3 : g < w3.heap.size := by omega
  clear cc2 HB2
  have m0 := HC3.out.cell cl0 (by omega)
  have m1 := HC3.out.cell cl1 (by omega)
  have m2 := HC3.out.cell cl2 (by omega)
  have m3 := HC3.out.cell cl3 (by omega)
  have m4 := HC3.out.cell cl4 (by omega)
  obtain ⟨⟨y0, y1, y2, y3, y4, y5, y6⟩, f0, f1, f2, f3, f4, f5, f6⟩ := seven_all HB3.out
  clear hN hM
  cases hn : numF x2 with
  | none =>
    have HN : Hid (RR = none) := by show _ = _; rw [HRR.out, hn]; rfl
    rw [Option.isSome_none, Option.getD_none]
    clear hn HRR
    go_wp2
    exact bodyPost_ret (v := .tuple #[.agg (cCall ⟨0, 0, ⟨#[]⟩, ⟨#[]⟩, 0, 0, 0, ⟨#[]⟩, []⟩), .bool false]) (by simp [results, Tryz.results16, go_sem, *]) rfl ⟨⟨0, 0, ⟨#[]⟩, ⟨#[]⟩, 0, 0, 0, ⟨#[]⟩, []⟩, by rw [HN.out]; rfl, fun s' e => by (rw [HN.out] at e; cases e), (Chg.setCell (Chg.setCell (Chg.setCell (Chg.setCell (Chg.setCell (Chg.setCell (Chg.setCell HC3.out (Or.inr (Nat.le_refl _)) _) (Or.inr (Nat.le_refl _)) _) (Or.inr (Nat.le_refl _)) _) (Or.inr (Nat.le_refl _)) _) (Or.inr (Nat.le_refl _)) _) (Or.inr (Nat.le_refl _)) _) (Or.inr (Nat.le_refl _)) _)⟩
  | some n =>
    cases hm : numF x3 with
    | none =>
      have HN : Hid (RR = none) := by show _ = _; rw [HRR.out, hn, hm]; rfl
      rw [Option.isSome_some, Option.getD_some, Option.isSome_none, Option.getD_none]
      clear hn hm HRR
      go_wp2
      exact bodyPost_ret (v := .tuple #[.agg (cCall ⟨0, 0, ⟨#[]⟩, ⟨#[]⟩, 0, 0, 0, ⟨#[]⟩, []⟩), .bool false]) (by simp [results, Tryz.results16, go_sem, *]) rfl ⟨⟨0, 0, ⟨#[]⟩, ⟨#[]⟩, 0, 0, 0, ⟨#[]⟩, []⟩, by rw [HN.out]; rfl, fun s' e => by (rw [HN.out] at e; cases e), (Chg.setCell (Chg.setCell (Chg.setCell (Chg.setCell (Chg.setCell (Chg.setCell (Chg.setCell HC3.out (Or.inr (Nat.le_refl _)) _) (Or.inr (Nat.le_refl _)) _) (Or.inr (Nat.le_refl _)) _) (Or.inr (Nat.le_refl _)) _) (Or.inr (Nat.le_refl _)) _) (Or.inr (Nat.le_refl _)) _) (Or.inr (Nat.le_refl _)) _)⟩
    | some m =>
      rw [Option.isSome_some, Option.getD_some, Option.isSome_some, Option.getD_some]
      by_cases hr : 0 ≤ m ∧ m ≤ 3000
      case neg =>
        have HN : Hid (RR = none) := by show _ = _; rw [HRR.out, hn, hm]; exact if_neg hr
        clear hn hm HRR
        by_cases hr0 : m < 0
        · skip
          go_wp2
          exact bodyPost_ret (v := .tuple #[.agg (cCall ⟨0, 0, ⟨#[]⟩, ⟨#[]⟩, 0, 0, 0, ⟨#[]⟩, []⟩), .bool false]) (by simp [results, Tryz.results16, go_sem, *]) rfl ⟨⟨0, 0, ⟨#[]⟩, ⟨#[]⟩, 0, 0, 0, ⟨#[]⟩, []⟩, by rw [HN.out]; rfl, fun s' e => by (rw [HN.out] at e; cases e), (Chg.setCell (Chg.setCell (Chg.setCell (Chg.setCell (Chg.setCell (Chg.setCell (Chg.setCell HC3.out (Or.inr (Nat.le_refl _)) _) (Or.inr (Nat.le_refl _)) _) (Or.inr (Nat.le_refl _)) _) (Or.inr (Nat.le_refl _)) _) (Or.inr (Nat.le_refl _)) _) (Or.inr (Nat.le_refl _)) _) (Or.inr (Nat.le_refl _)) _)⟩
        · have hr1 : 3000 < m := by omega
          go_wp2
          exact bodyPost_ret (v := .tuple #[.agg (cCall ⟨0, 0, ⟨#[]⟩, ⟨#[]⟩, 0, 0, 0, ⟨#[]⟩, []⟩), .bool false]) (by simp [results, Tryz.results16, go_sem, *]) rfl ⟨⟨0, 0, ⟨#[]⟩, ⟨#[]⟩, 0, 0, 0, ⟨#[]⟩, []⟩, by rw [HN.out]; rfl, fun s' e => by (rw [HN.out] at e; cases e), (Chg.setCell (Chg.setCell (Chg.setCell (Chg.setCell (Chg.setCell (Chg.setCell (Chg.setCell HC3.out (Or.inr (Nat.le_refl _)) _) (Or.inr (Nat.le_refl _)) _) (Or.inr (Nat.le_refl _)) _) (Or.inr (Nat.le_refl _)) _) (Or.inr (Nat.le_refl _)) _) (Or.inr (Nat.le_refl _)) _) (Or.inr (Nat.le_refl _)) _)⟩
      have HN : Hid (RR = some ⟨1, 6, x1, ⟨#[]⟩, 0, n, 0, (strOfNums (letL c m.toNat)), []⟩) := by show _ = _; rw [HRR.out, hn, hm]; exact if_pos hr
      obtain ⟨hr0, hr1⟩ := hr
      clear hn hm HRR
      obtain ⟨k, rfl⟩ : ∃ k : Nat, m = (k : Int) := ⟨m.toNat, by omega⟩
      rw [Int.toNat_natCast] at HN
      have hk : k ≤ 3000 := by omega
      have hL := fun W => l14Letters_calls W k c hk h5 h6
      clear y0 y1 y2 y3 y4 y5 y6 f0 f1 f2 f3 f4 f5 f6
      go_wp2
      refine held_region (fun W => Chg w.heap.size (w.heap.size + 1) w3 W) hmx ?_
      have HR0 : Hid (Chg w.heap.size (w.heap.size + 1) w3 w3.drew) := Chg.drew (Chg.refl _ _ w3)
      have HD0 : Hid (Chg 0 0 w3 w3.drew) := Chg.drew (Chg.refl _ _ w3)
      generalize w3.drew = wd at *
      refine held_take 0 (.slice (some ⟨g, 0, none⟩) 5 fc) rfl (by kernel_rfl) (by kernel_rfl) (by kernel_rfl) (fun _ _ _ h => h) (.inl ⟨by kernel_rfl, fun w' (hw' : Chg w.heap.size (w.heap.size + 1) w3 w') => by go_simp⟩) HR0.out ?_
      go_simp
      refine held_take 1 (.pointer (some ⟨g, 1, none⟩)) rfl (by kernel_rfl) (by kernel_rfl) (by kernel_rfl) (fun _ _ _ h => h) (.inl ⟨by kernel_rfl, fun w' (hw' : Chg w.heap.size (w.heap.size + 1) w3 w') => by go_simp⟩) HR0.out ?_
      go_simp
      refine held_take 2 (.string x1) rfl (by kernel_rfl) (by kernel_rfl) (by kernel_rfl) (fun _ _ _ h => h) (.inl ⟨by kernel_rfl, fun w' (hw' : Chg w.heap.size (w.heap.size + 1) w3 w') => by have k1 := hw'.cell m1 (Or.inl hg); go_simp⟩) HR0.out ?_
      go_simp
      refine held_take 3 (.int .i64 n) rfl (by kernel_rfl) (by kernel_rfl) (by kernel_rfl) (fun _ _ _ h => h) (.inl ⟨by kernel_rfl, fun w' (hw' : Chg w.heap.size (w.heap.size + 1) w3 w') => by go_simp⟩) HR0.out ?_
      go_simp
      refine held_take 4 (.int .i64 k) rfl (by kernel_rfl) (by kernel_rfl) (by kernel_rfl) (fun _ _ _ h => h) (.inl ⟨by kernel_rfl, fun w' (hw' : Chg w.heap.size (w.heap.size + 1) w3 w') => by go_simp⟩) HR0.out ?_
      go_simp
      refine held_take 5 (.slice (some ⟨g, 0, none⟩) 5 fc) rfl (by kernel_rfl) (by kernel_rfl) (by kernel_rfl) (fun _ _ _ h => h) (.inl ⟨by kernel_rfl, fun w' (hw' : Chg w.heap.size (w.heap.size + 1) w3 w') => by go_simp⟩) HR0.out ?_
      go_simp
      refine held_take 6 (.pointer (some ⟨g, 4, none⟩)) rfl (by kernel_rfl) (by kernel_rfl) (by kernel_rfl) (fun _ _ _ h => h) (.inl ⟨by kernel_rfl, fun w' (hw' : Chg w.heap.size (w.heap.size + 1) w3 w') => by go_simp⟩) HR0.out ?_
      go_simp
      refine held_take 7 (.string x4) rfl (by kernel_rfl) (by kernel_rfl) (by kernel_rfl) (fun _ _ _ h => h) (.inl ⟨by kernel_rfl, fun w' (hw' : Chg w.heap.size (w.heap.size + 1) w3 w') => by have k4 := hw'.cell m4 (Or.inl hg); go_simp⟩) HR0.out ?_
      go_simp
      refine held_take 8 (.int .u8 c) rfl (by kernel_rfl) (by kernel_rfl) (by kernel_rfl) (fun _ _ _ h => h) (.inl ⟨by kernel_rfl, fun w' (hw' : Chg w.heap.size (w.heap.size + 1) w3 w') => by go_simp⟩) HR0.out ?_
      go_simp
      refine held_one 9 rfl rfl (by kernel_rfl) ?_
      refine wp_enter 26 #[.int .i64 k, .int .u8 c] (by first | kernel_rfl | go_simp) (hL wd) ?_
      rintro e wz ⟨rfl, cz⟩
      have HZ : Hid (Chg 0 0 w3 wz) := HD0.out.trans cz
      have HRz : Hid (Chg w.heap.size (w.heap.size + 1) w3 wz) := HR0.out.step cz (Or.inr (Or.inr (Nat.le_refl 0)))
      have hbz := (HZ.out.block _ hz3 (by omega)).trans HB3.out
      refine ⟨_, rfl, HRz.out, ?_⟩
      go_simp
      obtain ⟨lt, HLT⟩ : ∃ lt, Hid (lt = strOfNums (letL c k)) := ⟨_, rfl⟩
      rw [← HLT.out] at HN ⊢
      refine held_take 10 (.agg #[.int .i64 6, .string x1, .string ⟨#[]⟩, .int .i64 0, .int .i64 n, .int .i64 0, .string lt]) rfl (by kernel_rfl) (by kernel_rfl) (by kernel_rfl) (fun _ _ _ h => h) (.inl ⟨by kernel_rfl, fun w' (hw' : Chg w.heap.size (w.heap.size + 1) w3 w') => by go_simp⟩) HRz.out ?_
      go_simp
      refine held_one 11 rfl rfl (by kernel_rfl) ?_
      refine wp_store_row 24 (.tmp 2) (.tmp 194) rfl rfl w.heap.size rfl [.int .i64 6, .string x1, .string ⟨#[]⟩, .int .i64 0, .int .i64 n, .int .i64 0, .string lt] [.int .i64 0, .string ⟨#[]⟩, .string ⟨#[]⟩, .int .i64 0, .int .i64 0, .int .i64 0, .string ⟨#[]⟩] 24 rfl hbz rfl (by kernel_rfl) (by simp [Value.oneCell']) ?_
      intro wy hy cy
      have HRy : Hid (Chg w.heap.size (w.heap.size + 1) w3 wy) := HRz.out.step cy (Or.inl ⟨Nat.le_refl _, Nat.le_refl _⟩)
      have HCy : Hid (Chg 0 0 w wy) := HC3.out.step HRy.out (Or.inr (Or.inl (Nat.le_refl _)))
      have HBy : Hid (wy.heap[w.heap.size]? = some (.cells #[.int .i64 6, .string x1, .string ⟨#[]⟩, .int .i64 0, .int .i64 n, .int .i64 0, .string lt] 24 (0, 0))) := hy
      clear hy cy hbz cz
      refine ⟨HRy.out, ?_⟩
      refine held_take 12 (.bool true) rfl (by kernel_rfl) (by kernel_rfl) (by kernel_rfl) (fun _ _ _ h => h) (.inl ⟨by kernel_rfl, fun w' (hw' : Chg w.heap.size (w.heap.size + 1) w3 w') => by go_simp⟩) HRy.out ?_
      go_simp
      refine held_done (by kernel_rfl) (NoPanic.normal ?_)
      obtain ⟨⟨y0, y1, y2, y3, y4, y5, y6⟩, f0, f1, f2, f3, f4, f5, f6⟩ := seven_all HBy.out
      go_wp2
      exact bodyPost_ret (v := .tuple #[.agg (cCall ⟨1, 6, x1, ⟨#[]⟩, 0, n, 0, lt, []⟩), .bool true]) (by simp [results, Tryz.results16, go_sem, *]) rfl ⟨⟨1, 6, x1, ⟨#[]⟩, 0, n, 0, lt, []⟩, by rw [HN.out]; rfl, fun s' e => by (rw [HN.out] at e; injection e with e; exact e.symm), HCy.out⟩

end Go.Proofs.YteaeikmgkmpkiaaGreatDoor
