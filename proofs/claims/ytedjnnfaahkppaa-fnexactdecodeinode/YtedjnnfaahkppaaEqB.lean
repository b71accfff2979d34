/- Several short texts in one: ImplIno3, EqB. -/
import Derived.Test.YtedjnnfaahkppaaInoRead
import Derived.Test.YtedjnnfaahkppaaOwnAt
import Derived.Test.YtedjnnfaahkppaaRows
import Derived.Test.YtedjnnfaahkppaaMem
import Derived.Deep.RegionWith
namespace Go.Proofs.Ytedjnnfaahkppaa
open Go.RowKit

set_option maxRecDepth 20000 in
set_option maxHeartbeats 2000000 in
theorem told_calls (w : World) (i : Ino) (hd : i.dir.length = 8) :
    Calls Try.prog 16 #[.agg (nC i).toArray] w fun e w' => e = .returned (.agg #[.int .i64 i.kind, .int .i64 i.links, .int .i64 i.size, .slice (some ⟨w.heap.size, 3, none⟩) 8 8, .int .i64 i.ind]) ∧ ArrC w' w.heap.size 39 (nC i) ∧ Chg 0 0 w w' := by
  obtain ⟨z0, z1, z2⟩ := alloc2 w (.cells (nC i).toArray 39) (.cells #[.int .i64 0, .int .i64 0, .int .i64 0, .slice none 0 0, .int .i64 0] 25)
  have HC0 : Hid (Chg 0 0 w ((w.alloc (.cells (nC i).toArray 39)).alloc (.cells #[.int .i64 0, .int .i64 0, .int .i64 0, .slice none 0 0, .int .i64 0] 25))) := (Chg.alloc (Chg.refl 0 0 w) _).alloc _
  have hA : ArrC ((w.alloc (.cells (nC i).toArray 39)).alloc (.cells #[.int .i64 0, .int .i64 0, .int .i64 0, .slice none 0 0, .int .i64 0] 25)) w.heap.size 39 (nC i) := z1
  have n0 := nC_0 i
  have n1 := nC_1 i
  have n2 := nC_2 i
  have n11 := nC_i hd
  go_enter Try.func16, Try.ntmps16
  go_upto_region 1 with fail
  generalize ((w.alloc (.cells (nC i).toArray 39)).alloc (.cells #[.int .i64 0, .int .i64 0, .int .i64 0, .slice none 0 0, .int .i64 0] 25)) = wv at *
  have HS : Hid ((fun w' : World => ArrC w' w.heap.size 39 (nC i)) wv.drew) := hA
  have HZ : Hid (wv.drew.heap[w.heap.size + 1]? = some (.cells #[.int .i64 0, .int .i64 0, .int .i64 0, .slice none 0 0, .int .i64 0] 25 (0, 0))) := z2
  have HC : Hid (Chg 0 0 w wv.drew) := HC0.out.drew
  clear hA z1 z2 HC0
  refine held_region (fun w' : World => ArrC w' w.heap.size 39 (nC i)) (by kernel_rfl) ?_
  generalize wv.drew = x1 at *
  refine held_take 0 (.pointer (some ⟨w.heap.size, 0, none⟩)) rfl (by kernel_rfl) (by kernel_rfl) (by kernel_rfl) (fun _ _ _ h => h) (.inl ⟨by kernel_rfl, fun w' hw' => by go_simp⟩) HS.out ?_
  go_simp
  refine held_take 1 (.int .i64 i.kind) rfl (by kernel_rfl) (by kernel_rfl) (by kernel_rfl) (fun _ _ _ h => h) (.inl ⟨by kernel_rfl, fun w' hw' => by have h1 := ArrC.cell hw' 0 n0; go_simp⟩) HS.out ?_
  go_simp
  refine held_take 2 (.pointer (some ⟨w.heap.size, 1, none⟩)) rfl (by kernel_rfl) (by kernel_rfl) (by kernel_rfl) (fun _ _ _ h => h) (.inl ⟨by kernel_rfl, fun w' hw' => by go_simp⟩) HS.out ?_
  go_simp
  refine held_take 3 (.int .i64 i.links) rfl (by kernel_rfl) (by kernel_rfl) (by kernel_rfl) (fun _ _ _ h => h) (.inl ⟨by kernel_rfl, fun w' hw' => by have h1 := ArrC.cell hw' 1 n1; go_simp⟩) HS.out ?_
  go_simp
  refine held_take 4 (.pointer (some ⟨w.heap.size, 2, none⟩)) rfl (by kernel_rfl) (by kernel_rfl) (by kernel_rfl) (fun _ _ _ h => h) (.inl ⟨by kernel_rfl, fun w' hw' => by go_simp⟩) HS.out ?_
  go_simp
  refine held_take 5 (.int .i64 i.size) rfl (by kernel_rfl) (by kernel_rfl) (by kernel_rfl) (fun _ _ _ h => h) (.inl ⟨by kernel_rfl, fun w' hw' => by have h1 := ArrC.cell hw' 2 n2; go_simp⟩) HS.out ?_
  go_simp
  refine held_take 6 (.pointer (some ⟨w.heap.size, 3, none⟩)) rfl (by kernel_rfl) (by kernel_rfl) (by kernel_rfl) (fun _ _ _ h => h) (.inl ⟨by kernel_rfl, fun w' hw' => by go_simp⟩) HS.out ?_
  go_simp
  refine held_take 7 (.slice (some ⟨w.heap.size, 3, none⟩) 8 8) rfl (by kernel_rfl) (by kernel_rfl) (by kernel_rfl) (fun _ _ _ h => h) (.inl ⟨by kernel_rfl, fun w' hw' => by go_simp⟩) HS.out ?_
  go_simp
  refine held_take 8 (.pointer (some ⟨w.heap.size, 11, none⟩)) rfl (by kernel_rfl) (by kernel_rfl) (by kernel_rfl) (fun _ _ _ h => h) (.inl ⟨by kernel_rfl, fun w' hw' => by go_simp⟩) HS.out ?_
  go_simp
  refine held_take 9 (.int .i64 i.ind) rfl (by kernel_rfl) (by kernel_rfl) (by kernel_rfl) (fun _ _ _ h => h) (.inl ⟨by kernel_rfl, fun w' hw' => by have h1 := ArrC.cell hw' 11 n11; go_simp⟩) HS.out ?_
  go_simp
  refine held_take 10 (.agg #[.int .i64 i.kind, .int .i64 i.links, .int .i64 i.size, .slice (some ⟨w.heap.size, 3, none⟩) 8 8, .int .i64 i.ind]) rfl (by kernel_rfl) (by kernel_rfl) (by kernel_rfl) (fun _ _ _ h => h) (.inl ⟨by kernel_rfl, fun w' hw' => by go_simp⟩) HS.out ?_
  go_simp
  refine held_one 11 rfl rfl (by kernel_rfl) ?_
  refine wp_store_row 25 (.tmp 2) (.tmp 13) rfl rfl (w.heap.size + 1) rfl [.int .i64 i.kind, .int .i64 i.links, .int .i64 i.size, .slice (some ⟨w.heap.size, 3, none⟩) 8 8, .int .i64 i.ind] [.int .i64 0, .int .i64 0, .int .i64 0, .slice none 0 0, .int .i64 0] 25 rfl HZ.out rfl (by kernel_rfl) (by simp [Value.oneCell']) ?_
  intro wy hy cy
  have HSy : Hid ((fun w' : World => ArrC w' w.heap.size 39 (nC i)) wy) := ArrC.chg HS.out cy (by omega)
  have HCy : Hid (Chg 0 0 w wy) := HC.out.step cy (by omega)
  obtain ⟨⟨y0, y1, y2, y3, y4⟩, _⟩ := ino_all hy
  refine ⟨HSy.out, held_done (by kernel_rfl) (NoPanic.normal ?_)⟩
  clear cy hy
  go_wp2
  exact bodyPost_ret (v := .agg #[.int .i64 i.kind, .int .i64 i.links, .int .i64 i.size, .slice (some ⟨w.heap.size, 3, none⟩) 8 8, .int .i64 i.ind]) (by simp [results, Try.results16, go_sem, *]) rfl ⟨rfl, HSy.out, HCy.out⟩

set_option maxRecDepth 20000 in
set_option maxHeartbeats 2000000 in
theorem decInode_some (w : World) (xs : List Int) (b off cap : Nat) (hB : Byt xs) (hl : xs.length = 32)
    (h1 : ∀ i, i < xs.length → w.cell? ⟨b, off + i, none⟩ = some (.int .u8 (xs.getD i 0))) :
    Calls Try.prog 6 #[.slice (some ⟨b, off, none⟩) xs.length cap] w fun e w' => ∃ v, e = .returned (irV (inoG xs) (decI xs) v) ∧ OwnW w' w.heap.size v (decI xs).dir ∧ Chg 0 0 w w' := by
  have u43 := Try.underlying43
  have u39 := Try.underlying39
  obtain ⟨cs, hcs⟩ : ∃ cs, cs = xs.map (Value.int .u8) := ⟨_, rfl⟩
  have hcl : cs.length = 32 := by rw [hcs, List.length_map]; exact hl
  have HA : Hid (Chg 0 0 w (w.alloc (.cells #[.bool false, .int .i64 0, .int .i64 0, .int .i64 0, .slice none 0 0, .int .i64 0] 27))) := Chg.alloc (Chg.refl 0 0 w) _
  have hR : (w.alloc (.cells #[.bool false, .int .i64 0, .int .i64 0, .int .i64 0, .slice none 0 0, .int .i64 0] 27)).rangeAt b off cs := by
    intro j v hj
    have hjl : j < xs.length := by have := (List.getElem?_eq_some_iff.1 hj).1; rw [hcl] at this; omega
    rw [HA.out.cell (h1 j hjl) (by omega), ← hj, hcs]
    simp [List.getD_eq_getElem?_getD, hjl]
  have hics : (Try.prog.info? 43).map (·.size) = some cs.length := by rw [hcl]; exact Try.sizeRec
  have hN := readInode_calls (w.alloc (.cells #[.bool false, .int .i64 0, .int .i64 0, .int .i64 0, .slice none 0 0, .int .i64 0] 27)) xs hl hB
  rw [← hcs] at hN
  have HR : Hid ((w.alloc (.cells #[.bool false, .int .i64 0, .int .i64 0, .int .i64 0, .slice none 0 0, .int .i64 0] 27)).rangeAt b off cs) := hR
  have HB0 : Hid ((w.alloc (.cells #[.bool false, .int .i64 0, .int .i64 0, .int .i64 0, .slice none 0 0, .int .i64 0] 27)).heap[w.heap.size]? = some (.cells #[.bool false, .int .i64 0, .int .i64 0, .int .i64 0, .slice none 0 0, .int .i64 0] 27 (0, 0))) := heap_new w _
  have har : ∀ x : World, (Instr.arrayAt 43 (.slice (some ⟨b, off, none⟩) 32 cap)).run Try.prog x = .ok (.pointer (some ⟨b, off, none⟩)) x := fun x => by simp [Instr.arrayAt, run_underlying u43]
  have HD : Hid (decI xs = if inoG xs = true then inoOf xs else ⟨0, 0, 0, [], 0⟩) := rfl
  have hd8 : (inoOf xs).dir.length = 8 := dirOf_len xs 8
  rw [hl]
  clear hcs hcl hR h1 hl hB
  cases hg : inoG xs with
  | true =>
    rw [hg, if_pos rfl] at hN
    have HDi : Hid (decI xs = inoOf xs) := by show _ = _; rw [HD.out, if_pos hg]
    have HVal : Hid (∀ v, irV true (decI xs) v = .agg #[.bool true, .int .i64 (inoOf xs).kind, .int .i64 (inoOf xs).links, .int .i64 (inoOf xs).size, v, .int .i64 (inoOf xs).ind]) := fun v => by rw [HDi.out]; rfl
    clear hg HD
    generalize inoOf xs = i at *
    have hinc : (Try.prog.info? 39).map (·.size) = some (nC i).length := by rw [nC_len hd8]; exact Try.sizeIno
    go_enter Try.func6, Try.ntmps6
    go_wp2_with (first
      | (refine wpList_load_mid rfl 43 (.tmp 11) rfl b off rfl cs _ HR.out u43 rfl hics ?_)
      | (go_at_call 15; refine hN.mono ?_; clear hN; rintro e w2 ⟨rfl, hc2⟩; have hn2 : (w2.alloc (.cells #[.int .i64 0, .int .i64 0, .int .i64 0, .int .i64 0, .int .i64 0, .int .i64 0, .int .i64 0, .int .i64 0, .int .i64 0, .int .i64 0, .int .i64 0, .int .i64 0] 39)).heap[w2.heap.size]? = some (.cells Z12.toArray 39 (0, 0)) := (by rw [← Z12_eq]; exact heap_new w2 _); have C2 : Chg 0 0 w2 (w2.alloc (.cells #[.int .i64 0, .int .i64 0, .int .i64 0, .int .i64 0, .int .i64 0, .int .i64 0, .int .i64 0, .int .i64 0, .int .i64 0, .int .i64 0, .int .i64 0, .int .i64 0] 39)) := Chg.alloc (Chg.refl 0 0 w2) _; have hb2 := (hc2.block _ (Array.getElem?_eq_some_iff.1 HB0.out).1 (by omega)).trans HB0.out)
      | (refine wpList_store_row rfl 39 (.tmp 3) (.tmp 14) rfl rfl w2.heap.size rfl (nC i) Z12 39 rfl hn2 (by rw [nC_len hd8, Z12_length]) hinc (nC_one i) ?_; intro w3 hb3 c3; have hlw := (Array.getElem?_eq_some_iff.1 hb2).1; have hb2a := (C2.block _ hlw (by omega)).trans hb2; have hb3a := (c3.block _ (Nat.lt_of_lt_of_le hlw C2.size) (by omega)).trans hb2a; have HC3 : Hid (Chg 0 0 w w3) := ((HA.out.trans hc2).trans C2).step c3 (by have := HA.out.size; have := hc2.size; omega); have hT := told_calls w3 i hd8)
      | (refine wpList_load_mid rfl 39 (.tmp 3) rfl w2.heap.size 0 rfl (nC i) _ (ArrC.range hb3) u39 rfl hinc ?_)
      | (go_at_call 16; refine hT.mono ?_; clear hT; rintro e w4 ⟨rfl, hA4, c4⟩; have hb4 := (c4.block _ (Array.getElem?_eq_some_iff.1 hb3a).1 (by omega)).trans hb3a; obtain ⟨⟨k0, k1, k2, k3, k4, k5⟩, f0, f1, f2, f3, f4, f5⟩ := six_all hb4))
    have C5 : Chg w.heap.size (w.heap.size + 1) w4 ((((((w4.setCell ⟨w.heap.size, 0, none⟩ (.bool true)).setCell ⟨w.heap.size, 1, none⟩ (.int .i64 i.kind)).setCell ⟨w.heap.size, 2, none⟩ (.int .i64 i.links)).setCell ⟨w.heap.size, 3, none⟩ (.int .i64 i.size)).setCell ⟨w.heap.size, 4, none⟩ (.slice (some ⟨w3.heap.size, 3, none⟩) 8 8)).setCell ⟨w.heap.size, 5, none⟩ (.int .i64 i.ind)) := Chg.setCell (Chg.setCell (Chg.setCell (Chg.setCell (Chg.setCell (Chg.setCell (Chg.refl _ _ _) (p := ⟨w.heap.size, 0, none⟩) (Or.inl ⟨Nat.le_refl _, Nat.lt_succ_self _⟩) _) (p := ⟨w.heap.size, 1, none⟩) (Or.inl ⟨Nat.le_refl _, Nat.lt_succ_self _⟩) _) (p := ⟨w.heap.size, 2, none⟩) (Or.inl ⟨Nat.le_refl _, Nat.lt_succ_self _⟩) _) (p := ⟨w.heap.size, 3, none⟩) (Or.inl ⟨Nat.le_refl _, Nat.lt_succ_self _⟩) _) (p := ⟨w.heap.size, 4, none⟩) (Or.inl ⟨Nat.le_refl _, Nat.lt_succ_self _⟩) _) (p := ⟨w.heap.size, 5, none⟩) (Or.inl ⟨Nat.le_refl _, Nat.lt_succ_self _⟩) _
    have HC5 : Hid (Chg 0 0 w ((((((w4.setCell ⟨w.heap.size, 0, none⟩ (.bool true)).setCell ⟨w.heap.size, 1, none⟩ (.int .i64 i.kind)).setCell ⟨w.heap.size, 2, none⟩ (.int .i64 i.links)).setCell ⟨w.heap.size, 3, none⟩ (.int .i64 i.size)).setCell ⟨w.heap.size, 4, none⟩ (.slice (some ⟨w3.heap.size, 3, none⟩) 8 8)).setCell ⟨w.heap.size, 5, none⟩ (.int .i64 i.ind))) := (HC3.out.trans c4).step C5 (by omega)
    have HO : Hid (OwnW ((((((w4.setCell ⟨w.heap.size, 0, none⟩ (.bool true)).setCell ⟨w.heap.size, 1, none⟩ (.int .i64 i.kind)).setCell ⟨w.heap.size, 2, none⟩ (.int .i64 i.links)).setCell ⟨w.heap.size, 3, none⟩ (.int .i64 i.size)).setCell ⟨w.heap.size, 4, none⟩ (.slice (some ⟨w3.heap.size, 3, none⟩) 8 8)).setCell ⟨w.heap.size, 5, none⟩ (.int .i64 i.ind)) w.heap.size (.slice (some ⟨w3.heap.size, 3, none⟩) 8 8) i.dir) := by
      have hw3 := HC3.out.size
      have hl3 := (Array.getElem?_eq_some_iff.1 hb3a).1
      have hA5 := hA4.chg C5 (by omega)
      refine Or.inr ⟨w3.heap.size, 3, 8, by rw [hd8], by rw [hd8]; exact Nat.le_refl _, by omega, hA5.lt, fun j hj => ⟨?_, hA5.frozen _⟩⟩
      exact hA5.cell (3 + j) (nC_d i hj)
    have HDd : Hid ((decI xs).dir = i.dir) := by show _ = _; rw [HDi.out]
    clear C5 hA4 c4
    exact bodyPost_ret (v := .agg #[.bool true, .int .i64 i.kind, .int .i64 i.links, .int .i64 i.size, .slice (some ⟨w3.heap.size, 3, none⟩) 8 8, .int .i64 i.ind]) (by simp [results, Try.results6, go_sem, *]) rfl ⟨.slice (some ⟨w3.heap.size, 3, none⟩) 8 8, by rw [HVal.out], by rw [HDd.out]; exact HO.out, HC5.out⟩
  | false =>
    rw [hg, if_neg (by simp)] at hN
    have HDi : Hid (decI xs = ⟨0, 0, 0, [], 0⟩) := by show _ = _; rw [HD.out, if_neg (by rw [hg]; simp)]
    have HVal : Hid (∀ v, irV false (decI xs) v = .agg #[.bool false, .int .i64 0, .int .i64 0, .int .i64 0, v, .int .i64 0]) := fun v => by rw [HDi.out]; rfl
    clear hg HD
    go_enter Try.func6, Try.ntmps6
    go_wp2_with (first
      | (refine wpList_load_mid rfl 43 (.tmp 11) rfl b off rfl cs _ HR.out u43 rfl hics ?_)
      | (go_at_call 15; refine hN.mono ?_; clear hN; rintro e w2 ⟨rfl, hc2⟩; have hn2 : (w2.alloc (.cells #[.int .i64 0, .int .i64 0, .int .i64 0, .int .i64 0, .int .i64 0, .int .i64 0, .int .i64 0, .int .i64 0, .int .i64 0, .int .i64 0, .int .i64 0, .int .i64 0] 39)).heap[w2.heap.size]? = some (.cells Z12.toArray 39 (0, 0)) := (by rw [← Z12_eq]; exact heap_new w2 _); have C2 : Chg 0 0 w2 (w2.alloc (.cells #[.int .i64 0, .int .i64 0, .int .i64 0, .int .i64 0, .int .i64 0, .int .i64 0, .int .i64 0, .int .i64 0, .int .i64 0, .int .i64 0, .int .i64 0, .int .i64 0] 39)) := Chg.alloc (Chg.refl 0 0 w2) _; have hb2 := (hc2.block _ (Array.getElem?_eq_some_iff.1 HB0.out).1 (by omega)).trans HB0.out)
      | (refine wpList_store_row rfl 39 (.tmp 3) (.tmp 14) rfl rfl w2.heap.size rfl Z12 Z12 39 rfl hn2 rfl (by rw [Z12_length]; exact Try.sizeIno) (by rw [Z12_ino]; exact nC_one _) ?_; intro w3 hb3 c3; have hlw := (Array.getElem?_eq_some_iff.1 hb2).1; have hb2a := (C2.block _ hlw (by omega)).trans hb2; have hb3a := (c3.block _ (Nat.lt_of_lt_of_le hlw C2.size) (by omega)).trans hb2a; have HC3 : Hid (Chg 0 0 w w3) := ((HA.out.trans hc2).trans C2).step c3 (by have := HA.out.size; have := hc2.size; omega); obtain ⟨⟨k0, k1, k2, k3, k4, k5⟩, f0, f1, f2, f3, f4, f5⟩ := six_all hb3a))
    have C5 : Chg w.heap.size (w.heap.size + 1) w3 ((((((w3.setCell ⟨w.heap.size, 0, none⟩ (.bool false)).setCell ⟨w.heap.size, 1, none⟩ (.int .i64 0)).setCell ⟨w.heap.size, 2, none⟩ (.int .i64 0)).setCell ⟨w.heap.size, 3, none⟩ (.int .i64 0)).setCell ⟨w.heap.size, 4, none⟩ (.slice none 0 0)).setCell ⟨w.heap.size, 5, none⟩ (.int .i64 0)) := Chg.setCell (Chg.setCell (Chg.setCell (Chg.setCell (Chg.setCell (Chg.setCell (Chg.refl _ _ _) (p := ⟨w.heap.size, 0, none⟩) (Or.inl ⟨Nat.le_refl _, Nat.lt_succ_self _⟩) _) (p := ⟨w.heap.size, 1, none⟩) (Or.inl ⟨Nat.le_refl _, Nat.lt_succ_self _⟩) _) (p := ⟨w.heap.size, 2, none⟩) (Or.inl ⟨Nat.le_refl _, Nat.lt_succ_self _⟩) _) (p := ⟨w.heap.size, 3, none⟩) (Or.inl ⟨Nat.le_refl _, Nat.lt_succ_self _⟩) _) (p := ⟨w.heap.size, 4, none⟩) (Or.inl ⟨Nat.le_refl _, Nat.lt_succ_self _⟩) _) (p := ⟨w.heap.size, 5, none⟩) (Or.inl ⟨Nat.le_refl _, Nat.lt_succ_self _⟩) _
    have HC5 : Hid (Chg 0 0 w ((((((w3.setCell ⟨w.heap.size, 0, none⟩ (.bool false)).setCell ⟨w.heap.size, 1, none⟩ (.int .i64 0)).setCell ⟨w.heap.size, 2, none⟩ (.int .i64 0)).setCell ⟨w.heap.size, 3, none⟩ (.int .i64 0)).setCell ⟨w.heap.size, 4, none⟩ (.slice none 0 0)).setCell ⟨w.heap.size, 5, none⟩ (.int .i64 0))) := HC3.out.step C5 (by omega)
    have HDd : Hid ((decI xs).dir = []) := by show _ = _; rw [HDi.out]
    clear C5
    exact bodyPost_ret (v := .agg #[.bool false, .int .i64 0, .int .i64 0, .int .i64 0, .slice none 0 0, .int .i64 0]) (by simp [results, Try.results6, go_sem, *]) rfl ⟨.slice none 0 0, by rw [HVal.out], by rw [HDd.out]; exact OwnW.nil _ _, HC5.out⟩

set_option maxRecDepth 20000 in
set_option maxHeartbeats 400000 in
theorem decInode_other (w : World) (n : Nat) (ao : Option Addr) (cap : Nat) (hn : ¬ n = 32) :
    Calls Try.prog 6 #[.slice ao n cap] w fun e w' => e = .returned (.agg #[.bool false, .int .i64 0, .int .i64 0, .int .i64 0, .slice none 0 0, .int .i64 0]) ∧ Chg 0 0 w w' := by
  have HA : Hid (Chg 0 0 w (w.alloc (.cells #[.bool false, .int .i64 0, .int .i64 0, .int .i64 0, .slice none 0 0, .int .i64 0] 27))) := Chg.alloc (Chg.refl 0 0 w) _
  have hne : ((n : Int) != 32) = true := by rw [bne_iff_ne]; omega
  clear hn
  go_enter Try.func6, Try.ntmps6
  go_wp2
  refine bodyPost_ret (v := .agg #[.bool false, .int .i64 0, .int .i64 0, .int .i64 0, .slice none 0 0, .int .i64 0]) (by simp [results, Try.results6, go_sem]) rfl ⟨rfl, ?_⟩
  first | exact HA.out | (refine Chg.setCell (Chg.setCell (Chg.setCell (Chg.setCell (Chg.setCell (Chg.setCell HA.out ?_ _) ?_ _) ?_ _) ?_ _) ?_ _) ?_ _ <;> exact Or.inr (Nat.le_refl _))

theorem implDecodeInode_calls (w : World) {lo hi : Nat} {a : Value} {xs : List Int} (hv : View w lo hi .u8 a xs) (hB : Byt xs) :
    Calls Try.prog 6 #[a] w fun e w' => ∃ v, e = .returned (irV (inoG xs) (decI xs) v) ∧ OwnW w' w.heap.size v (decI xs).dir ∧ Chg 0 0 w w' := by
  obtain ⟨ao, cap, rfl, _, _, h1⟩ := hv
  by_cases hn : xs.length = 32
  · rcases h1 with rfl | ⟨x, off, rfl, _, _, h1⟩
    · cases hn
    · exact decInode_some w xs x off cap hB hn h1
  · have hg : inoG xs = false := by unfold inoG; rw [decide_eq_false hn, Bool.false_and]
    have hd : decI xs = ⟨0, 0, 0, [], 0⟩ := by unfold decI; rw [if_neg (by rw [hg]; simp)]
    refine (decInode_other w xs.length ao cap hn).mono ?_
    rintro e w' ⟨rfl, hc⟩
    exact ⟨.slice none 0 0, by rw [hg, hd]; rfl, by rw [hd]; exact OwnW.nil _ _, hc⟩

end Go.Proofs.Ytedjnnfaahkppaa

namespace Go.Proofs.Ytedjnnfaahkppaa
open Go.RowKit

set_option maxHeartbeats 400000 in
theorem eqByteS_some (w : World) (xs : List Int) (b off b' off' cap cap' : Nat) (hl : xs.length ≤ 9223372036854775807)
    (h1 : ∀ i, i < xs.length → w.cell? ⟨b, off + i, none⟩ = some (.int .u8 (xs.getD i 0)))
    (h2 : ∀ i, i < xs.length → w.cell? ⟨b', off' + i, none⟩ = some (.int .u8 (xs.getD i 0))) :
    Calls Try.prog 8 #[.slice (some ⟨b, off, none⟩) xs.length cap, .slice (some ⟨b', off', none⟩) xs.length cap'] w fun e w' => e = .returned (.bool true) ∧ Same w w' := by
  have hne : ((xs.length : Int) != (xs.length : Int)) = false := by simp
  go_enter Try.func8, Try.ntmps8
  go_wp2
  go_loopw [5] (fun i wr => Same w wr ∧ ∃ k : Nat, k ≤ xs.length ∧ i = .int .i64 k) (fun i _ => xs.length - (intOf i).toNat)
  case atStart => exact ⟨Same.refl _, 0, Nat.zero_le _, rfl⟩
  case round =>
    obtain ⟨hal, k, hk, rfl⟩ := hrel
    have e1 : ∀ a, wr.cell? a = w.cell? a := fun a => hal.cell a
    by_cases hlt : k < xs.length
    · have c1 : wr.cell? ⟨b, off + k, none⟩ = some (.int .u8 (xs.getD k 0)) := (e1 _).trans (h1 k hlt)
      have c2 : wr.cell? ⟨b', off' + k, none⟩ = some (.int .u8 (xs.getD k 0)) := (e1 _).trans (h2 k hlt)
      clear e1
      have hi : (k : Int) < (xs.length : Int) := by omega
      go_wp2
      go_quiet (fail)
      go_wp2
      go_roundw
      case rel => exact ⟨hal.drewN _, k + 1, by omega, by go_num⟩
      case measure => simp [intOf]; omega
    · clear e1
      go_wp2
      go_ret
      exact ⟨rfl, hal⟩

set_option maxHeartbeats 400000 in
theorem eqByteS_none (w : World) (ao bo : Option Addr) (cap cap' : Nat) :
    Calls Try.prog 8 #[.slice ao 0 cap, .slice bo 0 cap'] w fun e w' => e = .returned (.bool true) ∧ Same w w' := by
  go_enter Try.func8, Try.ntmps8
  go_wp2
  refine wp_loop_rounds 1 ?_; rw [rounds_succ]
  go_wp2
  go_ret
  exact ⟨rfl, Same.refl _⟩

theorem eqByteS_calls (w : World) {lo hi lo' hi' : Nat} {a b : Value} {xs : List Int} (h1 : View w lo hi .u8 a xs) (h2 : View w lo' hi' .u8 b xs) :
    Calls Try.prog 8 #[a, b] w fun e w' => e = .returned (.bool true) ∧ Same w w' := by
  obtain ⟨ao, cap, rfl, hl, _, h1⟩ := h1
  obtain ⟨bo, cap', rfl, _, _, h2⟩ := h2
  rcases h1 with rfl | ⟨x, off, rfl, _, _, h1⟩
  · exact eqByteS_none w ao bo cap cap'
  · rcases h2 with rfl | ⟨y, off', rfl, _, _, h2⟩
    · exact eqByteS_none w _ bo cap cap'
    · exact eqByteS_some w xs x off y off' cap cap' hl h1 h2

end Go.Proofs.Ytedjnnfaahkppaa
