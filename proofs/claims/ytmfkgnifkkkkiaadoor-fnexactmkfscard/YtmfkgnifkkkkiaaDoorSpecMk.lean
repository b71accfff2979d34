/- Mkfs of the model: its walk. (made by tools/mkms.py) -/
import Derived.Test.YtmfkgnifkkkkiaaDoorSpecMk0
namespace Go.Proofs.YtmfkgnifkkkkiaaDoor
open Go.RowKit
attribute [local go_sem] Oper.semAt_some

theorem splice_spliceI {c xs ys : List Int} {o : Nat} (h : o + xs.length + ys.length ≤ c.length) : splice (splice c o xs) (o + xs.length) ys = splice c o (xs ++ ys) := by
  have e0 : (c.take o).length = o := by rw [List.length_take]; omega
  have e1 : (c.take o ++ xs).length = o + xs.length := by rw [List.length_append, e0]
  have A : (c.take o ++ (xs ++ c.drop (o + xs.length))).take (o + xs.length) = c.take o ++ xs := by
    rw [← List.append_assoc, List.take_append_of_le_length (by rw [e1]; exact Nat.le_refl _), List.take_of_length_le (by rw [e1]; exact Nat.le_refl _)]
  have B : (c.take o ++ (xs ++ c.drop (o + xs.length))).drop (o + xs.length + ys.length) = c.drop (o + xs.length + ys.length) := by
    rw [← List.append_assoc, List.drop_append, List.drop_eq_nil_of_le (by rw [e1]; omega), List.nil_append, e1, List.drop_drop]
    congr 1; omega
  unfold splice
  simp only [List.append_assoc] at A B ⊢
  rw [A, B, List.length_append, List.append_assoc, show o + (xs.length + ys.length) = o + xs.length + ys.length by omega]
/-- One more block of a map goes to the disk. -/
theorem blk_more {c ys : List Int} {q k K : Nat} (hy : ys.length = 64 * K) (hk : k < K) (h : q * 64 + 64 * K ≤ c.length) : splice (splice c (q * 64) (ys.take (64 * k))) ((q + k) * 64) (blkOf ys k) = splice c (q * 64) (ys.take (64 * (k + 1))) := by
  have e : q * 64 + (ys.take (64 * k)).length = (q + k) * 64 := by rw [List.length_take]; omega
  rw [← e, splice_spliceI (by rw [List.length_take, blkOf_length hy hk]; omega)]
  congr 1
  unfold blkOf
  rw [show 64 * (k + 1) = 64 * k + 64 by omega, List.take_add]
theorem splice_none (c ys : List Int) (o : Nat) : splice c o (ys.take (64 * 0)) = c := by
  unfold splice; simp
abbrev rootI : Ino := ⟨2, 1, 0, List.replicate 8 0, 0⟩
theorem rootI_enc : encIno rootI ++ List.replicate 32 0 = rootL := by decide
theorem rootI_len : (encIno rootI).length = 32 := by decide

set_option maxRecDepth 20000 in
set_option maxHeartbeats 8000000 in
theorem specMk_good (w : World) (b l n im bm mb tb tn D : Nat) (dn : Int) (hg : GeoIn b l n) (hv : geoB b l n = true) (hpl : placesV b l n = plV im bm mb tb tn D dn)
    (q1 : im = 2 + l) (q2 : bm = im + 1) (q3 : tb = bm + mb) (q4 : tb < D) (q5 : D < b) (q6 : 0 < mb) (q7 : mb ≤ 4) (q8 : b ≤ 512 * mb) :
    Calls Tryd.prog 4 #[geoV b l n] w fun e w' => ∃ v, e = .returned v ∧ OwnD w' w.heap.size w'.heap.size 105 5 v ⟨mkDur b l n im bm mb tb D, []⟩ ∧ Chg 0 0 w w' := by
  obtain ⟨g1, g2, g3, g4, g5, g6⟩ := id hg
  have HG : Hid (GeoIn b l n) := hg
  have HQ : Hid (im = 2 + l ∧ bm = im + 1 ∧ tb = bm + mb ∧ tb < D ∧ D < b ∧ 0 < mb ∧ mb ≤ 4 ∧ b ≤ 512 * mb) := ⟨q1, q2, q3, q4, q5, q6, q7, q8⟩
  have hbn : b ≤ 2048 := by omega
  have hln : l ≤ 512 := by omega
  have hnn : n ≤ 256 := by omega
  have hn1 : 1 ≤ n := by omega
  have hb1 : 1 ≤ b := by omega
  have hmx : Tryd.prog.follows .mixedOrders = true := by kernel_rfl
  have hA : Chg 0 0 w ((w.alloc (.cells #[.int .i64 (b : Int), .int .i64 (l : Int), .int .i64 (n : Int)] 29)).alloc (.cells #[.slice none 0 0, .slice none 0 0] 27)) := (Chg.alloc (Chg.refl 0 0 w) _).alloc _
  obtain ⟨z, b0, b1⟩ := alloc2 w (.cells #[.int .i64 (b : Int), .int .i64 (l : Int), .int .i64 (n : Int)] 29) (.cells #[.slice none 0 0, .slice none 0 0] 27)
  have hN := specValidGeometry_calls ((w.alloc (.cells #[.int .i64 (b : Int), .int .i64 (l : Int), .int .i64 (n : Int)] 29)).alloc (.cells #[.slice none 0 0, .slice none 0 0] 27)) b l n
  have HE : Hid (encSup b l n = fsL b l n) := by show _ = _; unfold encSup; rw [if_pos hv]
  rw [hv] at hN
  have hP := fun W => l7Places_calls W b l n hbn hln hnn
  rw [hpl] at hP
  clear hg hv hpl q1 q2 q3 q4 q5 q6 q7 q8
  go_enter Tryd.func4, Tryd.ntmps4
  go_wp2_with fail
  generalize (w.alloc (.cells #[.int .i64 (b : Int), .int .i64 (l : Int), .int .i64 (n : Int)] 29)).alloc (.cells #[.slice none 0 0, .slice none 0 0] 27) = w0 at *
  refine hN.mono ?_
  rintro e w1 ⟨rfl, h1⟩
  have B0 := (h1.block w.heap.size (by omega) (by omega)).trans b0
  have B1 := (h1.block (w.heap.size + 1) (by omega) (by omega)).trans b1
  have HA1 : Hid (Chg 0 0 w w1) := hA.trans h1
  have s1 := h1.size
  clear h1 b0 b1 hA hN
  obtain ⟨k0, k1, k2⟩ := trio B0
  go_wp2_with fail
  refine (hP w1).mono ?_
  rintro e w2 ⟨rfl, h2⟩
  have B0' := (h2.block w.heap.size (by omega) (by omega)).trans B0
  have B1' := (h2.block (w.heap.size + 1) (by omega) (by omega)).trans B1
  have HA2 : Hid (Chg 0 0 w w2) := HA1.out.trans h2
  have s2 := h2.size
  clear h2 B0 B1 HA1 k0 k1 k2 hP
  have hB2 : (w2.alloc (.cells #[.int .i64 (im : Int), .int .i64 (bm : Int), .int .i64 (mb : Int), .int .i64 (tb : Int), .int .i64 (tn : Int), .int .i64 (D : Int), .int .i64 dn] 36)).heap[w2.heap.size]? = some (.cells #[.int .i64 (im : Int), .int .i64 (bm : Int), .int .i64 (mb : Int), .int .i64 (tb : Int), .int .i64 (tn : Int), .int .i64 (D : Int), .int .i64 dn] 36 (0, 0)) := heap_new w2 _
  have B0'' := ((Chg.alloc (Chg.refl 0 0 w2) (.cells #[.int .i64 (im : Int), .int .i64 (bm : Int), .int .i64 (mb : Int), .int .i64 (tb : Int), .int .i64 (tn : Int), .int .i64 (D : Int), .int .i64 dn] 36)).block w.heap.size (by omega) (by omega)).trans B0'
  have B1'' := ((Chg.alloc (Chg.refl 0 0 w2) (.cells #[.int .i64 (im : Int), .int .i64 (bm : Int), .int .i64 (mb : Int), .int .i64 (tb : Int), .int .i64 (tn : Int), .int .i64 (D : Int), .int .i64 dn] 36)).block (w.heap.size + 1) (by omega) (by omega)).trans B1'
  obtain ⟨k0, k1, k2⟩ := trio B0''
  have s3 : (w2.alloc (.cells #[.int .i64 (im : Int), .int .i64 (bm : Int), .int .i64 (mb : Int), .int .i64 (tb : Int), .int .i64 (tn : Int), .int .i64 (D : Int), .int .i64 dn] 36)).heap.size = w2.heap.size + 1 := by simp
  have HA3 : Hid (Chg 0 0 w (w2.alloc (.cells #[.int .i64 (im : Int), .int .i64 (bm : Int), .int .i64 (mb : Int), .int .i64 (tb : Int), .int .i64 (tn : Int), .int .i64 (D : Int), .int .i64 dn] 36))) := HA2.out.alloc _
  clear B0' B1' HA2
  go_wp2_with fail
  generalize w2.alloc (.cells #[.int .i64 (im : Int), .int .i64 (bm : Int), .int .i64 (mb : Int), .int .i64 (tb : Int), .int .i64 (tn : Int), .int .i64 (D : Int), .int .i64 dn] 36) = w3 at *
  refine (specNewDisk_yes w3 b hb1 hbn).mono ?_
  rintro e w4 ⟨dv, rfl, o4, h4⟩
  obtain ⟨gD, cp, rfl⟩ := o4.slice_of (by rw [List.length_replicate]; omega)
  rw [List.length_replicate] at o4
  rw [List.length_replicate]
  obtain ⟨N, hN⟩ : ∃ N, N = b * 64 := ⟨_, rfl⟩
  rw [← hN]
  rw [← hN] at o4
  have HN : Hid (N = b * 64) := hN
  have hNb : N ≤ 1048576 := by omega
  have gD4 := o4.lt gD rfl
  have s4 := h4.size
  have HK6 : Hid (Ms w (w4.alloc (.cells #[.slice (some ⟨gD, 0, none⟩) N cp, .slice none 0 0] 27)) w2.heap.size gD w4.heap.size N cp b l n im bm mb tb tn D dn (List.replicate N (0 : Int))) := by
    have c5 : Chg 0 0 w3 (w4.alloc (.cells #[.slice (some ⟨gD, 0, none⟩) N cp, .slice none 0 0] 27)) := h4.alloc _
    refine ⟨(c5.block _ (by omega) (by omega)).trans B0'', (c5.block _ (by omega) (by omega)).trans B1'', (c5.block _ (by omega) (by omega)).trans hB2, heap_new w4 _, (o4.chg (Chg.alloc (Chg.refl 0 0 w4) _) (by intro g _; omega)).base (fun g hg => by cases hg; show w.heap.size + 2 ≤ gD; omega), ⟨by omega, by omega, by omega⟩, HA3.out.trans c5⟩
  clear HA3 B0'' B1'' hB2 k0 k1 k2 h4 o4 hN gD4 s4
  go_upto_region 6 with fail
  generalize w4.alloc (.cells #[.slice (some ⟨gD, 0, none⟩) N cp, .slice none 0 0] 27) = W6 at *
  clear s3 s2 s1 z
  clear w3
  generalize w4.heap.size = DB at *
  generalize w2.heap.size = PB at *
  clear w4 w2 w1 w0
  have HL6 : Hid ((List.replicate N (0 : Int)).length = N) := List.length_replicate
  obtain ⟨D6, hD6⟩ : ∃ d, d = List.replicate N (0 : Int) := ⟨_, rfl⟩
  rw [← hD6] at HK6 HL6
  have HD6 : Hid (D6 = List.replicate N (0 : Int)) := hD6
  clear hD6
  -- region 6
  have HK6d : Hid (Ms w W6.drew PB gD DB N cp b l n im bm mb tb tn D dn D6) := HK6.out.chg (Chg.drew (Chg.refl 0 0 W6))
  clear HK6
  refine held_region (fun w' : World => w'.heap[DB]? = some (.cells #[.slice (some ⟨gD, 0, none⟩) N cp, .slice none 0 0] 27 (0, 0)) ∧ w'.heap[w.heap.size]? = some (.cells #[.int .i64 (b : Int), .int .i64 (l : Int), .int .i64 (n : Int)] 29 (0, 0)) ∧ w'.heap[PB]? = some (.cells #[.int .i64 (im : Int), .int .i64 (bm : Int), .int .i64 (mb : Int), .int .i64 (tb : Int), .int .i64 (tn : Int), .int .i64 (D : Int), .int .i64 dn] 36 (0, 0))) hmx ?_
  generalize W6.drew = X6 at *
  have HS : Hid ((fun w' : World => w'.heap[DB]? = some (.cells #[.slice (some ⟨gD, 0, none⟩) N cp, .slice none 0 0] 27 (0, 0)) ∧ w'.heap[w.heap.size]? = some (.cells #[.int .i64 (b : Int), .int .i64 (l : Int), .int .i64 (n : Int)] 29 (0, 0)) ∧ w'.heap[PB]? = some (.cells #[.int .i64 (im : Int), .int .i64 (bm : Int), .int .i64 (mb : Int), .int .i64 (tb : Int), .int .i64 (tn : Int), .int .i64 (D : Int), .int .i64 dn] 36 (0, 0))) X6) := ⟨HK6d.out.db, HK6d.out.g0, HK6d.out.pb⟩
  refine held_take 0 (.pointer (some ⟨DB, 0, none⟩)) rfl (by kernel_rfl) (by kernel_rfl) (by kernel_rfl) (fun _ _ _ h => h) (.inl ⟨by kernel_rfl, fun w' hw' => by go_simp⟩) HS.out ?_
  go_simp
  refine held_take 1 (.slice (some ⟨gD, 0, none⟩) N cp) rfl (by kernel_rfl) (by kernel_rfl) (by kernel_rfl) (fun _ _ _ h => h) (.inl ⟨by kernel_rfl, fun w' hw' => by obtain ⟨h4, h5⟩ := two_first hw'.1; go_simp⟩) HS.out ?_
  go_simp
  refine held_take 2 (.agg #[.int .i64 (b : Int), .int .i64 (l : Int), .int .i64 (n : Int)]) rfl (by kernel_rfl) (by kernel_rfl) (by kernel_rfl) (fun _ _ _ h => h) (.inl ⟨by kernel_rfl, fun w' hw' => by obtain ⟨h4, h5, h6⟩ := trio hw'.2.1; go_simp⟩) HS.out ?_
  go_simp
  refine held_one 3 rfl rfl (by kernel_rfl) ?_
  refine wp_enter 14 #[geoV b l n] (by first | kernel_rfl | go_simp) ((show Calls _ _ _ _ _ from by have h := specEncSuper_calls X6 b l n; rw [HE.out] at h; exact h)) ?_
  rintro e Y6 ⟨v, rfl, hO, hc⟩
  have HK6y : Hid (Ms w Y6 PB gD DB N cp b l n im bm mb tb tn D dn D6) := HK6d.out.chg hc
  have HS : Hid ((fun w' : World => w'.heap[DB]? = some (.cells #[.slice (some ⟨gD, 0, none⟩) N cp, .slice none 0 0] 27 (0, 0)) ∧ w'.heap[w.heap.size]? = some (.cells #[.int .i64 (b : Int), .int .i64 (l : Int), .int .i64 (n : Int)] 29 (0, 0)) ∧ w'.heap[PB]? = some (.cells #[.int .i64 (im : Int), .int .i64 (bm : Int), .int .i64 (mb : Int), .int .i64 (tb : Int), .int .i64 (tn : Int), .int .i64 (D : Int), .int .i64 dn] 36 (0, 0))) Y6) := ⟨HK6y.out.db, HK6y.out.g0, HK6y.out.pb⟩
  have HO : Hid (OwnB Y6 (DB + 1) 5 v (fsL b l n)) := hO.base (fun g hg => by have := (hO.lt g hg).1; have := HK6d.out.lt; omega)
  clear HK6d hc hO
  refine ⟨_, rfl, HS.out, ?_⟩
  go_simp
  refine held_one 4 rfl rfl (by kernel_rfl) ?_
  refine wp_enter 13 #[.slice (some ⟨gD, 0, none⟩) N cp, .int .i64 (0), v] (by first | kernel_rfl | go_simp) (HK6y.out.l1Put HL6.out hNb (fsL b l n) (fsL_len HG.out) (0) (by have := HQ.out; have := HN.out; omega) HO.out) ?_
  rintro e W7 ⟨rfl, hK, hL, hc⟩
  have HK7 : Hid (Ms w W7 PB gD DB N cp b l n im bm mb tb tn D dn (splice D6 ((0) * 64) (fsL b l n))) := hK
  have HL7 : Hid ((splice D6 ((0) * 64) (fsL b l n)).length = N) := hL
  have HS' : Hid ((fun w' : World => w'.heap[DB]? = some (.cells #[.slice (some ⟨gD, 0, none⟩) N cp, .slice none 0 0] 27 (0, 0)) ∧ w'.heap[w.heap.size]? = some (.cells #[.int .i64 (b : Int), .int .i64 (l : Int), .int .i64 (n : Int)] 29 (0, 0)) ∧ w'.heap[PB]? = some (.cells #[.int .i64 (im : Int), .int .i64 (bm : Int), .int .i64 (mb : Int), .int .i64 (tb : Int), .int .i64 (tn : Int), .int .i64 (D : Int), .int .i64 dn] 36 (0, 0))) W7) := ⟨HK7.out.db, HK7.out.g0, HK7.out.pb⟩
  clear hK hL hc HS HK6y HL6 HO
  refine ⟨_, rfl, HS'.out, ?_⟩
  clear HS'
  obtain ⟨D7, hD7⟩ : ∃ d, d = splice D6 ((0) * 64) (fsL b l n) := ⟨_, rfl⟩
  rw [← hD7] at HK7 HL7
  have HD7 : Hid (D7 = splice D6 ((0) * 64) (fsL b l n)) := hD7
  clear hD7
  refine held_done (by kernel_rfl) (NoPanic.normal ?_)
  go_upto_region 7 with fail
  have HK7d : Hid (Ms w W7.drew PB gD DB N cp b l n im bm mb tb tn D dn D7) := HK7.out.chg (Chg.drew (Chg.refl 0 0 W7))
  clear HK7
  refine held_region (fun w' : World => w'.heap[DB]? = some (.cells #[.slice (some ⟨gD, 0, none⟩) N cp, .slice none 0 0] 27 (0, 0)) ∧ w'.heap[w.heap.size]? = some (.cells #[.int .i64 (b : Int), .int .i64 (l : Int), .int .i64 (n : Int)] 29 (0, 0)) ∧ w'.heap[PB]? = some (.cells #[.int .i64 (im : Int), .int .i64 (bm : Int), .int .i64 (mb : Int), .int .i64 (tb : Int), .int .i64 (tn : Int), .int .i64 (D : Int), .int .i64 dn] 36 (0, 0))) hmx ?_
  generalize W7.drew = X7 at *
  have HS : Hid ((fun w' : World => w'.heap[DB]? = some (.cells #[.slice (some ⟨gD, 0, none⟩) N cp, .slice none 0 0] 27 (0, 0)) ∧ w'.heap[w.heap.size]? = some (.cells #[.int .i64 (b : Int), .int .i64 (l : Int), .int .i64 (n : Int)] 29 (0, 0)) ∧ w'.heap[PB]? = some (.cells #[.int .i64 (im : Int), .int .i64 (bm : Int), .int .i64 (mb : Int), .int .i64 (tb : Int), .int .i64 (tn : Int), .int .i64 (D : Int), .int .i64 dn] 36 (0, 0))) X7) := ⟨HK7d.out.db, HK7d.out.g0, HK7d.out.pb⟩
  refine held_take 0 (.pointer (some ⟨DB, 0, none⟩)) rfl (by kernel_rfl) (by kernel_rfl) (by kernel_rfl) (fun _ _ _ h => h) (.inl ⟨by kernel_rfl, fun w' hw' => by go_simp⟩) HS.out ?_
  go_simp
  refine held_take 1 (.slice (some ⟨gD, 0, none⟩) N cp) rfl (by kernel_rfl) (by kernel_rfl) (by kernel_rfl) (fun _ _ _ h => h) (.inl ⟨by kernel_rfl, fun w' hw' => by obtain ⟨h4, h5⟩ := two_first hw'.1; go_simp⟩) HS.out ?_
  go_simp
  refine held_take 2 (.pointer (some ⟨w.heap.size, 1, none⟩)) rfl (by kernel_rfl) (by kernel_rfl) (by kernel_rfl) (fun _ _ _ h => h) (.inl ⟨by kernel_rfl, fun w' hw' => by go_simp⟩) HS.out ?_
  go_simp
  refine held_take 3 (.int .i64 (l : Int)) rfl (by kernel_rfl) (by kernel_rfl) (by kernel_rfl) (fun _ _ _ h => h) (.inl ⟨by kernel_rfl, fun w' hw' => by obtain ⟨h4, h5, h6⟩ := trio hw'.2.1; go_simp⟩) HS.out ?_
  go_simp
  refine held_take 4 (.agg #[.int .i64 (l : Int), .int .i64 0, .int .i64 1]) rfl (by kernel_rfl) (by kernel_rfl) (by kernel_rfl) (fun _ _ _ h => h) (.inl ⟨by kernel_rfl, fun w' hw' => by go_simp⟩) HS.out ?_
  go_simp
  refine held_one 5 rfl rfl (by kernel_rfl) ?_
  refine wp_enter 15 #[.agg #[.int .i64 (l : Int), .int .i64 0, .int .i64 1]] (by first | kernel_rfl | go_simp) (specJSuper_ok X7 l 0 1 ⟨by omega, by omega, by omega, by omega, by omega, by omega⟩ (supJ_byt _ _ _)) ?_
  rintro e Y7 ⟨v, rfl, hO, hc⟩
  have HK7y : Hid _ := HK7d.out.chg hc
  have HS : Hid (_ ∧ _ ∧ _) := ⟨HK7y.out.db, HK7y.out.g0, HK7y.out.pb⟩
  have HO : Hid (OwnB Y7 (DB + 1) 5 v (mkJ l)) := hO.base (fun g hg => by have := (hO.lt g hg).1; have := HK7d.out.lt; omega)
  refine ⟨_, rfl, HS.out, ?_⟩
  go_simp
  refine held_one 6 rfl rfl (by kernel_rfl) ?_
  refine wp_enter 13 #[.slice (some ⟨gD, 0, none⟩) N cp, .int .i64 (1), v] (by first | kernel_rfl | go_simp) (HK7y.out.l1Put HL7.out hNb (mkJ l) (mkJ_len (by omega) (by omega)) (1) (by have := HQ.out; have := HN.out; omega) HO.out) ?_
  rintro e W8 ⟨rfl, hK, hL, hc⟩
  have HK8 : Hid _ := hK
  have HL8 : Hid _ := hL
  have HS' : Hid (_ ∧ _ ∧ _) := ⟨HK8.out.db, HK8.out.g0, HK8.out.pb⟩
  refine ⟨_, rfl, HS'.out, ?_⟩
  obtain ⟨D8, hD8⟩ : ∃ d, d = splice D7 ((1) * 64) (mkJ l) := ⟨_, rfl⟩
  rw [← hD8] at HK8 HL8
  have HD8 : Hid _ := hD8
  refine held_done (by kernel_rfl) (NoPanic.normal ?_)
  go_wp2_with fail
  refine (l2Zero_calls W8 64 (by omega)).mono ?_
  rintro e W9 ⟨gM, rfl, hO, hc⟩
  have HK9 : Hid _ := HK8.out.chg hc
  have HO : Hid (OwnB W9 (DB + 1) 5 (.slice (some ⟨gM, 0, none⟩) 64 64) (inoStep n 0)) := hO.base (fun g hg => by have := (hO.lt g hg).1; have := HK8.out.lt; omega)
  go_wp2
  go_loopw [6, 7] (fun x y wr => ∃ (k : Nat), y = .int .i64 (k : Int) ∧ k ≤ 512 ∧ OwnB wr (DB + 1) 5 x (inoStep n k) ∧ Ms w wr PB gD DB N cp b l n im bm mb tb tn D dn D8) (fun _ y _ => 512 - (intOf y).toNat)
  case atStart => exact ⟨0, rfl, by omega, HO.out, HK9.out⟩
  case round =>
    obtain ⟨k, rfl, hk, ho, hm⟩ := hrel
    obtain ⟨f1, f2⟩ := inoStep_facts n k hk
    obtain ⟨k0, k1, k2⟩ := trio hm.g0
    have HK : Hid _ := hm
    have HOk : Hid _ := ho
    have hP := specBitPut_calls wr (k : Int) true f2 (by omega) (ho.view (by omega) (hi := wr.heap.size) (fun g hg => (ho.lt g hg).2))
    by_cases hlt : k < 512
    · have hlt' : (k : Int) < 512 := by omega
      by_cases hc : k = 0 ∨ n ≤ k
      · have Hn : Hid (bitP (inoStep n k) (k : Int) true = inoStep n (k + 1)) := by show _ = _; rw [inoStep, if_pos hc]
        rw [Hn.out] at hP
        have key : ∀ (e : Ending) (w2 : World), (∃ v, e = .returned v ∧ OwnB w2 wr.heap.size 5 v (inoStep n (k + 1)) ∧ Chg 0 0 wr w2) → ∃ v, e = .returned v ∧ Hid (OwnB w2 (DB + 1) 5 v (inoStep n (k + 1))) ∧ Hid (Ms w w2 PB gD DB N cp b l n im bm mb tb tn D dn D8) := by
          rintro e w2 ⟨v2, rfl, o2, c2⟩
          exact ⟨v2, rfl, o2.base (fun g hg => by have := (o2.lt g hg).1; have := HK.out.lt; omega), HK.out.chg c2⟩
        by_cases h0 : k = 0
        · have h0' : (k : Int) = 0 := by omega
          subst h0
          go_wp2_with fail
          refine hP.mono ?_
          intro e w2 h2
          obtain ⟨v2, rfl, HO2, HK2⟩ := key e w2 h2
          go_wp2
          go_roundw
          case rel => exact ⟨1, by rfl, by omega, HO2.out, HK2.out⟩
          case measure => simp [intOf]
        · have h0' : ¬ (k : Int) = 0 := by omega
          have h1' : (n : Int) ≤ (k : Int) := by omega
          go_wp2_with fail
          refine hP.mono ?_
          intro e w2 h2
          obtain ⟨v2, rfl, HO2, HK2⟩ := key e w2 h2
          go_wp2
          go_roundw
          case rel => exact ⟨k + 1, by go_num, by omega, HO2.out, HK2.out⟩
          case measure => simp [intOf]; omega
      · have Hn : Hid (inoStep n (k + 1) = inoStep n k) := by show _ = _; rw [inoStep, if_neg hc]
        have h0 : ¬ k = 0 := by omega
        have h0' : ¬ (k : Int) = 0 := by omega
        have h1' : ¬ (n : Int) ≤ (k : Int) := by omega
        go_wp2
        go_roundw
        case rel => exact ⟨k + 1, by go_num, by omega, by rw [Hn.out]; exact HOk.out, HK.out⟩
        case measure => simp [intOf]; omega
    · have hlt' : ¬ (k : Int) < 512 := by omega
      have HO8 : Hid (OwnB wr (DB + 1) 5 u6 (inoMap n)) := by show OwnB _ _ _ _ _; rw [← inoStep_all hn1 (by omega), show 512 = k by omega]; exact ho
      obtain ⟨j0, j1⟩ := two_first hm.db
      obtain ⟨p0, p1, p2, p3, p4, p5, p6⟩ := seven hm.pb
      have hPut := HK.out.l1Put HL8.out hNb (inoMap n) (inoMap_len hnn) im (by have := HQ.out; have := HN.out; omega) HO8.out
      clear ho hm hP HOk
      go_wp2_with fail
      refine hPut.mono ?_
      rintro e W14 ⟨rfl, hK, hL, hc⟩
      have HK14 : Hid _ := hK
      have HL14 : Hid _ := hL
      clear hK hL hc hPut HK HO8 HL8 j0 j1 p0 p1 p2 p3 p4 p5 p6 k0 k1 k2
      obtain ⟨D14, hD14⟩ : ∃ d, d = splice D8 ((im) * 64) (inoMap n) := ⟨_, rfl⟩
      rw [← hD14] at HK14 HL14
      have HD14 : Hid _ := hD14
      clear hD14
      obtain ⟨M, hM⟩ : ∃ M : Nat, M = 64 * mb := ⟨_, rfl⟩
      obtain ⟨T, hT⟩ : ∃ T : Nat, T = 512 * mb := ⟨_, rfl⟩
      obtain ⟨E, hE⟩ : ∃ E : Nat, E = 8 * mb := ⟨_, rfl⟩
      have HM : Hid (_ ∧ _ ∧ _) := ⟨hM, hT, hE⟩
      have hMb : M ≤ 256 := by have := HQ.out; omega
      have hTb : T ≤ 2048 := by have := HQ.out; omega
      have x1 : (mb : Int) * 64 = (M : Int) := by omega
      have x2 : IntKind.i64.wrap (M : Int) = (M : Int) := by rw [IntKind.wrap_i64]; omega
      have x3 : (8 : Int) * (mb : Int) = (E : Int) := by omega
      have x4 : IntKind.i64.wrap (E : Int) = (E : Int) := by rw [IntKind.wrap_i64]; omega
      have x5 : (E : Int) * 64 = (T : Int) := by omega
      have x6 : IntKind.i64.wrap (T : Int) = (T : Int) := by rw [IntKind.wrap_i64]; omega
      clear hM hT hE
      obtain ⟨p0, p1, p2, p3, p4, p5, p6⟩ := seven HK14.out.pb
      have hZ := l2Zero_calls W14 M (by omega)
      go_wp2_with fail
      refine hZ.mono ?_
      rintro e W16 ⟨gM2, rfl, hO, hc⟩
      have HK16 : Hid _ := HK14.out.chg hc
      have HO : Hid (OwnB W16 (DB + 1) 5 (.slice (some ⟨gM2, 0, none⟩) M M) (blkStep M D b 0)) := hO.base (fun g hg => by have := (hO.lt g hg).1; have := HK14.out.lt; omega)
      go_wp2
      go_loopw [8, 9] (fun x y wr => ∃ (k : Nat), y = .int .i64 (k : Int) ∧ k ≤ T ∧ OwnB wr (DB + 1) 5 x (blkStep M D b k) ∧ Ms w wr PB gD DB N cp b l n im bm mb tb tn D dn D14) (fun _ y _ => T - (intOf y).toNat)
      case atStart => exact ⟨0, rfl, by omega, HO.out, HK16.out⟩
      case round =>
        obtain ⟨k, rfl, hk, ho, hm⟩ := hrel
        obtain ⟨f1, f2⟩ := blkStep_facts M D b (by omega) k (by have := HM.out; omega)
        obtain ⟨k0, k1, k2⟩ := trio hm.g0
        obtain ⟨p0, p1, p2, p3, p4, p5, p6⟩ := seven hm.pb
        have HK : Hid _ := hm
        have HOk : Hid _ := ho
        have hP := specBitPut_calls wr (k : Int) true f2 (by omega) (ho.view (by omega) (hi := wr.heap.size) (fun g hg => (ho.lt g hg).2))
        by_cases hlt : k < T
        · have hlt' : (k : Int) < (T : Int) := by omega
          by_cases hc : k < D ∨ b ≤ k
          · have Hn : Hid (bitP (blkStep M D b k) (k : Int) true = blkStep M D b (k + 1)) := by show _ = _; rw [blkStep, if_pos hc]
            rw [Hn.out] at hP
            have key : ∀ (e : Ending) (w2 : World), (∃ v, e = .returned v ∧ OwnB w2 wr.heap.size 5 v (blkStep M D b (k + 1)) ∧ Chg 0 0 wr w2) → ∃ v, e = .returned v ∧ Hid (OwnB w2 (DB + 1) 5 v (blkStep M D b (k + 1))) ∧ Hid (Ms w w2 PB gD DB N cp b l n im bm mb tb tn D dn D14) := by
              rintro e w2 ⟨v2, rfl, o2, c2⟩
              exact ⟨v2, rfl, o2.base (fun g hg => by have := (o2.lt g hg).1; have := HK.out.lt; omega), HK.out.chg c2⟩
            by_cases h0 : k < D
            · have h0' : (k : Int) < (D : Int) := by omega
              go_wp2_with fail
              refine hP.mono ?_
              intro e w2 h2
              obtain ⟨v2, rfl, HO2, HK2⟩ := key e w2 h2
              go_wp2
              go_roundw
              case rel => exact ⟨k + 1, by go_num, by omega, HO2.out, HK2.out⟩
              case measure => simp [intOf]; omega
            · have h0' : ¬ (k : Int) < (D : Int) := by omega
              have h1' : (b : Int) ≤ (k : Int) := by omega
              go_wp2_with fail
              refine hP.mono ?_
              intro e w2 h2
              obtain ⟨v2, rfl, HO2, HK2⟩ := key e w2 h2
              go_wp2
              go_roundw
              case rel => exact ⟨k + 1, by go_num, by omega, HO2.out, HK2.out⟩
              case measure => simp [intOf]; omega
          · have Hn : Hid (blkStep M D b (k + 1) = blkStep M D b k) := by show _ = _; rw [blkStep, if_neg hc]
            have h0' : ¬ (k : Int) < (D : Int) := by omega
            have h1' : ¬ (b : Int) ≤ (k : Int) := by omega
            go_wp2
            go_roundw
            case rel => exact ⟨k + 1, by go_num, by omega, by rw [Hn.out]; exact HOk.out, HK.out⟩
            case measure => simp [intOf]; omega
        · have hlt' : ¬ (k : Int) < (T : Int) := by omega
          have HO20 : Hid (OwnB wr (DB + 1) 5 u8 (blkMap mb D b)) := by
            show OwnB _ _ _ _ _
            rw [← blkStep_all (by have := HQ.out; omega) HQ.out.2.2.2.2.2.2.2, ← HM.out.1, ← HM.out.2.1, show T = k by omega]; exact ho
          have HBL : Hid ((blkMap mb D b).length = M) := by show _ = _; rw [HM.out.1]; exact blkMap_len HQ.out.2.2.2.2.2.2.1 (by have := HQ.out; omega) HQ.out.2.2.2.2.2.2.2
          obtain ⟨gB, cB, rfl⟩ := HO20.out.slice_of (by rw [HBL.out]; have := HQ.out; have := HM.out; omega)
          rw [HBL.out] at HO20 ⊢
          have HK21 : Hid (Ms w wr PB gD DB N cp b l n im bm mb tb tn D dn (splice D14 (bm * 64) ((blkMap mb D b).take (64 * 0)))) := by show Ms _ _ _ _ _ _ _ _ _ _ _ _ _ _ _ _ _ _; rw [splice_none]; exact HK.out
          go_wp2
          go_loopw [10] (fun x wr => ∃ (j : Nat), x = .int .i64 (j : Int) ∧ j ≤ mb ∧ OwnB wr (DB + 1) 5 (.slice (some ⟨gB, 0, none⟩) M cB) (blkMap mb D b) ∧ Ms w wr PB gD DB N cp b l n im bm mb tb tn D dn (splice D14 (bm * 64) ((blkMap mb D b).take (64 * j)))) (fun x _ => mb - (intOf x).toNat)
          case atStart => exact ⟨0, rfl, by omega, HO20.out, HK21.out⟩
          case round =>
            obtain ⟨j, rfl, hj, ho, hm⟩ := hrel
            have HOB : Hid (OwnB wr (DB + 1) 5 (.slice (some ⟨gB, 0, none⟩) M cB) (blkMap mb D b)) := ho
            have hgB := ho.lt gB rfl
            have HgB : Hid (DB + 1 ≤ gB) := hgB.1
            have HL24 : Hid ((splice D14 (bm * 64) ((blkMap mb D b).take (64 * j))).length = N) := splice_lenI (by rw [List.length_take, HL14.out]; have := HQ.out; have := HN.out; have := HM.out; omega) HL14.out
            have HK24 : Hid _ := hm
            obtain ⟨D24, hD24⟩ : ∃ d, d = splice D14 (bm * 64) ((blkMap mb D b).take (64 * j)) := ⟨_, rfl⟩
            rw [← hD24] at HK24 HL24
            have HD24 : Hid _ := hD24
            obtain ⟨p0, p1, p2, p3, p4, p5, p6⟩ := seven hm.pb
            by_cases hlj : j < mb
            · have hlj' : (j : Int) < (mb : Int) := by omega
              obtain ⟨r, hr⟩ : ∃ r : Nat, r = bm + j := ⟨_, rfl⟩
              have hqs : (bm : Int) + (j : Int) = (r : Int) := by omega
              have Hr : Hid (r = bm + j) := hr
              have hrb : r ≤ 4096 := by have := HQ.out; omega
              have hrw : IntKind.i64.wrap (r : Int) = (r : Int) := by rw [IntKind.wrap_i64]; omega
              clear hr
              go_upto_region 24 with fail
              clear p0 p1 p2 p3 p4 p5 p6
              have HOBd : Hid (OwnB wr.drew (DB + 1) 5 (.slice (some ⟨gB, 0, none⟩) M cB) (blkMap mb D b)) := HOB.out.chg (Chg.drew (Chg.refl 0 0 wr)) (by intro g _; omega)
              clear HOB
              have HK24d : Hid _ := HK24.out.chg (Chg.drew (Chg.refl 0 0 wr))
              clear HK24
              refine held_region (fun w' : World => w'.heap[DB]? = some (.cells #[.slice (some ⟨gD, 0, none⟩) N cp, .slice none 0 0] 27 (0, 0)) ∧ w'.heap[w.heap.size]? = some (.cells #[.int .i64 (b : Int), .int .i64 (l : Int), .int .i64 (n : Int)] 29 (0, 0)) ∧ w'.heap[PB]? = some (.cells #[.int .i64 (im : Int), .int .i64 (bm : Int), .int .i64 (mb : Int), .int .i64 (tb : Int), .int .i64 (tn : Int), .int .i64 (D : Int), .int .i64 dn] 36 (0, 0))) hmx ?_
              generalize wr.drew = X24 at *
              have HS : Hid (_ ∧ _ ∧ _) := ⟨HK24d.out.db, HK24d.out.g0, HK24d.out.pb⟩
              refine held_take 0 (.pointer (some ⟨DB, 0, none⟩)) rfl (by kernel_rfl) (by kernel_rfl) (by kernel_rfl) (fun _ _ _ h => h) (.inl ⟨by kernel_rfl, fun w' hw' => by go_simp⟩) HS.out ?_
              go_simp
              refine held_take 1 (.slice (some ⟨gD, 0, none⟩) N cp) rfl (by kernel_rfl) (by kernel_rfl) (by kernel_rfl) (fun _ _ _ h => h) (.inl ⟨by kernel_rfl, fun w' hw' => by obtain ⟨h4, h5⟩ := two_first hw'.1; go_simp⟩) HS.out ?_
              go_simp
              refine held_take 2 (.pointer (some ⟨PB, 1, none⟩)) rfl (by kernel_rfl) (by kernel_rfl) (by kernel_rfl) (fun _ _ _ h => h) (.inl ⟨by kernel_rfl, fun w' hw' => by go_simp⟩) HS.out ?_
              go_simp
              refine held_take 3 (.int .i64 (bm : Int)) rfl (by kernel_rfl) (by kernel_rfl) (by kernel_rfl) (fun _ _ _ h => h) (.inl ⟨by kernel_rfl, fun w' hw' => by obtain ⟨h4, h5, h6, h7, h8, h9, h10⟩ := seven hw'.2.2; go_simp⟩) HS.out ?_
              go_simp
              refine held_take 4 (.int .i64 (j : Int)) rfl (by kernel_rfl) (by kernel_rfl) (by kernel_rfl) (fun _ _ _ h => h) (.inl ⟨by kernel_rfl, fun w' hw' => by go_simp⟩) HS.out ?_
              go_simp
              refine held_take 5 (.int .i64 (r : Int)) rfl (by kernel_rfl) (by kernel_rfl) (by kernel_rfl) (fun _ _ _ h => h) (.inl ⟨by kernel_rfl, fun w' hw' => by go_simp⟩) HS.out ?_
              go_simp
              refine held_take 6 (.slice (some ⟨gB, 0, none⟩) M cB) rfl (by kernel_rfl) (by kernel_rfl) (by kernel_rfl) (fun _ _ _ h => h) (.inl ⟨by kernel_rfl, fun w' hw' => by go_simp⟩) HS.out ?_
              go_simp
              refine held_take 7 (.int .i64 (j : Int)) rfl (by kernel_rfl) (by kernel_rfl) (by kernel_rfl) (fun _ _ _ h => h) (.inl ⟨by kernel_rfl, fun w' hw' => by go_simp⟩) HS.out ?_
              go_simp
              refine held_one 8 rfl rfl (by kernel_rfl) ?_
              refine wp_enter 18 #[.slice (some ⟨gB, 0, none⟩) M cB, .int .i64 (j : Int)] (by first | kernel_rfl | go_simp) ((show Calls _ _ _ _ _ from by have h := l2Block_calls X24 (k := j) (ys := blkMap mb D b) (cap := cB) (g := gB) (lo := DB + 1) (hi := X24.heap.size) (by rw [HBL.out]; exact HOBd.out.view (by rw [HBL.out]; omega) (fun g hg => (HOBd.out.lt g hg).2)) (by rw [HBL.out]; have := HM.out; omega) (by rw [HBL.out]; omega); rw [HBL.out] at h; exact h)) ?_
              rintro e Y24 ⟨v, rfl, hO, hc⟩
              have HK24y : Hid _ := HK24d.out.chg hc
              have HOBy : Hid (OwnB Y24 (DB + 1) 5 (.slice (some ⟨gB, 0, none⟩) M cB) (blkMap mb D b)) := HOBd.out.chg hc (by intro g _; omega)
              have HS : Hid (_ ∧ _ ∧ _) := ⟨HK24y.out.db, HK24y.out.g0, HK24y.out.pb⟩
              have HO : Hid (OwnB Y24 (DB + 1) 5 v (blkOf (blkMap mb D b) j)) := hO.base (fun g hg => by have := (hO.lt g hg).1; have := HK24d.out.lt; omega)
              refine ⟨_, rfl, HS.out, ?_⟩
              go_simp
              refine held_one 9 rfl rfl (by kernel_rfl) ?_
              refine wp_enter 13 #[.slice (some ⟨gD, 0, none⟩) N cp, .int .i64 ((r : Int)), v] (by first | kernel_rfl | go_simp) (HK24y.out.l1Put HL24.out hNb (blkOf (blkMap mb D b) j) (blkOf_length (HBL.out.trans HM.out.1) hlj) (r) (by have := HQ.out; have := HN.out; have := Hr.out; omega) HO.out) ?_
              rintro e Z24 ⟨rfl, hK, hL, hc⟩
              have HOBz : Hid _ := HOBy.out.chg hc (by intro g hg; cases hg; show gB < gD ∨ gD + 1 ≤ gB; have := HgB.out; have := HK24y.out.lo; omega)
              have HK25 : Hid (Ms w Z24 PB gD DB N cp b l n im bm mb tb tn D dn (splice D14 (bm * 64) ((blkMap mb D b).take (64 * (j + 1))))) := by
                show Ms _ _ _ _ _ _ _ _ _ _ _ _ _ _ _ _ _ _
                rw [← blk_more (HBL.out.trans HM.out.1) hlj (by rw [HL14.out]; have := HQ.out; have := HN.out; omega), ← HD24.out, ← Hr.out]; exact hK
              have HS' : Hid (_ ∧ _ ∧ _) := ⟨HK25.out.db, HK25.out.g0, HK25.out.pb⟩
              refine ⟨_, rfl, HS'.out, ?_⟩
              refine held_done (by kernel_rfl) (NoPanic.normal ?_)
              go_wp2
              go_roundw
              case rel => exact ⟨j + 1, by go_num, by omega, HOBz.out, HK25.out⟩
              case measure => simp [intOf]; omega
            · have hlj' : ¬ (j : Int) < (mb : Int) := by omega
              have HDf : Hid (D24 = splice D14 (bm * 64) (blkMap mb D b)) := by show _ = _; rw [HD24.out, List.take_of_length_le (by rw [HBL.out]; have := HM.out; omega)]
              obtain ⟨ti, hti, hz0, hz1, hz2⟩ := info_parts Tryd.infoI64
              go_wp2_with (at_make; refine wpList_make_full _ rfl _ _ 49 rfl wr.heap.size 2 ti (.int .i64 0) 1 Tryd.underlying49 hti hz0 hz1 _ _ _ _ 8 rfl rfl rfl rfl (by rw [hz2]; omega) (by unfold maxLen; omega) (by simp) ?_)
              intro W25 hown hgrow
              have OI : OwnI W25 wr.heap.size 2 (.slice (some ⟨wr.heap.size, 0, none⟩) 8 8) (List.replicate 8 0) := by
                unfold OwnI
                rw [List.length_replicate, List.map_replicate]
                rw [made_one] at hown
                exact hown
              have c25 : Chg 0 0 wr W25 := Chg.ofGrown hgrow (by simp)
              have HK25 : Hid _ := HK24.out.chg c25
              have hEn := specEncInode_calls W25 (lo := wr.heap.size) (hi := W25.heap.size) rootI (some ⟨wr.heap.size, 0, none⟩) 8 (by simp) (OI.view (by simp) (fun g hg => (OI.lt g hg).2))
              go_wp2_with fail
              refine hEn.mono ?_
              rintro e W26 ⟨vi, rfl, oi, ci⟩
              have HK26 : Hid _ := HK25.out.chg ci
              have Hoi : Hid (OwnB W26 W25.heap.size 5 vi (encIno rootI)) := oi
              go_wp2_with fail
              refine (l2Zero_calls W26 32 (by omega)).mono ?_
              rintro e W27 ⟨gz, rfl, oz, cz⟩
              have HK27 : Hid _ := HK26.out.chg cz
              have oi2 := Hoi.out.chg cz (by intro g _; omega)
              have hJ := l2Join_any W27 (by rw [rootI_len]; omega) (by simp) (oi2.view (by rw [rootI_len]; omega) (hi := W27.heap.size) (fun g hg => (oi2.lt g hg).2)) (oz.view (by simp) (hi := W27.heap.size) (fun g hg => (oz.lt g hg).2))
              rw [rootI_enc] at hJ
              go_wp2_with fail
              refine hJ.mono ?_
              rintro e W28 ⟨vj, rfl, oj, cj⟩
              have HK28 : Hid _ := HK27.out.chg cj
              have HOj : Hid (OwnB W28 (DB + 1) 5 vj rootL) := oj.base (fun g hg => by have := (oj.lt g hg).1; have := HK27.out.lt; omega)
              obtain ⟨j0, j1⟩ := two_first HK28.out.db
              obtain ⟨t0, t1, t2, t3, t4, t5, t6⟩ := seven HK28.out.pb
              have hPut := HK28.out.l1Put HL24.out hNb rootL rootL_len tb (by have := HQ.out; have := HN.out; omega) HOj.out
              go_wp2_with fail
              refine hPut.mono ?_
              rintro e W29 ⟨rfl, hK, hL, hc⟩
              have HF : Hid (splice D24 (tb * 64) rootL = mkDur b l n im bm mb tb D) := by show _ = _; unfold mkDur; rw [HDf.out, HD14.out, HD8.out, HD7.out, HD6.out, HN.out]
              obtain ⟨j0, j1⟩ := two_first hK.db
              obtain ⟨y0, y1, yf0, yf1⟩ := two_cells hK.r0
              have hlo := hK.lo
              have hDl := hK.lt
              have HC : Hid (Chg 0 0 w ((W29.setCell ⟨w.heap.size + 1, 0, none⟩ (.slice (some ⟨gD, 0, none⟩) N cp)).setCell ⟨w.heap.size + 1, 1, none⟩ (.slice none 0 0))) := hK.ch.step (Chg.set2 _ _ _ _) (by omega)
              have HO : Hid (OwnD ((W29.setCell ⟨w.heap.size + 1, 0, none⟩ (.slice (some ⟨gD, 0, none⟩) N cp)).setCell ⟨w.heap.size + 1, 1, none⟩ (.slice none 0 0)) w.heap.size W29.heap.size 105 5 (.agg #[.slice (some ⟨gD, 0, none⟩) N cp, .slice none 0 0]) ⟨splice D24 (tb * 64) rootL, []⟩) := by
                have n1 : (Value.slice (some ⟨gD, 0, none⟩) N cp).ownBlock ≠ some (w.heap.size + 1) := by simp [Value.ownBlock]; omega
                refine ⟨_, _, [], fun _ => .slice none 0 0, rfl, ((hK.dr.base (base' := w.heap.size) (fun g hg => by cases hg; show w.heap.size ≤ gD; omega)).set (p := ⟨w.heap.size + 1, 0, none⟩) n1 _).set (p := ⟨w.heap.size + 1, 1, none⟩) n1 _, OwnPx.nil _ _ _ _, by simp, ?_, by simp [Value.ownBlock], by simp⟩
                intro g' hg'
                cases hg'
                show gD < W29.heap.size
                omega
              have HSz : Hid (((W29.setCell ⟨w.heap.size + 1, 0, none⟩ (.slice (some ⟨gD, 0, none⟩) N cp)).setCell ⟨w.heap.size + 1, 1, none⟩ (.slice none 0 0)).heap.size = W29.heap.size) := by show _ = _; simp [World.setCell]
              go_wp2
              refine bodyPost_ret (v := .agg #[.slice (some ⟨gD, 0, none⟩) N cp, .slice none 0 0]) (by simp [results, Tryd.results4, go_sem, y0, y1]) rfl ⟨_, rfl, ?_, HC.out⟩
              rw [← HF.out, HSz.out]; exact HO.out

end Go.Proofs.YtmfkgnifkkkkiaaDoor
