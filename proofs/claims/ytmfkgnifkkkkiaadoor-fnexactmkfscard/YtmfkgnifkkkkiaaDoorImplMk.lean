/- Mkfs of the program: its walk. (made by tools/mkmk.py) -/
import Derived.Test.YtmfkgnifkkkkiaaDoorImplMk0
namespace Go.Proofs.YtmfkgnifkkkkiaaDoor
open Go.RowKit
attribute [local go_sem] Oper.semAt_some

theorem splice_mapI (xs ys : List Int) (o : Nat) : splice (xs.map (Value.int .u8)) o (ys.map (Value.int .u8)) = (splice xs o ys).map (Value.int .u8) := by
  unfold splice
  simp [List.map_take, List.map_drop]
theorem splice_lenI {xs ys : List Int} {o k : Nat} (h : o + ys.length ≤ xs.length) (hk : xs.length = k) : (splice xs o ys).length = k := by
  unfold splice; simp only [List.length_append, List.length_take, List.length_drop]; omega
theorem two_first {w : World} {s : Nat} {a b : Value} {t : TypeId} (h : w.heap[s]? = some (.cells #[a, b] t (0, 0))) : w.cell? ⟨s, 0, none⟩ = some a ∧ w.cell? ⟨s, 1, none⟩ = some b := by simp [World.cell?, h]
theorem seven {w : World} {s : Nat} {a b c d e f g : Value} {t : TypeId} (h : w.heap[s]? = some (.cells #[a, b, c, d, e, f, g] t (0, 0))) :
    w.cell? ⟨s, 0, none⟩ = some a ∧ w.cell? ⟨s, 1, none⟩ = some b ∧ w.cell? ⟨s, 2, none⟩ = some c ∧ w.cell? ⟨s, 3, none⟩ = some d ∧ w.cell? ⟨s, 4, none⟩ = some e ∧ w.cell? ⟨s, 5, none⟩ = some f ∧ w.cell? ⟨s, 6, none⟩ = some g := by simp [World.cell?, h]
theorem supJ_byt (it sq st : Int) : Byt (supA 106 108 111 103 1 it sq st) := by
  intro x hx
  unfold supA at hx
  simp only [List.mem_append] at hx
  rcases hx with (((hx | hx) | hx) | hx) | hx
  · simp at hx; omega
  · exact putN_byt _ _ x hx
  · exact putN_byt _ _ x hx
  · exact putN_byt _ _ x hx
  · rw [List.mem_replicate] at hx; omega
theorem zrow_zeros (b : Nat) : zrow b = ((List.replicate (b * 64) (0 : Int)).map (Value.int .u8)).toArray := by
  apply Array.ext'
  unfold zrow
  rw [made_replicate _ _ _ (by decide), List.map_replicate]
theorem rootL_len : rootL.length = 64 := rfl
theorem rootL_calls (w : World) : Calls Tryd.prog 29 #[] w fun e w' => e = .returned (.agg (rootL.map (Value.int .u8)).toArray) ∧ Chg 0 0 w w' := by
  have h := rootBlock_calls w
  unfold rootV at h
  exact h
theorem inoMap_len {n : Nat} (hn : n ≤ 256) : (inoMap n).length = 64 := by
  unfold inoMap
  have hbp : bitP (List.replicate 64 0) 0 true = (List.replicate 64 (0 : Int)).set (0 / 8) (putBit ((List.replicate 64 0).getD (0 / 8) 0) (0 % 8) true) := bitP_in (m := 0) ⟨by simp, by omega, by simp⟩
  have hl1 : (bitP (List.replicate 64 0) 0 true).length = 64 := by rw [hbp, List.length_set, List.length_replicate]
  have hby := bitP_byt (xs := List.replicate 64 0) 0 true (zeros_byt 64)
  obtain ⟨h3, _⟩ := onTo_facts (A := n) hby (by omega) (512 - n) (by omega)
  rw [h3, hl1]
theorem blkMap_len {mb D b : Nat} (hmb : mb ≤ 4) (hD : D ≤ 512 * mb) (hb : b ≤ 512 * mb) : (blkMap mb D b).length = 64 * mb := by
  unfold blkMap
  obtain ⟨h1, h2⟩ := onTo_facts (ys := List.replicate (64 * mb) 0) (A := 0) (zeros_byt _) (by rw [List.length_replicate]; omega) D (by rw [List.length_replicate]; omega)
  obtain ⟨h3, _⟩ := onTo_facts (A := b) h2 (by rw [h1, List.length_replicate]; omega) (512 * mb - b) (by rw [h1, List.length_replicate]; omega)
  rw [h3, h1, List.length_replicate]

/-- What superblocks, maps and table give. -/
def mkJ (l : Int) : List Int := supL 106 108 111 103 1 l 1 0
def mkDur (b l n im bm mb tb D : Nat) : List Int :=
  splice (splice (splice (splice (splice (List.replicate (b * 64) 0) (0 * 64) (fsL b l n)) (1 * 64) (mkJ l)) (im * 64) (inoMap n)) (bm * 64) (blkMap mb D b)) (tb * 64) rootL
theorem mkJ_len {l : Int} (h0 : 0 ≤ l) (h1 : l ≤ 512) : (mkJ l).length = 64 := by
  have hi2 := pn2 (v := l) (by omega) (by omega)
  have hq4 := pn4 (v := 1) (by omega) (by omega)
  have ht2 := pn2 (v := 0) (by omega) (by omega)
  obtain ⟨hc0, hc1⟩ := crcV_range (supA 106 108 111 103 1 l 1 0)
  unfold mkJ supL; rw [List.length_append, supA_length hi2 hq4 ht2, pn4 hc0 hc1]
theorem mkJ_calls (w : World) (l : Int) (h0 : 0 ≤ l) (h1 : l ≤ 512) :
    Calls Tryd.prog 25 #[.agg #[.int .u8 106, .int .u8 108, .int .u8 111, .int .u8 103, .int .i64 1, .int .i64 l, .int .i64 1, .int .i64 0]] w fun e w' => e = .returned (.agg ((mkJ l).map (Value.int .u8)).toArray) ∧ Chg 0 0 w w' := by
  have hi2 := pn2 (v := l) (by omega) (by omega)
  have hq4 := pn4 (v := 1) (by omega) (by omega)
  have ht2 := pn2 (v := 0) (by omega) (by omega)
  obtain ⟨hc0, hc1⟩ := crcV_range (supA 106 108 111 103 1 l 1 0)
  exact encodedS_calls w 106 108 111 103 1 l 1 0 (by omega) (by omega) (by omega) (by omega) (by omega) hi2 hq4 ht2 (pn4 hc0 hc1) (supJ_byt _ _ _) (by omega)

set_option maxRecDepth 20000 in
set_option maxHeartbeats 8000000 in
theorem mkfs_good (w : World) (b l n im bm mb tb tn D : Nat) (dn : Int) (hg : GeoIn b l n) (hv : geoB b l n = true) (hpl : placesV b l n = plV im bm mb tb tn D dn)
    (q1 : im = 2 + l) (q2 : bm = im + 1) (q3 : tb = bm + mb) (q4 : tb < D) (q5 : D < b) (q6 : 0 < mb) (q7 : mb ≤ 4) (q8 : b ≤ 512 * mb) (hs : SysM w)
    (m0 : w.cell? ⟨1, 0, none⟩ = some (.int .u8 106)) (m1 : w.cell? ⟨1, 1, none⟩ = some (.int .u8 108)) (m2 : w.cell? ⟨1, 2, none⟩ = some (.int .u8 111)) (m3 : w.cell? ⟨1, 3, none⟩ = some (.int .u8 103)) :
    Calls Tryd.prog 6 #[geoV b l n] w fun e w' => ∃ v, e = .returned v ∧ OwnD w' w.heap.size w'.heap.size 105 5 v ⟨mkDur b l n im bm mb tb D, []⟩ ∧ Chg 0 0 w w' := by
  obtain ⟨g1, g2, g3, g4, g5, g6⟩ := id hg
  have HG : Hid (GeoIn b l n) := hg
  have HQ : Hid (im = 2 + l ∧ bm = im + 1 ∧ tb = bm + mb ∧ tb < D ∧ D < b ∧ 0 < mb ∧ mb ≤ 4 ∧ b ≤ 512 * mb) := ⟨q1, q2, q3, q4, q5, q6, q7, q8⟩
  have HM : Hid (SysM w ∧ w.cell? ⟨1, 0, none⟩ = some (.int .u8 106) ∧ w.cell? ⟨1, 1, none⟩ = some (.int .u8 108) ∧ w.cell? ⟨1, 2, none⟩ = some (.int .u8 111) ∧ w.cell? ⟨1, 3, none⟩ = some (.int .u8 103)) := ⟨hs, m0, m1, m2, m3⟩
  have hbn : b ≤ 2048 := by omega
  have hln : l ≤ 512 := by omega
  have hnn : n ≤ 256 := by omega
  have hmx : Tryd.prog.follows .mixedOrders = true := by kernel_rfl
  have hb0 : (0 : Int) < (b : Int) := by omega
  have hbz : ¬ b = 0 := by omega
  have hbo : 1 < b := by omega
  have htn : tb < b := by omega
  have hb1 : (1 : Int) < (b : Int) := by omega
  have htb : (tb : Int) < (b : Int) := by omega
  have hA : Chg 0 0 w ((w.alloc (.cells #[.int .i64 (b : Int), .int .i64 (l : Int), .int .i64 (n : Int)] 29)).alloc (.cells #[.slice none 0 0, .slice none 0 0] 27)) := (Chg.alloc (Chg.refl 0 0 w) _).alloc _
  obtain ⟨z, b0, b1⟩ := alloc2 w (.cells #[.int .i64 (b : Int), .int .i64 (l : Int), .int .i64 (n : Int)] 29) (.cells #[.slice none 0 0, .slice none 0 0] 27)
  have hN := implValidGeometry_calls ((w.alloc (.cells #[.int .i64 (b : Int), .int .i64 (l : Int), .int .i64 (n : Int)] 29)).alloc (.cells #[.slice none 0 0, .slice none 0 0] 27)) b l n
  rw [hv] at hN
  have hP := fun W => placesOf_calls W b l n hbn hln hnn
  rw [hpl] at hP
  clear hg hs m0 m1 m2 m3 hv hpl q1 q2 q3 q4 q5 q6 q7 q8
  go_enter Tryd.func6, Tryd.ntmps6
  go_wp2_with fail
  generalize (w.alloc (.cells #[.int .i64 (b : Int), .int .i64 (l : Int), .int .i64 (n : Int)] 29)).alloc (.cells #[.slice none 0 0, .slice none 0 0] 27) = w0 at *
  refine hN.mono ?_
  rintro e w1 ⟨rfl, h1⟩
  have B0 := (h1.block w.heap.size (by omega) (by omega)).trans b0
  have B1 := (h1.block (w.heap.size + 1) (by omega) (by omega)).trans b1
  have HA1 : Hid (Chg 0 0 w w1) := hA.trans h1
  have s1 := h1.size
  clear h1 b0 b1 hA hN
  obtain ⟨k0, k1, k2⟩ := trio B0
  go_wp2_with fail
  refine (hP w1).mono ?_
  rintro e w2 ⟨rfl, h2⟩
  have B0' := (h2.block w.heap.size (by omega) (by omega)).trans B0
  have B1' := (h2.block (w.heap.size + 1) (by omega) (by omega)).trans B1
  have HA2 : Hid (Chg 0 0 w w2) := HA1.out.trans h2
  have s2 := h2.size
  clear h2 B0 B1 HA1 k0 k1 k2 hP
  have mk := fun W => mk_dur W (b : Int) (by omega) (by omega)
  rw [Int.toNat_natCast] at mk
  have hB2 : (w2.alloc (.cells #[.int .i64 (im : Int), .int .i64 (bm : Int), .int .i64 (mb : Int), .int .i64 (tb : Int), .int .i64 (tn : Int), .int .i64 (D : Int), .int .i64 dn] 36)).heap[w2.heap.size]? = some (.cells #[.int .i64 (im : Int), .int .i64 (bm : Int), .int .i64 (mb : Int), .int .i64 (tb : Int), .int .i64 (tn : Int), .int .i64 (D : Int), .int .i64 dn] 36 (0, 0)) := heap_new w2 _
  have B0'' := ((Chg.alloc (Chg.refl 0 0 w2) (.cells #[.int .i64 (im : Int), .int .i64 (bm : Int), .int .i64 (mb : Int), .int .i64 (tb : Int), .int .i64 (tn : Int), .int .i64 (D : Int), .int .i64 dn] 36)).block w.heap.size (by omega) (by omega)).trans B0'
  have B1'' := ((Chg.alloc (Chg.refl 0 0 w2) (.cells #[.int .i64 (im : Int), .int .i64 (bm : Int), .int .i64 (mb : Int), .int .i64 (tb : Int), .int .i64 (tn : Int), .int .i64 (D : Int), .int .i64 dn] 36)).block (w.heap.size + 1) (by omega) (by omega)).trans B1'
  obtain ⟨k0, k1, k2⟩ := trio B0''
  have s3 : (w2.alloc (.cells #[.int .i64 (im : Int), .int .i64 (bm : Int), .int .i64 (mb : Int), .int .i64 (tb : Int), .int .i64 (tn : Int), .int .i64 (D : Int), .int .i64 dn] 36)).heap.size = w2.heap.size + 1 := by simp
  have HA3 : Hid (Chg 0 0 w (w2.alloc (.cells #[.int .i64 (im : Int), .int .i64 (bm : Int), .int .i64 (mb : Int), .int .i64 (tb : Int), .int .i64 (tn : Int), .int .i64 (D : Int), .int .i64 dn] 36))) := HA2.out.alloc _
  clear B0' B1' HA2
  go_upto_region 4 with fail
  generalize w2.alloc (.cells #[.int .i64 (im : Int), .int .i64 (bm : Int), .int .i64 (mb : Int), .int .i64 (tb : Int), .int .i64 (tn : Int), .int .i64 (D : Int), .int .i64 dn] 36) = w3 at *
  go_upto_region 5 with fail
  have HK5 : Hid (Mk w ((w3.alloc (.cells (zrow b) 58)).alloc (.cells #[.slice (some ⟨w2.heap.size + 1, 0, none⟩) b b, .slice none 0 0] 56)) w2.heap.size (w2.heap.size + 1) (w2.heap.size + 1 + 1) b l n im bm mb tb tn D dn ((List.replicate (b * 64) (0 : Int)).map (Value.int .u8))) := by
    obtain ⟨y1, y2, y3⟩ := alloc2 w3 (.cells (zrow b) 58) (.cells #[.slice (some ⟨w2.heap.size + 1, 0, none⟩) b b, .slice none 0 0] 56)
    have c3 : Chg 0 0 w3 ((w3.alloc (.cells (zrow b) 58)).alloc (.cells #[.slice (some ⟨w2.heap.size + 1, 0, none⟩) b b, .slice none 0 0] 56)) := (Chg.alloc (Chg.refl 0 0 w3) _).alloc _
    rw [s3] at y2 y3
    rw [zrow_zeros] at y2 ⊢
    rw [zrow_zeros] at y3 c3
    exact ⟨(c3.block _ (by omega) (by omega)).trans B0'', (c3.block _ (by omega) (by omega)).trans B1'', (c3.block _ (by omega) (by omega)).trans hB2, y3, y2, ⟨by omega, by omega, by omega⟩, HA3.out.trans c3⟩
  clear HA3 B0'' B1'' hB2 k0 k1 k2
  generalize (w3.alloc (.cells (zrow b) 58)).alloc (.cells #[.slice (some ⟨w2.heap.size + 1, 0, none⟩) b b, .slice none 0 0] 56) = W5 at *
  clear mk s3 s2 s1 z
  clear w3
  generalize w2.heap.size + 1 + 1 = p at *
  generalize w2.heap.size + 1 = gD at *
  generalize w2.heap.size = PB at *
  clear w2 w1 w0
  have HL5 : Hid ((List.replicate (b * 64) (0 : Int)).length = b * 64) := List.length_replicate
  obtain ⟨D5, hD5⟩ : ∃ d, d = List.replicate (b * 64) (0 : Int) := ⟨_, rfl⟩
  rw [← hD5] at HK5 HL5
  have HD5 : Hid (D5 = List.replicate (b * 64) (0 : Int)) := hD5
  clear hD5
  -- region 5
  have HK5d : Hid (Mk w W5.drew PB gD p b l n im bm mb tb tn D dn (D5.map (Value.int .u8))) := HK5.out.chg (Chg.drew (Chg.refl 0 0 W5))
  clear HK5
  refine held_region (fun w' : World => w'.heap[p]? = some (.cells #[.slice (some ⟨gD, 0, none⟩) b b, .slice none 0 0] 56 (0, 0)) ∧ w'.heap[w.heap.size]? = some (.cells #[.int .i64 (b : Int), .int .i64 (l : Int), .int .i64 (n : Int)] 29 (0, 0)) ∧ w'.heap[PB]? = some (.cells #[.int .i64 (im : Int), .int .i64 (bm : Int), .int .i64 (mb : Int), .int .i64 (tb : Int), .int .i64 (tn : Int), .int .i64 (D : Int), .int .i64 dn] 36 (0, 0))) hmx ?_
  generalize W5.drew = X5 at *
  have HS : Hid ((fun w' : World => w'.heap[p]? = some (.cells #[.slice (some ⟨gD, 0, none⟩) b b, .slice none 0 0] 56 (0, 0)) ∧ w'.heap[w.heap.size]? = some (.cells #[.int .i64 (b : Int), .int .i64 (l : Int), .int .i64 (n : Int)] 29 (0, 0)) ∧ w'.heap[PB]? = some (.cells #[.int .i64 (im : Int), .int .i64 (bm : Int), .int .i64 (mb : Int), .int .i64 (tb : Int), .int .i64 (tn : Int), .int .i64 (D : Int), .int .i64 dn] 36 (0, 0))) X5) := ⟨HK5d.out.dv, HK5d.out.g0, HK5d.out.pb⟩
  refine held_take 0 (.pointer (some ⟨p, 0, none⟩)) rfl (by kernel_rfl) (by kernel_rfl) (by kernel_rfl) (fun _ _ _ h => h) (.inl ⟨by kernel_rfl, fun w' hw' => by go_simp⟩) HS.out ?_
  go_simp
  refine held_take 1 (.pointer (some ⟨p, 0, none⟩)) rfl (by kernel_rfl) (by kernel_rfl) (by kernel_rfl) (fun _ _ _ h => h) (.inl ⟨by kernel_rfl, fun w' hw' => by go_simp⟩) HS.out ?_
  go_simp
  refine held_take 2 (.pointer (some ⟨p, 0, none⟩)) rfl (by kernel_rfl) (by kernel_rfl) (by kernel_rfl) (fun _ _ _ h => h) (.inl ⟨by kernel_rfl, fun w' hw' => by go_simp⟩) HS.out ?_
  go_simp
  refine held_take 3 (.slice (some ⟨gD, 0, none⟩) b b) rfl (by kernel_rfl) (by kernel_rfl) (by kernel_rfl) (fun _ _ _ h => h) (.inl ⟨by kernel_rfl, fun w' hw' => by obtain ⟨h4, h5⟩ := two_first hw'.1; go_simp⟩) HS.out ?_
  go_simp
  refine held_take 4 (.agg #[.int .i64 (b : Int), .int .i64 (l : Int), .int .i64 (n : Int)]) rfl (by kernel_rfl) (by kernel_rfl) (by kernel_rfl) (fun _ _ _ h => h) (.inl ⟨by kernel_rfl, fun w' hw' => by obtain ⟨h4, h5, h6⟩ := trio hw'.2.1; go_simp⟩) HS.out ?_
  go_simp
  refine held_one 5 rfl rfl (by kernel_rfl) ?_
  refine wp_enter 23 #[geoV b l n] (by first | kernel_rfl | go_simp) (systemBlock_calls X5 b l n HG.out (HM.out.1.chg HK5d.out.ch)) ?_
  rintro e Y5 ⟨rfl, hc⟩
  have HK5Y5 : Hid (Mk w Y5 PB gD p b l n im bm mb tb tn D dn (D5.map (Value.int .u8))) := HK5d.out.chg hc
  have HS : Hid ((fun w' : World => w'.heap[p]? = some (.cells #[.slice (some ⟨gD, 0, none⟩) b b, .slice none 0 0] 56 (0, 0)) ∧ w'.heap[w.heap.size]? = some (.cells #[.int .i64 (b : Int), .int .i64 (l : Int), .int .i64 (n : Int)] 29 (0, 0)) ∧ w'.heap[PB]? = some (.cells #[.int .i64 (im : Int), .int .i64 (bm : Int), .int .i64 (mb : Int), .int .i64 (tb : Int), .int .i64 (tn : Int), .int .i64 (D : Int), .int .i64 dn] 36 (0, 0))) Y5) := ⟨HK5Y5.out.dv, HK5Y5.out.g0, HK5Y5.out.pb⟩
  clear HK5d hc
  have HK5d := HK5Y5
  clear HK5Y5
  refine ⟨_, rfl, HS.out, ?_⟩
  go_simp
  refine held_take 6 (.pointer (some ⟨gD, 0 * 64, none⟩)) rfl (by kernel_rfl) (by kernel_rfl) (by kernel_rfl) (fun _ _ _ h => h) (.inl ⟨by kernel_rfl, fun w' hw' => by go_simp⟩) HS.out ?_
  go_simp
  refine held_one 7 rfl rfl (by kernel_rfl) ?_
  have hfit5 : 0 * 64 + ((fsL b l n).map (Value.int .u8)).length ≤ (D5.map (Value.int .u8)).length := by rw [List.length_map, List.length_map, fsL_len HG.out, HL5.out]; have := HQ.out; omega
  refine wp_store_mid 58 (.tmp 22) (.tmp 21) rfl gD (0 * 64) ((fsL b l n).map (Value.int .u8)).toArray (by first | rfl | go_simp) rfl (there_sub (row_there HK5d.out.dr) (by simpa using hfit5)) (by rw [List.size_toArray, List.length_map, fsL_len HG.out]; kernel_rfl) (all_oneCell_toArray (ints_oneCell _ _)) ?_
  have hh := heap_setCells gD 58 ((fsL b l n).map (Value.int .u8)) (0 * 64) Y5 _ HK5d.out.dr hfit5
  rw [splice_mapI] at hh
  have HK6 : Hid (Mk w (Y5.setCells gD (0 * 64) ((fsL b l n).map (Value.int .u8))) PB gD p b l n im bm mb tb tn D dn ((splice D5 (0 * 64) (fsL b l n)).map (Value.int .u8))) := HK5d.out.put (Chg.setCells gD _ _ Y5) hh
  have HL6 : Hid ((splice D5 (0 * 64) (fsL b l n)).length = b * 64) := splice_lenI (by simpa using hfit5) HL5.out
  clear hh HS HK5d HL5 hfit5
  refine ⟨⟨HK6.out.dv, HK6.out.g0, HK6.out.pb⟩, ?_⟩
  show wpAnyH _ _ _ _ _ 0 _ _ (Y5.setCells gD (0 * 64) ((fsL b l n).map (Value.int .u8)))
  generalize Y5.setCells gD (0 * 64) ((fsL b l n).map (Value.int .u8)) = W6 at *
  obtain ⟨D6, hD6⟩ : ∃ d, d = splice D5 (0 * 64) (fsL b l n) := ⟨_, rfl⟩
  rw [← hD6] at HK6 HL6
  have HD6 : Hid (D6 = splice D5 (0 * 64) (fsL b l n)) := hD6
  clear hD6
  refine held_done (by kernel_rfl) (NoPanic.normal ?_)
  go_upto_region 6 with fail
  -- region 6
  have HK6d : Hid (Mk w W6.drew PB gD p b l n im bm mb tb tn D dn (D6.map (Value.int .u8))) := HK6.out.chg (Chg.drew (Chg.refl 0 0 W6))
  clear HK6
  refine held_region (fun w' : World => w'.heap[p]? = some (.cells #[.slice (some ⟨gD, 0, none⟩) b b, .slice none 0 0] 56 (0, 0)) ∧ w'.heap[w.heap.size]? = some (.cells #[.int .i64 (b : Int), .int .i64 (l : Int), .int .i64 (n : Int)] 29 (0, 0)) ∧ w'.heap[PB]? = some (.cells #[.int .i64 (im : Int), .int .i64 (bm : Int), .int .i64 (mb : Int), .int .i64 (tb : Int), .int .i64 (tn : Int), .int .i64 (D : Int), .int .i64 dn] 36 (0, 0))) hmx ?_
  generalize W6.drew = X6 at *
  have HS : Hid ((fun w' : World => w'.heap[p]? = some (.cells #[.slice (some ⟨gD, 0, none⟩) b b, .slice none 0 0] 56 (0, 0)) ∧ w'.heap[w.heap.size]? = some (.cells #[.int .i64 (b : Int), .int .i64 (l : Int), .int .i64 (n : Int)] 29 (0, 0)) ∧ w'.heap[PB]? = some (.cells #[.int .i64 (im : Int), .int .i64 (bm : Int), .int .i64 (mb : Int), .int .i64 (tb : Int), .int .i64 (tn : Int), .int .i64 (D : Int), .int .i64 dn] 36 (0, 0))) X6) := ⟨HK6d.out.dv, HK6d.out.g0, HK6d.out.pb⟩
  refine held_take 0 (.pointer (some ⟨p, 0, none⟩)) rfl (by kernel_rfl) (by kernel_rfl) (by kernel_rfl) (fun _ _ _ h => h) (.inl ⟨by kernel_rfl, fun w' hw' => by go_simp⟩) HS.out ?_
  go_simp
  refine held_take 1 (.pointer (some ⟨p, 0, none⟩)) rfl (by kernel_rfl) (by kernel_rfl) (by kernel_rfl) (fun _ _ _ h => h) (.inl ⟨by kernel_rfl, fun w' hw' => by go_simp⟩) HS.out ?_
  go_simp
  refine held_take 2 (.pointer (some ⟨p, 0, none⟩)) rfl (by kernel_rfl) (by kernel_rfl) (by kernel_rfl) (fun _ _ _ h => h) (.inl ⟨by kernel_rfl, fun w' hw' => by go_simp⟩) HS.out ?_
  go_simp
  refine held_take 3 (.slice (some ⟨gD, 0, none⟩) b b) rfl (by kernel_rfl) (by kernel_rfl) (by kernel_rfl) (fun _ _ _ h => h) (.inl ⟨by kernel_rfl, fun w' hw' => by obtain ⟨h4, h5⟩ := two_first hw'.1; go_simp⟩) HS.out ?_
  go_simp
  refine held_take 4 (.pointer (some ⟨w.heap.size, 1, none⟩)) rfl (by kernel_rfl) (by kernel_rfl) (by kernel_rfl) (fun _ _ _ h => h) (.inl ⟨by kernel_rfl, fun w' hw' => by go_simp⟩) HS.out ?_
  go_simp
  refine held_take 5 (.int .i64 (l : Int)) rfl (by kernel_rfl) (by kernel_rfl) (by kernel_rfl) (fun _ _ _ h => h) (.inl ⟨by kernel_rfl, fun w' hw' => by obtain ⟨h4, h5, h6⟩ := trio hw'.2.1; go_simp⟩) HS.out ?_
  go_simp
  refine held_take 6 (.agg #[.int .i64 (l : Int), .int .i64 0, .int .i64 1]) rfl (by kernel_rfl) (by kernel_rfl) (by kernel_rfl) (fun _ _ _ h => h) (.inl ⟨by kernel_rfl, fun w' hw' => by go_simp⟩) HS.out ?_
  go_simp
  refine held_one 7 rfl rfl (by kernel_rfl) ?_
  refine wp_enter 24 #[.agg #[.int .i64 (l : Int), .int .i64 0, .int .i64 1]] (by first | kernel_rfl | go_simp) (superOf_calls X6 l 0 1 (HK6d.out.ch.cell HM.out.2.1 (by omega)) (HK6d.out.ch.cell HM.out.2.2.1 (by omega)) (HK6d.out.ch.cell HM.out.2.2.2.1 (by omega)) (HK6d.out.ch.cell HM.out.2.2.2.2 (by omega))) ?_
  rintro e Y6 ⟨rfl, hc⟩
  have HK6Y6 : Hid (Mk w Y6 PB gD p b l n im bm mb tb tn D dn (D6.map (Value.int .u8))) := HK6d.out.chg hc
  have HS : Hid ((fun w' : World => w'.heap[p]? = some (.cells #[.slice (some ⟨gD, 0, none⟩) b b, .slice none 0 0] 56 (0, 0)) ∧ w'.heap[w.heap.size]? = some (.cells #[.int .i64 (b : Int), .int .i64 (l : Int), .int .i64 (n : Int)] 29 (0, 0)) ∧ w'.heap[PB]? = some (.cells #[.int .i64 (im : Int), .int .i64 (bm : Int), .int .i64 (mb : Int), .int .i64 (tb : Int), .int .i64 (tn : Int), .int .i64 (D : Int), .int .i64 dn] 36 (0, 0))) Y6) := ⟨HK6Y6.out.dv, HK6Y6.out.g0, HK6Y6.out.pb⟩
  clear HK6d hc
  have HK6d := HK6Y6
  clear HK6Y6
  refine ⟨_, rfl, HS.out, ?_⟩
  go_simp
  refine held_one 8 rfl rfl (by kernel_rfl) ?_
  refine wp_enter 25 #[.agg #[.int .u8 106, .int .u8 108, .int .u8 111, .int .u8 103, .int .i64 1, .int .i64 (l : Int), .int .i64 1, .int .i64 0]] (by first | kernel_rfl | go_simp) (mkJ_calls Y6 l (by omega) (by omega)) ?_
  rintro e Z6 ⟨rfl, hc⟩
  have HK6Z6 : Hid (Mk w Z6 PB gD p b l n im bm mb tb tn D dn (D6.map (Value.int .u8))) := HK6d.out.chg hc
  have HS : Hid ((fun w' : World => w'.heap[p]? = some (.cells #[.slice (some ⟨gD, 0, none⟩) b b, .slice none 0 0] 56 (0, 0)) ∧ w'.heap[w.heap.size]? = some (.cells #[.int .i64 (b : Int), .int .i64 (l : Int), .int .i64 (n : Int)] 29 (0, 0)) ∧ w'.heap[PB]? = some (.cells #[.int .i64 (im : Int), .int .i64 (bm : Int), .int .i64 (mb : Int), .int .i64 (tb : Int), .int .i64 (tn : Int), .int .i64 (D : Int), .int .i64 dn] 36 (0, 0))) Z6) := ⟨HK6Z6.out.dv, HK6Z6.out.g0, HK6Z6.out.pb⟩
  clear HK6d hc
  have HK6d := HK6Z6
  clear HK6Z6
  refine ⟨_, rfl, HS.out, ?_⟩
  go_simp
  refine held_take 9 (.pointer (some ⟨gD, 1 * 64, none⟩)) rfl (by kernel_rfl) (by kernel_rfl) (by kernel_rfl) (fun _ _ _ h => h) (.inl ⟨by kernel_rfl, fun w' hw' => by go_simp⟩) HS.out ?_
  go_simp
  refine held_one 10 rfl rfl (by kernel_rfl) ?_
  have hfit6 : 1 * 64 + ((mkJ l).map (Value.int .u8)).length ≤ (D6.map (Value.int .u8)).length := by rw [List.length_map, List.length_map, mkJ_len (by omega) (by omega), HL6.out]; have := HQ.out; omega
  refine wp_store_mid 58 (.tmp 32) (.tmp 31) rfl gD (1 * 64) ((mkJ l).map (Value.int .u8)).toArray (by first | rfl | go_simp) rfl (there_sub (row_there HK6d.out.dr) (by simpa using hfit6)) (by rw [List.size_toArray, List.length_map, mkJ_len (by omega) (by omega)]; kernel_rfl) (all_oneCell_toArray (ints_oneCell _ _)) ?_
  have hh := heap_setCells gD 58 ((mkJ l).map (Value.int .u8)) (1 * 64) Z6 _ HK6d.out.dr hfit6
  rw [splice_mapI] at hh
  have HK7 : Hid (Mk w (Z6.setCells gD (1 * 64) ((mkJ l).map (Value.int .u8))) PB gD p b l n im bm mb tb tn D dn ((splice D6 (1 * 64) (mkJ l)).map (Value.int .u8))) := HK6d.out.put (Chg.setCells gD _ _ Z6) hh
  have HL7 : Hid ((splice D6 (1 * 64) (mkJ l)).length = b * 64) := splice_lenI (by simpa using hfit6) HL6.out
  clear hh HS HK6d HL6 hfit6
  refine ⟨⟨HK7.out.dv, HK7.out.g0, HK7.out.pb⟩, ?_⟩
  show wpAnyH _ _ _ _ _ 0 _ _ (Z6.setCells gD (1 * 64) ((mkJ l).map (Value.int .u8)))
  generalize Z6.setCells gD (1 * 64) ((mkJ l).map (Value.int .u8)) = W7 at *
  obtain ⟨D7, hD7⟩ : ∃ d, d = splice D6 (1 * 64) (mkJ l) := ⟨_, rfl⟩
  rw [← hD7] at HK7 HL7
  have HD7 : Hid (D7 = splice D6 (1 * 64) (mkJ l)) := hD7
  clear hD7
  refine held_done (by kernel_rfl) (NoPanic.normal ?_)
  go_upto_region 7 with fail
  -- region 7
  have HK7d : Hid (Mk w W7.drew PB gD p b l n im bm mb tb tn D dn (D7.map (Value.int .u8))) := HK7.out.chg (Chg.drew (Chg.refl 0 0 W7))
  clear HK7
  refine held_region (fun w' : World => w'.heap[p]? = some (.cells #[.slice (some ⟨gD, 0, none⟩) b b, .slice none 0 0] 56 (0, 0)) ∧ w'.heap[w.heap.size]? = some (.cells #[.int .i64 (b : Int), .int .i64 (l : Int), .int .i64 (n : Int)] 29 (0, 0)) ∧ w'.heap[PB]? = some (.cells #[.int .i64 (im : Int), .int .i64 (bm : Int), .int .i64 (mb : Int), .int .i64 (tb : Int), .int .i64 (tn : Int), .int .i64 (D : Int), .int .i64 dn] 36 (0, 0))) hmx ?_
  generalize W7.drew = X7 at *
  have HS : Hid ((fun w' : World => w'.heap[p]? = some (.cells #[.slice (some ⟨gD, 0, none⟩) b b, .slice none 0 0] 56 (0, 0)) ∧ w'.heap[w.heap.size]? = some (.cells #[.int .i64 (b : Int), .int .i64 (l : Int), .int .i64 (n : Int)] 29 (0, 0)) ∧ w'.heap[PB]? = some (.cells #[.int .i64 (im : Int), .int .i64 (bm : Int), .int .i64 (mb : Int), .int .i64 (tb : Int), .int .i64 (tn : Int), .int .i64 (D : Int), .int .i64 dn] 36 (0, 0))) X7) := ⟨HK7d.out.dv, HK7d.out.g0, HK7d.out.pb⟩
  refine held_take 0 (.pointer (some ⟨p, 0, none⟩)) rfl (by kernel_rfl) (by kernel_rfl) (by kernel_rfl) (fun _ _ _ h => h) (.inl ⟨by kernel_rfl, fun w' hw' => by go_simp⟩) HS.out ?_
  go_simp
  refine held_take 1 (.pointer (some ⟨PB, 0, none⟩)) rfl (by kernel_rfl) (by kernel_rfl) (by kernel_rfl) (fun _ _ _ h => h) (.inl ⟨by kernel_rfl, fun w' hw' => by go_simp⟩) HS.out ?_
  go_simp
  refine held_take 2 (.int .i64 (im : Int)) rfl (by kernel_rfl) (by kernel_rfl) (by kernel_rfl) (fun _ _ _ h => h) (.inl ⟨by kernel_rfl, fun w' hw' => by obtain ⟨h4, h5, h6, h7, h8, h9, h10⟩ := seven hw'.2.2; go_simp⟩) HS.out ?_
  go_simp
  refine held_take 3 (.agg #[.int .i64 (b : Int), .int .i64 (l : Int), .int .i64 (n : Int)]) rfl (by kernel_rfl) (by kernel_rfl) (by kernel_rfl) (fun _ _ _ h => h) (.inl ⟨by kernel_rfl, fun w' hw' => by obtain ⟨h4, h5, h6⟩ := trio hw'.2.1; go_simp⟩) HS.out ?_
  go_simp
  refine held_one 4 rfl rfl (by kernel_rfl) ?_
  refine wp_enter 27 #[geoV b l n] (by first | kernel_rfl | go_simp) (newInodeMap_calls X7 b l n hnn) ?_
  rintro e Y7 ⟨gM, rfl, hO, hc⟩
  have HK7y : Hid (Mk w Y7 PB gD p b l n im bm mb tb tn D dn (D7.map (Value.int .u8))) := HK7d.out.chg hc
  have HS : Hid ((fun w' : World => w'.heap[p]? = some (.cells #[.slice (some ⟨gD, 0, none⟩) b b, .slice none 0 0] 56 (0, 0)) ∧ w'.heap[w.heap.size]? = some (.cells #[.int .i64 (b : Int), .int .i64 (l : Int), .int .i64 (n : Int)] 29 (0, 0)) ∧ w'.heap[PB]? = some (.cells #[.int .i64 (im : Int), .int .i64 (bm : Int), .int .i64 (mb : Int), .int .i64 (tb : Int), .int .i64 (tn : Int), .int .i64 (D : Int), .int .i64 dn] 36 (0, 0))) Y7) := ⟨HK7y.out.dv, HK7y.out.g0, HK7y.out.pb⟩
  have hgM := (hO.lt gM rfl).1
  have HgM : Hid (gM ≠ gD) := by show gM ≠ gD; have := HK7d.out.lt; have := HK7d.out.lo; omega
  have hys7 : (inoMap n).length = 64 * 1 := inoMap_len hnn
  have HV : Hid (∀ i, i < (inoMap n).length → Y7.cell? ⟨gM, 0 + i, none⟩ = some (.int .u8 ((inoMap n).getD i 0))) := fun i hi => by rw [Nat.zero_add]; exact View.cellAt' (hO.view (by have := HQ.out; omega) (hi := Y7.heap.size) (fun g hg => (hO.lt g hg).2)) i hi
  clear HK7d hc hO hgM hys7
  refine ⟨_, rfl, HS.out, ?_⟩
  go_simp
  refine held_one 5 rfl rfl (by kernel_rfl) ?_
  refine wp_enter 26 #[.pointer (some ⟨p, 0, none⟩), .int .i64 (im : Int), .slice (some ⟨gM, 0, none⟩) (64 * 1) (64 * 1)] (by first | kernel_rfl | go_simp) (lay_calls Y7 p gD b im gM 0 (64 * 1) 1 (.slice none 0 0) (D7.map (Value.int .u8)) (inoMap n) (by have := HQ.out; omega) (by have := HQ.out; omega) hbn (by have := HQ.out; omega) (by rw [List.length_map]; exact HL7.out) (Nat.le_refl _) (by have := HQ.out; omega) (inoMap_len hnn) HK7y.out.dv HK7y.out.dr (by have := HK7y.out.lo; omega) HgM.out HV.out) ?_
  rintro e W8 ⟨rfl, hh, hc⟩
  rw [splice_mapI] at hh
  have HK8 : Hid (Mk w W8 PB gD p b l n im bm mb tb tn D dn ((splice D7 (im * 64) (inoMap n)).map (Value.int .u8))) := HK7y.out.put hc hh
  have HL8 : Hid ((splice D7 (im * 64) (inoMap n)).length = b * 64) := splice_lenI (by rw [inoMap_len hnn, HL7.out]; have := HQ.out; omega) HL7.out
  have HS' : Hid ((fun w' : World => w'.heap[p]? = some (.cells #[.slice (some ⟨gD, 0, none⟩) b b, .slice none 0 0] 56 (0, 0)) ∧ w'.heap[w.heap.size]? = some (.cells #[.int .i64 (b : Int), .int .i64 (l : Int), .int .i64 (n : Int)] 29 (0, 0)) ∧ w'.heap[PB]? = some (.cells #[.int .i64 (im : Int), .int .i64 (bm : Int), .int .i64 (mb : Int), .int .i64 (tb : Int), .int .i64 (tn : Int), .int .i64 (D : Int), .int .i64 dn] 36 (0, 0))) W8) := ⟨HK8.out.dv, HK8.out.g0, HK8.out.pb⟩
  clear hh hc HS HK7y HL7 HV HgM
  refine ⟨_, rfl, HS'.out, ?_⟩
  clear HS'
  obtain ⟨D8, hD8⟩ : ∃ d, d = splice D7 (im * 64) (inoMap n) := ⟨_, rfl⟩
  rw [← hD8] at HK8 HL8
  have HD8 : Hid (D8 = splice D7 (im * 64) (inoMap n)) := hD8
  clear hD8
  refine held_done (by kernel_rfl) (NoPanic.normal ?_)
  go_upto_region 8 with fail
  -- region 8
  have HK8d : Hid (Mk w W8.drew PB gD p b l n im bm mb tb tn D dn (D8.map (Value.int .u8))) := HK8.out.chg (Chg.drew (Chg.refl 0 0 W8))
  clear HK8
  refine held_region (fun w' : World => w'.heap[p]? = some (.cells #[.slice (some ⟨gD, 0, none⟩) b b, .slice none 0 0] 56 (0, 0)) ∧ w'.heap[w.heap.size]? = some (.cells #[.int .i64 (b : Int), .int .i64 (l : Int), .int .i64 (n : Int)] 29 (0, 0)) ∧ w'.heap[PB]? = some (.cells #[.int .i64 (im : Int), .int .i64 (bm : Int), .int .i64 (mb : Int), .int .i64 (tb : Int), .int .i64 (tn : Int), .int .i64 (D : Int), .int .i64 dn] 36 (0, 0))) hmx ?_
  generalize W8.drew = X8 at *
  have HS : Hid ((fun w' : World => w'.heap[p]? = some (.cells #[.slice (some ⟨gD, 0, none⟩) b b, .slice none 0 0] 56 (0, 0)) ∧ w'.heap[w.heap.size]? = some (.cells #[.int .i64 (b : Int), .int .i64 (l : Int), .int .i64 (n : Int)] 29 (0, 0)) ∧ w'.heap[PB]? = some (.cells #[.int .i64 (im : Int), .int .i64 (bm : Int), .int .i64 (mb : Int), .int .i64 (tb : Int), .int .i64 (tn : Int), .int .i64 (D : Int), .int .i64 dn] 36 (0, 0))) X8) := ⟨HK8d.out.dv, HK8d.out.g0, HK8d.out.pb⟩
  refine held_take 0 (.pointer (some ⟨p, 0, none⟩)) rfl (by kernel_rfl) (by kernel_rfl) (by kernel_rfl) (fun _ _ _ h => h) (.inl ⟨by kernel_rfl, fun w' hw' => by go_simp⟩) HS.out ?_
  go_simp
  refine held_take 1 (.pointer (some ⟨PB, 1, none⟩)) rfl (by kernel_rfl) (by kernel_rfl) (by kernel_rfl) (fun _ _ _ h => h) (.inl ⟨by kernel_rfl, fun w' hw' => by go_simp⟩) HS.out ?_
  go_simp
  refine held_take 2 (.int .i64 (bm : Int)) rfl (by kernel_rfl) (by kernel_rfl) (by kernel_rfl) (fun _ _ _ h => h) (.inl ⟨by kernel_rfl, fun w' hw' => by obtain ⟨h4, h5, h6, h7, h8, h9, h10⟩ := seven hw'.2.2; go_simp⟩) HS.out ?_
  go_simp
  refine held_take 3 (.agg #[.int .i64 (b : Int), .int .i64 (l : Int), .int .i64 (n : Int)]) rfl (by kernel_rfl) (by kernel_rfl) (by kernel_rfl) (fun _ _ _ h => h) (.inl ⟨by kernel_rfl, fun w' hw' => by obtain ⟨h4, h5, h6⟩ := trio hw'.2.1; go_simp⟩) HS.out ?_
  go_simp
  refine held_take 4 (.agg #[.int .i64 (im : Int), .int .i64 (bm : Int), .int .i64 (mb : Int), .int .i64 (tb : Int), .int .i64 (tn : Int), .int .i64 (D : Int), .int .i64 dn]) rfl (by kernel_rfl) (by kernel_rfl) (by kernel_rfl) (fun _ _ _ h => h) (.inl ⟨by kernel_rfl, fun w' hw' => by obtain ⟨h4, h5, h6, h7, h8, h9, h10⟩ := seven hw'.2.2; go_simp⟩) HS.out ?_
  go_simp
  refine held_one 5 rfl rfl (by kernel_rfl) ?_
  refine wp_enter 28 #[geoV b l n, plV im bm mb tb tn D dn] (by first | kernel_rfl | go_simp) (newBlockMap_calls X8 b mb D l n im bm tb tn dn HQ.out.2.2.2.2.2.2.1 HQ.out.2.2.2.2.2.1 (by have := HQ.out; omega) HQ.out.2.2.2.2.2.2.2) ?_
  rintro e Y8 ⟨gM, rfl, hO, hc⟩
  have HK8y : Hid (Mk w Y8 PB gD p b l n im bm mb tb tn D dn (D8.map (Value.int .u8))) := HK8d.out.chg hc
  have HS : Hid ((fun w' : World => w'.heap[p]? = some (.cells #[.slice (some ⟨gD, 0, none⟩) b b, .slice none 0 0] 56 (0, 0)) ∧ w'.heap[w.heap.size]? = some (.cells #[.int .i64 (b : Int), .int .i64 (l : Int), .int .i64 (n : Int)] 29 (0, 0)) ∧ w'.heap[PB]? = some (.cells #[.int .i64 (im : Int), .int .i64 (bm : Int), .int .i64 (mb : Int), .int .i64 (tb : Int), .int .i64 (tn : Int), .int .i64 (D : Int), .int .i64 dn] 36 (0, 0))) Y8) := ⟨HK8y.out.dv, HK8y.out.g0, HK8y.out.pb⟩
  have hgM := (hO.lt gM rfl).1
  have HgM : Hid (gM ≠ gD) := by show gM ≠ gD; have := HK8d.out.lt; have := HK8d.out.lo; omega
  have hys8 : (blkMap mb D b).length = 64 * mb := blkMap_len HQ.out.2.2.2.2.2.2.1 (by have := HQ.out; omega) HQ.out.2.2.2.2.2.2.2
  have HV : Hid (∀ i, i < (blkMap mb D b).length → Y8.cell? ⟨gM, 0 + i, none⟩ = some (.int .u8 ((blkMap mb D b).getD i 0))) := fun i hi => by rw [Nat.zero_add]; exact View.cellAt' (hO.view (by have := HQ.out; omega) (hi := Y8.heap.size) (fun g hg => (hO.lt g hg).2)) i hi
  clear HK8d hc hO hgM hys8
  refine ⟨_, rfl, HS.out, ?_⟩
  go_simp
  refine held_one 6 rfl rfl (by kernel_rfl) ?_
  refine wp_enter 26 #[.pointer (some ⟨p, 0, none⟩), .int .i64 (bm : Int), .slice (some ⟨gM, 0, none⟩) (64 * mb) (64 * mb)] (by first | kernel_rfl | go_simp) (lay_calls Y8 p gD b bm gM 0 (64 * mb) mb (.slice none 0 0) (D8.map (Value.int .u8)) (blkMap mb D b) (by have := HQ.out; omega) (by have := HQ.out; omega) hbn (by have := HQ.out; omega) (by rw [List.length_map]; exact HL8.out) (Nat.le_refl _) (by have := HQ.out; omega) (blkMap_len HQ.out.2.2.2.2.2.2.1 (by have := HQ.out; omega) HQ.out.2.2.2.2.2.2.2) HK8y.out.dv HK8y.out.dr (by have := HK8y.out.lo; omega) HgM.out HV.out) ?_
  rintro e W9 ⟨rfl, hh, hc⟩
  rw [splice_mapI] at hh
  have HK9 : Hid (Mk w W9 PB gD p b l n im bm mb tb tn D dn ((splice D8 (bm * 64) (blkMap mb D b)).map (Value.int .u8))) := HK8y.out.put hc hh
  have HL9 : Hid ((splice D8 (bm * 64) (blkMap mb D b)).length = b * 64) := splice_lenI (by rw [blkMap_len HQ.out.2.2.2.2.2.2.1 (by have := HQ.out; omega) HQ.out.2.2.2.2.2.2.2, HL8.out]; have := HQ.out; omega) HL8.out
  have HS' : Hid ((fun w' : World => w'.heap[p]? = some (.cells #[.slice (some ⟨gD, 0, none⟩) b b, .slice none 0 0] 56 (0, 0)) ∧ w'.heap[w.heap.size]? = some (.cells #[.int .i64 (b : Int), .int .i64 (l : Int), .int .i64 (n : Int)] 29 (0, 0)) ∧ w'.heap[PB]? = some (.cells #[.int .i64 (im : Int), .int .i64 (bm : Int), .int .i64 (mb : Int), .int .i64 (tb : Int), .int .i64 (tn : Int), .int .i64 (D : Int), .int .i64 dn] 36 (0, 0))) W9) := ⟨HK9.out.dv, HK9.out.g0, HK9.out.pb⟩
  clear hh hc HS HK8y HL8 HV HgM
  refine ⟨_, rfl, HS'.out, ?_⟩
  clear HS'
  obtain ⟨D9, hD9⟩ : ∃ d, d = splice D8 (bm * 64) (blkMap mb D b) := ⟨_, rfl⟩
  rw [← hD9] at HK9 HL9
  have HD9 : Hid (D9 = splice D8 (bm * 64) (blkMap mb D b)) := hD9
  clear hD9
  refine held_done (by kernel_rfl) (NoPanic.normal ?_)
  go_upto_region 9 with fail
  -- region 9
  have HK9d : Hid (Mk w W9.drew PB gD p b l n im bm mb tb tn D dn (D9.map (Value.int .u8))) := HK9.out.chg (Chg.drew (Chg.refl 0 0 W9))
  clear HK9
  refine held_region (fun w' : World => w'.heap[p]? = some (.cells #[.slice (some ⟨gD, 0, none⟩) b b, .slice none 0 0] 56 (0, 0)) ∧ w'.heap[w.heap.size]? = some (.cells #[.int .i64 (b : Int), .int .i64 (l : Int), .int .i64 (n : Int)] 29 (0, 0)) ∧ w'.heap[PB]? = some (.cells #[.int .i64 (im : Int), .int .i64 (bm : Int), .int .i64 (mb : Int), .int .i64 (tb : Int), .int .i64 (tn : Int), .int .i64 (D : Int), .int .i64 dn] 36 (0, 0))) hmx ?_
  generalize W9.drew = X9 at *
  have HS : Hid ((fun w' : World => w'.heap[p]? = some (.cells #[.slice (some ⟨gD, 0, none⟩) b b, .slice none 0 0] 56 (0, 0)) ∧ w'.heap[w.heap.size]? = some (.cells #[.int .i64 (b : Int), .int .i64 (l : Int), .int .i64 (n : Int)] 29 (0, 0)) ∧ w'.heap[PB]? = some (.cells #[.int .i64 (im : Int), .int .i64 (bm : Int), .int .i64 (mb : Int), .int .i64 (tb : Int), .int .i64 (tn : Int), .int .i64 (D : Int), .int .i64 dn] 36 (0, 0))) X9) := ⟨HK9d.out.dv, HK9d.out.g0, HK9d.out.pb⟩
  refine held_take 0 (.pointer (some ⟨p, 0, none⟩)) rfl (by kernel_rfl) (by kernel_rfl) (by kernel_rfl) (fun _ _ _ h => h) (.inl ⟨by kernel_rfl, fun w' hw' => by go_simp⟩) HS.out ?_
  go_simp
  refine held_take 1 (.pointer (some ⟨p, 0, none⟩)) rfl (by kernel_rfl) (by kernel_rfl) (by kernel_rfl) (fun _ _ _ h => h) (.inl ⟨by kernel_rfl, fun w' hw' => by go_simp⟩) HS.out ?_
  go_simp
  refine held_take 2 (.pointer (some ⟨p, 0, none⟩)) rfl (by kernel_rfl) (by kernel_rfl) (by kernel_rfl) (fun _ _ _ h => h) (.inl ⟨by kernel_rfl, fun w' hw' => by go_simp⟩) HS.out ?_
  go_simp
  refine held_take 3 (.slice (some ⟨gD, 0, none⟩) b b) rfl (by kernel_rfl) (by kernel_rfl) (by kernel_rfl) (fun _ _ _ h => h) (.inl ⟨by kernel_rfl, fun w' hw' => by obtain ⟨h4, h5⟩ := two_first hw'.1; go_simp⟩) HS.out ?_
  go_simp
  refine held_take 4 (.pointer (some ⟨PB, 3, none⟩)) rfl (by kernel_rfl) (by kernel_rfl) (by kernel_rfl) (fun _ _ _ h => h) (.inl ⟨by kernel_rfl, fun w' hw' => by go_simp⟩) HS.out ?_
  go_simp
  refine held_take 5 (.int .i64 (tb : Int)) rfl (by kernel_rfl) (by kernel_rfl) (by kernel_rfl) (fun _ _ _ h => h) (.inl ⟨by kernel_rfl, fun w' hw' => by obtain ⟨h4, h5, h6, h7, h8, h9, h10⟩ := seven hw'.2.2; go_simp⟩) HS.out ?_
  go_simp
  refine held_one 6 rfl rfl (by kernel_rfl) ?_
  refine wp_enter 29 #[] (by first | kernel_rfl | go_simp) (rootL_calls X9) ?_
  rintro e Y9 ⟨rfl, hc⟩
  have HK9Y9 : Hid (Mk w Y9 PB gD p b l n im bm mb tb tn D dn (D9.map (Value.int .u8))) := HK9d.out.chg hc
  have HS : Hid ((fun w' : World => w'.heap[p]? = some (.cells #[.slice (some ⟨gD, 0, none⟩) b b, .slice none 0 0] 56 (0, 0)) ∧ w'.heap[w.heap.size]? = some (.cells #[.int .i64 (b : Int), .int .i64 (l : Int), .int .i64 (n : Int)] 29 (0, 0)) ∧ w'.heap[PB]? = some (.cells #[.int .i64 (im : Int), .int .i64 (bm : Int), .int .i64 (mb : Int), .int .i64 (tb : Int), .int .i64 (tn : Int), .int .i64 (D : Int), .int .i64 dn] 36 (0, 0))) Y9) := ⟨HK9Y9.out.dv, HK9Y9.out.g0, HK9Y9.out.pb⟩
  clear HK9d hc
  have HK9d := HK9Y9
  clear HK9Y9
  refine ⟨_, rfl, HS.out, ?_⟩
  go_simp
  refine held_take 7 (.pointer (some ⟨gD, tb * 64, none⟩)) rfl (by kernel_rfl) (by kernel_rfl) (by kernel_rfl) (fun _ _ _ h => h) (.inl ⟨by kernel_rfl, fun w' hw' => by go_simp⟩) HS.out ?_
  go_simp
  refine held_one 8 rfl rfl (by kernel_rfl) ?_
  have hfit9 : tb * 64 + (rootL.map (Value.int .u8)).length ≤ (D9.map (Value.int .u8)).length := by rw [List.length_map, List.length_map, rootL_len, HL9.out]; have := HQ.out; omega
  refine wp_store_mid 58 (.tmp 53) (.tmp 52) rfl gD (tb * 64) (rootL.map (Value.int .u8)).toArray (by first | rfl | go_simp) rfl (there_sub (row_there HK9d.out.dr) (by simpa using hfit9)) (by rw [List.size_toArray, List.length_map, rootL_len]; kernel_rfl) (all_oneCell_toArray (ints_oneCell _ _)) ?_
  have hh := heap_setCells gD 58 (rootL.map (Value.int .u8)) (tb * 64) Y9 _ HK9d.out.dr hfit9
  rw [splice_mapI] at hh
  have HK10 : Hid (Mk w (Y9.setCells gD (tb * 64) (rootL.map (Value.int .u8))) PB gD p b l n im bm mb tb tn D dn ((splice D9 (tb * 64) rootL).map (Value.int .u8))) := HK9d.out.put (Chg.setCells gD _ _ Y9) hh
  have HL10 : Hid ((splice D9 (tb * 64) rootL).length = b * 64) := splice_lenI (by simpa using hfit9) HL9.out
  clear hh HS HK9d HL9 hfit9
  refine ⟨⟨HK10.out.dv, HK10.out.g0, HK10.out.pb⟩, ?_⟩
  show wpAnyH _ _ _ _ _ 0 _ _ (Y9.setCells gD (tb * 64) (rootL.map (Value.int .u8)))
  generalize Y9.setCells gD (tb * 64) (rootL.map (Value.int .u8)) = W10 at *
  obtain ⟨D10, hD10⟩ : ∃ d, d = splice D9 (tb * 64) rootL := ⟨_, rfl⟩
  rw [← hD10] at HK10 HL10
  have HD10 : Hid (D10 = splice D9 (tb * 64) rootL) := hD10
  clear hD10
  refine held_done (by kernel_rfl) (NoPanic.normal ?_)
  have HF : Hid (D10 = mkDur b l n im bm mb tb D) := by show _ = _; unfold mkDur; rw [HD10.out, HD9.out, HD8.out, HD7.out, HD6.out, HD5.out]
  have hdev : Hid (Dev W10 w.heap.size p ⟨D10, []⟩) := by
    have k10 := HK10.out
    have el : D10.length / 64 = b := by rw [HL10.out]; omega
    refine ⟨gD, .slice none 0 0, ⟨by show D10.length % 64 = 0; rw [HL10.out]; omega, by show 1 ≤ D10.length / 64; omega, by show D10.length / 64 ≤ 2048; omega, by simp, by simp⟩, by have := k10.lo; omega, by show _ = some (Obj.cells #[.slice _ (D10.length / 64) (D10.length / 64), _] _ _); rw [el]; exact k10.dv, ?_, World.ownsRow_nil _ _ _ _⟩
    show W10.ownsRow _ _ _ (.slice _ (D10.length / 64) (D10.length / 64)) (D10.length / 64) _
    rw [el]
    refine ⟨by rw [List.length_map, HL10.out], Or.inr ⟨gD, b, _, rfl, by have := k10.lo; omega, k10.dr, Nat.le_refl _, by unfold maxLen; omega, by rw [List.size_toArray, List.length_map, HL10.out], by rw [List.take_of_length_le (by rw [List.length_map, HL10.out]; exact Nat.le_refl _)]⟩⟩
  have Hr0 := HK10.out.r0
  have HC10 : Hid (Chg 0 0 w W10) := HK10.out.ch
  have hlt10 : w.heap.size + 1 < W10.heap.size := (Array.getElem?_eq_some_iff.1 Hr0).1
  clear HK10 HL10
  go_wp2_with fail
  refine (disk_empty _ hdev.out rfl).mono ?_
  rintro e wd ⟨v, rfl, od, hd⟩
  have sd := hd.size
  have B1 := (hd.block (w.heap.size + 1) (by omega) (by omega)).trans Hr0
  obtain ⟨y0, y1, yf0, yf1⟩ := two_cells B1
  have hDD := HC10.out.trans hd
  obtain ⟨a1, l1, c1, a1', l1', c1', rfl⟩ := od.agg
  have HC : Hid (Chg 0 0 w ((wd.setCell ⟨w.heap.size + 1, 0, none⟩ (.slice a1 l1 c1)).setCell ⟨w.heap.size + 1, 1, none⟩ (.slice a1' l1' c1'))) := hDD.step (Chg.set2 _ _ _ _) (by omega)
  have HO : Hid (OwnD ((wd.setCell ⟨w.heap.size + 1, 0, none⟩ (.slice a1 l1 c1)).setCell ⟨w.heap.size + 1, 1, none⟩ (.slice a1' l1' c1')) W10.heap.size wd.heap.size 105 5 (.agg #[.slice a1 l1 c1, .slice a1' l1' c1']) ⟨D10, []⟩) := od.chg (Chg.set2 _ _ _ _) (by omega)
  have HSz : Hid (((wd.setCell ⟨w.heap.size + 1, 0, none⟩ (.slice a1 l1 c1)).setCell ⟨w.heap.size + 1, 1, none⟩ (.slice a1' l1' c1')).heap.size = wd.heap.size) := by show _ = _; simp [World.setCell]
  clear hd hDD od B1 hdev Hr0
  go_wp2
  refine bodyPost_ret (v := .agg #[.slice a1 l1 c1, .slice a1' l1' c1']) (by simp [results, Tryd.results6, go_sem, y0, y1]) rfl ⟨_, rfl, ?_, HC.out⟩
  rw [← HF.out, HSz.out]; exact HO.out.lower (by omega)

end Go.Proofs.YtmfkgnifkkkkiaaDoor
