/- readInode of the program. -/
import Derived.Test.YtedjnnfaahkppaaInoDec
import Derived.Test.YtedjnnfaahkppaaRowZ
import Derived.Test.YtedjnnfaahkppaaInoIs2
import Derived.Test.YtedjnnfaahkppaaArrEq
import Derived.Test.YtedjnnfaahkppaaHeld
import Derived.Deep.DeepCutAuto
namespace Go.Proofs.Ytedjnnfaahkppaa
open Go.RowKit

theorem gps_dir (xs : List Int) : gps (xs.drop 4) 8 = dirOf xs 8 := by
  unfold gps dirOf
  refine List.map_congr_left fun k _ => ?_
  unfold gpAt gp
  rw [List.drop_drop]
theorem nC_dir {i : Ino} (h : i.dir.length = 8) {ds : List Int} (hd : ds.length = 8) : splice (nC i) 3 (ds.map (Value.int .i64)) = nC { i with dir := ds } := by
  obtain ⟨k, l, z, dir, ind⟩ := i
  obtain ⟨a, b, c, d, e, f, g, j, rfl⟩ := eightI h
  obtain ⟨a', b', c', d', e', f', g', j', rfl⟩ := eightI hd
  rfl
/-- An inode that has come to be in a new block. -/
def InoNew (w0 W : World) : Prop := Chg 0 0 w0 W ∧ w0.heap.size < W.heap.size ∧ W.heap[w0.heap.size]? = some (.cells Z12.toArray 39 (0, 0))
theorem inoNew_alloc {w0 wa : World} (h : Same w0 wa) : InoNew w0 (wa.alloc (.cells Z12.toArray 39)) := by
  refine ⟨(h.chg 0 0).alloc _, by rw [World.size_alloc, h.heap]; omega, ?_⟩
  have := heap_new wa (.cells Z12.toArray 39)
  rw [h.heap] at this
  exact this
theorem inoB_len {xs : List Int} (h : xs.length = 32) : encIno (inoOf xs) = xs ↔ inoB (inoOf xs) = true ∧ inoL (inoOf xs) = xs := by
  unfold encIno
  cases hb : inoB (inoOf xs) with
  | true => simp
  | false =>
    rw [if_neg (by decide)]
    constructor
    · intro e; rw [← e] at h; cases h
    · intro e; cases e.1
theorem inoL_lenF {i : Ino} (h : Fits i) : (inoL i).length = 32 := by
  have hs := put2_size h.size
  have hd := putPs_len h.dir
  have hx := putPs_len (xs := [i.ind]) (fun x hx => by rw [List.mem_singleton.1 hx]; exact h.ind)
  have e1 : putPs [i.ind] = putN i.ind 2 := by unfold putPs; simp
  rw [e1] at hx
  rw [h.len] at hd
  unfold inoL
  rw [putAll_ps]
  simp [hs, hd, hx]
theorem inoL_byt {i : Ino} (h : inoB i = true) : Byt (inoL i) := by
  have := encIno_byt i
  unfold encIno at this
  rw [if_pos h] at this
  exact this


set_option maxRecDepth 20000 in
set_option maxHeartbeats 4000000 in
theorem readInode_calls (w : World) (xs : List Int) (h32 : xs.length = 32) (hB : Byt xs) :
    Calls Try.prog 15 #[.agg (xs.map (Value.int .u8)).toArray] w fun e w' => e = .returned (if inoG xs = true then .tuple #[.agg (nC (inoOf xs)).toArray, .bool true] else .tuple #[.agg Z12.toArray, .bool false]) ∧ Chg 0 0 w w' := by
  have u43 := Try.underlying43
  obtain ⟨vr, hvr⟩ : ∃ vr, vr = (if inoG xs = true then Value.tuple #[.agg (nC (inoOf xs)).toArray, .bool true] else .tuple #[.agg Z12.toArray, .bool false]) := ⟨_, rfl⟩
  rw [← hvr]
  have Hvr : Hid (vr = (if inoG xs = true then Value.tuple #[.agg (nC (inoOf xs)).toArray, .bool true] else .tuple #[.agg Z12.toArray, .bool false])) := hvr
  clear hvr
  have HV : Hid ((inoB (inoOf xs) = true ∧ inoL (inoOf xs) = xs → inoG xs = true) ∧ (¬ (inoB (inoOf xs) = true ∧ inoL (inoOf xs) = xs) → inoG xs = false)) := by
    refine ⟨fun h => ?_, fun h => ?_⟩
    · unfold inoG; rw [decide_eq_true h32, decide_eq_true ((inoB_len h32).2 h)]; rfl
    · unfold inoG; rw [decide_eq_true h32, decide_eq_false (fun e => h ((inoB_len h32).1 e))]; rfl
  have HI : Hid (inoOf xs = ⟨xs.getD 0 0, xs.getD 1 0, gp xs 2, dirOf xs 8, gp xs 20⟩) := rfl
  obtain ⟨K, hK⟩ : ∃ K, K = xs.getD 0 0 := ⟨_, rfl⟩
  obtain ⟨L, hL⟩ : ∃ L, L = xs.getD 1 0 := ⟨_, rfl⟩
  have hKb := hB.getD 0
  have hLb := hB.getD 1
  rw [← hK] at hKb
  rw [← hL] at hLb
  have hwK : IntKind.i64.wrap K = K := wrap_b hKb.1 (by omega)
  have hwL : IntKind.i64.wrap L = L := wrap_b hLb.1 (by omega)
  obtain ⟨cs, hcs⟩ : ∃ cs, cs = xs.map (Value.int .u8) := ⟨_, rfl⟩
  rw [← hcs]
  have Hcs : Hid (cs = xs.map (Value.int .u8)) := hcs
  have hcl : cs.length = 32 := by rw [hcs, List.length_map]; exact h32
  have hics : (Try.prog.info? 43).map (·.size) = some cs.length := by rw [hcl]; exact Try.sizeRec
  have hc0 : cs[0]? = some (.int .u8 K) := by rw [hcs, hK]; simp [List.getD_eq_getElem?_getD, show 0 < xs.length by omega]
  have hc1 : cs[1]? = some (.int .u8 L) := by rw [hcs, hL]; simp [List.getD_eq_getElem?_getD, show 1 < xs.length by omega]
  obtain ⟨z0, z1, z2⟩ := alloc2 w (.cells cs.toArray 43) (.cells Z12.toArray 39)
  have HC0 : Hid (Chg 0 0 w ((w.alloc (.cells cs.toArray 43)).alloc (.cells Z12.toArray 39))) := (Chg.alloc (Chg.refl 0 0 w) _).alloc _
  have HA0 : Hid (ArrC ((w.alloc (.cells cs.toArray 43)).alloc (.cells Z12.toArray 39)) w.heap.size 43 cs) := z1
  have HZ0 : Hid (ArrC ((w.alloc (.cells cs.toArray 43)).alloc (.cells Z12.toArray 39)) (w.heap.size + 1) 39 Z12) := z2
  have Hsz : Hid (((w.alloc (.cells cs.toArray 43)).alloc (.cells Z12.toArray 39)).heap.size = w.heap.size + 2) := z0
  have H32 : Hid (xs.length = 32) := h32
  have HBy : Hid (Byt xs) := hB
  have HGn : Hid (∀ W o c, o + 2 ≤ 32 → 2 ≤ c → ArrC W w.heap.size 43 cs → Calls Try.prog 24 #[.slice (some ⟨w.heap.size, o, none⟩) 2 c] W fun e w' => e = .returned (.int .i64 (gp xs o)) ∧ Same W w') := fun W o c ho hc h => by
    have h' : ArrC W w.heap.size 43 (xs.map (Value.int .u8)) := by rw [← hcs]; exact h
    exact implGet_calls W (hB.piece o 2) (row_view h' o 2 c (by omega) (by omega) hc)
  have HPs : Hid (∀ W (i : Ino), i.dir.length = 8 → ArrC W w.heap.size 43 cs → ArrC W (w.heap.size + 2) 39 (nC i) → Calls Try.prog 25 #[.slice (some ⟨w.heap.size, 4, none⟩) 28 28, .slice (some ⟨w.heap.size + 2, 3, none⟩) 8 8] W fun e w' => (∃ v, e = .returned v) ∧ ArrC w' (w.heap.size + 2) 39 (nC { i with dir := dirOf xs 8 }) ∧ Chg (w.heap.size + 2) (w.heap.size + 2 + 1) W w') := fun W i hi h hi2 => by
    have h' : ArrC W w.heap.size 43 (xs.map (Value.int .u8)) := by rw [← hcs]; exact h
    have hv := row_view h' 4 28 28 (by omega) (by omega) (by omega)
    have e28 : (xs.drop 4).length = 28 := by rw [List.length_drop]; omega
    rw [List.take_of_length_le (by omega)] at hv
    have hv2 : View W w.heap.size (w.heap.size + 1) .u8 (.slice (some ⟨w.heap.size, 4, none⟩) (xs.drop 4).length 28) (xs.drop 4) := by rw [e28]; exact hv
    have := getPointers_calls W (w.heap.size + 2) 3 8 8 39 (nC i) hi2 (xs.drop 4) w.heap.size (w.heap.size + 1) w.heap.size 4 28 (by omega) (fun x hx => hB x (List.mem_of_mem_drop hx)) (by omega) (by omega) (by omega) (by omega) (by omega) (by rw [nC_len hi]; omega) hv2
    rw [e28, gps_dir, nC_dir hi (dirOf_len xs 8)] at this
    exact this
  generalize hZZ : gp xs 2 = Z at *
  generalize hNN : gp xs 20 = NN at *
  have hN2 : ∀ W c, 2 ≤ c → ArrC W w.heap.size 43 cs → Calls Try.prog 24 #[.slice (some ⟨w.heap.size, 2, none⟩) 2 c] W fun e w' => e = .returned (.int .i64 Z) ∧ Same W w' := fun W c hc h => by rw [← hZZ]; exact HGn.out W 2 c (by omega) hc h
  have hN20 : ∀ W c, 2 ≤ c → ArrC W w.heap.size 43 cs → Calls Try.prog 24 #[.slice (some ⟨w.heap.size, 20, none⟩) 2 c] W fun e w' => e = .returned (.int .i64 NN) ∧ Same W w' := fun W c hc h => by rw [← hNN]; exact HGn.out W 20 c (by omega) hc h
  rw [← hK, ← hL] at HI
  have HG2 : Hid (∀ W c, 2 ≤ c → ArrC W w.heap.size 43 cs → Calls Try.prog 24 #[.slice (some ⟨w.heap.size, 2, none⟩) 2 c] W fun e w' => e = .returned (.int .i64 Z) ∧ Same W w') := hN2
  have HG20 : Hid (∀ W c, 2 ≤ c → ArrC W w.heap.size 43 cs → Calls Try.prog 24 #[.slice (some ⟨w.heap.size, 20, none⟩) 2 c] W fun e w' => e = .returned (.int .i64 NN) ∧ Same W w') := hN20
  clear hcs hcl z0 z1 z2 hB h32 HGn hK hL hZZ hNN hN2 hN20
  go_enter Try.func15, Try.ntmps15
  go_upto_region 1 with fail
  simp only [Z12_eq]
  generalize ((w.alloc (.cells cs.toArray 43)).alloc (.cells Z12.toArray 39)) = wv at *
  go_cut [4] (fun s4 wx => s4 = .pointer (some ⟨w.heap.size + 2, 0, none⟩) ∧ Chg 0 0 wv wx ∧ w.heap.size + 2 < wx.heap.size ∧ ArrC wx (w.heap.size + 2) 39 (nC ⟨K, L, Z, [0, 0, 0, 0, 0, 0, 0, 0], 0⟩))
  case first =>
      have HS : Hid ((fun w' : World => ArrC w' w.heap.size 43 cs) wv.drew) := ArrC.chg HA0.out (Chg.drew (Chg.refl 0 0 wv)) (by omega)
      have S0 : Same wv wv.drew := (Same.refl wv).drew
      refine held_region (fun w' : World => ArrC w' w.heap.size 43 cs) (by kernel_rfl) ?_
      generalize wv.drew = wd at *
      refine held_take 0 (.pointer (some ⟨w.heap.size, 0, none⟩)) rfl (by kernel_rfl) (by kernel_rfl) (by kernel_rfl) (fun _ _ _ h => h) (.inl ⟨by kernel_rfl, fun w' hw' => by go_simp⟩) HS.out ?_
      go_simp
      refine held_take 1 (.int .u8 K) rfl (by kernel_rfl) (by kernel_rfl) (by kernel_rfl) (fun _ _ _ h => h) (.inl ⟨by kernel_rfl, fun w' hw' => by have h1 := ArrC.cell hw' 0 hc0; go_simp⟩) HS.out ?_
      go_simp
      refine held_take 2 (.int .i64 K) rfl (by kernel_rfl) (by kernel_rfl) (by kernel_rfl) (fun _ _ _ h => h) (.inl ⟨by kernel_rfl, fun w' hw' => by go_simp⟩) HS.out ?_
      go_simp
      refine held_take 3 (.pointer (some ⟨w.heap.size, 1, none⟩)) rfl (by kernel_rfl) (by kernel_rfl) (by kernel_rfl) (fun _ _ _ h => h) (.inl ⟨by kernel_rfl, fun w' hw' => by go_simp⟩) HS.out ?_
      go_simp
      refine held_take 4 (.int .u8 L) rfl (by kernel_rfl) (by kernel_rfl) (by kernel_rfl) (fun _ _ _ h => h) (.inl ⟨by kernel_rfl, fun w' hw' => by have h1 := ArrC.cell hw' 1 hc1; go_simp⟩) HS.out ?_
      go_simp
      refine held_take 5 (.int .i64 L) rfl (by kernel_rfl) (by kernel_rfl) (by kernel_rfl) (fun _ _ _ h => h) (.inl ⟨by kernel_rfl, fun w' hw' => by go_simp⟩) HS.out ?_
      go_simp
      refine held_take 6 (.slice (some ⟨w.heap.size, 2, none⟩) 2 30) rfl (by kernel_rfl) (by kernel_rfl) (by kernel_rfl) (fun _ _ _ h => h) (.inl ⟨by kernel_rfl, fun w' hw' => by go_simp⟩) HS.out ?_
      go_simp
      refine held_two 7 9 rfl rfl rfl rfl (by kernel_rfl) ?_ ?_
      · refine wp_enter 24 #[.slice (some ⟨w.heap.size, 2, none⟩) 2 30] (by first | kernel_rfl | go_simp) (HG2.out wd 30 (by omega) HS.out) ?_
        rintro e wa ⟨rfl, twa⟩
        have HSwa : Hid ((fun w' : World => ArrC w' w.heap.size 43 cs) wa) := ArrC.chg HS.out (twa.chg 0 0) (by omega)
        refine ⟨_, rfl, HSwa.out, ?_⟩
        go_simp
        refine held_take 8 (.agg #[.int .i64 K, .int .i64 L, .int .i64 Z, .int .i64 0, .int .i64 0, .int .i64 0, .int .i64 0, .int .i64 0, .int .i64 0, .int .i64 0, .int .i64 0, .int .i64 0]) rfl (by kernel_rfl) (by kernel_rfl) (by kernel_rfl) (fun _ _ _ h => h) (.inl ⟨by kernel_rfl, fun w' hw' => by go_simp⟩) HSwa.out ?_
        go_simp
        have Fa : Same wv wa := S0.trans twa
        refine held_one 9 rfl rfl (by kernel_rfl) ?_
        have Gwb : InoNew wv (wa.alloc (.cells Z12.toArray 39)) := inoNew_alloc Fa
        have HSwb : Hid ((fun w' : World => ArrC w' w.heap.size 43 cs) (wa.alloc (.cells Z12.toArray 39))) := ArrC.chg HSwa.out (Chg.alloc (Chg.refl 0 0 wa) _) (by omega)
        have ewb : wa.heap.size = w.heap.size + 2 := by rw [Fa.heap]; exact Hsz.out
        go_simp
        simp only [Z12_eq]
        clear ewb
        generalize wa.alloc (.cells Z12.toArray 39) = wb at *
        refine ⟨HSwb.out, ?_⟩
        refine held_one 10 rfl rfl (by kernel_rfl) ?_
        refine wp_store_row 39 (.tmp 4) (.tmp 13) rfl rfl (w.heap.size + 2) rfl [.int .i64 K, .int .i64 L, .int .i64 Z, .int .i64 0, .int .i64 0, .int .i64 0, .int .i64 0, .int .i64 0, .int .i64 0, .int .i64 0, .int .i64 0, .int .i64 0] Z12 39 rfl (by rw [← Hsz.out]; exact Gwb.2.2) (by rw [Z12_length]; rfl) (by kernel_rfl) (by simp [Value.oneCell']) ?_
        intro wy hy cy
        have HSy : Hid ((fun w' : World => ArrC w' w.heap.size 43 cs) wy) := ArrC.chg HSwb.out cy (by omega)
        have HR : Hid (Chg 0 0 wv wy ∧ w.heap.size + 2 < wy.heap.size ∧ ArrC wy (w.heap.size + 2) 39 (nC ⟨K, L, Z, [0, 0, 0, 0, 0, 0, 0, 0], 0⟩)) := ⟨Gwb.1.step cy (by have := Hsz.out; omega), by have := cy.size; have := Gwb.2.1; have := Hsz.out; omega, hy⟩
        clear hy cy
        refine ⟨HSy.out, held_done (by kernel_rfl) (NoPanic.normal ?_)⟩
        go_wp2
        go_meet
        exact ⟨rfl, HR.out⟩
      · have Gwa : InoNew wv (wd.alloc (.cells Z12.toArray 39)) := inoNew_alloc S0
        have HSwa : Hid ((fun w' : World => ArrC w' w.heap.size 43 cs) (wd.alloc (.cells Z12.toArray 39))) := ArrC.chg HS.out (Chg.alloc (Chg.refl 0 0 wd) _) (by omega)
        have ewa : wd.heap.size = w.heap.size + 2 := by rw [S0.heap]; exact Hsz.out
        go_simp
        simp only [Z12_eq]
        clear ewa
        generalize wd.alloc (.cells Z12.toArray 39) = wa at *
        refine ⟨HSwa.out, ?_⟩
        refine held_one 7 rfl rfl (by kernel_rfl) ?_
        refine wp_enter 24 #[.slice (some ⟨w.heap.size, 2, none⟩) 2 30] (by first | kernel_rfl | go_simp) (HG2.out wa 30 (by omega) HSwa.out) ?_
        rintro e wb ⟨rfl, twb⟩
        have HSwb : Hid ((fun w' : World => ArrC w' w.heap.size 43 cs) wb) := ArrC.chg HSwa.out (twb.chg 0 0) (by omega)
        refine ⟨_, rfl, HSwb.out, ?_⟩
        go_simp
        refine held_take 8 (.agg #[.int .i64 K, .int .i64 L, .int .i64 Z, .int .i64 0, .int .i64 0, .int .i64 0, .int .i64 0, .int .i64 0, .int .i64 0, .int .i64 0, .int .i64 0, .int .i64 0]) rfl (by kernel_rfl) (by kernel_rfl) (by kernel_rfl) (fun _ _ _ h => h) (.inl ⟨by kernel_rfl, fun w' hw' => by go_simp⟩) HSwb.out ?_
        go_simp
        have Gwb : InoNew wv wb := ⟨Gwa.1.trans (twb.chg 0 0), by rw [twb.heap]; exact Gwa.2.1, by rw [twb.heap]; exact Gwa.2.2⟩
        refine held_one 10 rfl rfl (by kernel_rfl) ?_
        refine wp_store_row 39 (.tmp 4) (.tmp 13) rfl rfl (w.heap.size + 2) rfl [.int .i64 K, .int .i64 L, .int .i64 Z, .int .i64 0, .int .i64 0, .int .i64 0, .int .i64 0, .int .i64 0, .int .i64 0, .int .i64 0, .int .i64 0, .int .i64 0] Z12 39 rfl (by rw [← Hsz.out]; exact Gwb.2.2) (by rw [Z12_length]; rfl) (by kernel_rfl) (by simp [Value.oneCell']) ?_
        intro wy hy cy
        have HSy : Hid ((fun w' : World => ArrC w' w.heap.size 43 cs) wy) := ArrC.chg HSwb.out cy (by omega)
        have HR : Hid (Chg 0 0 wv wy ∧ w.heap.size + 2 < wy.heap.size ∧ ArrC wy (w.heap.size + 2) 39 (nC ⟨K, L, Z, [0, 0, 0, 0, 0, 0, 0, 0], 0⟩)) := ⟨Gwb.1.step cy (by have := Hsz.out; omega), by have := cy.size; have := Gwb.2.1; have := Hsz.out; omega, hy⟩
        clear hy cy
        refine ⟨HSy.out, held_done (by kernel_rfl) (NoPanic.normal ?_)⟩
        go_wp2
        go_meet
        exact ⟨rfl, HR.out⟩
  case rest =>
      obtain ⟨rfl, hcx, hsx, hbx⟩ := hcut
      generalize wc = wf at *
      have HA1 : Hid (ArrC wf w.heap.size 43 cs) := HA0.out.chg hcx (by omega)
      have HZ1 : Hid (ArrC wf (w.heap.size + 1) 39 Z12) := HZ0.out.chg hcx (by omega)
      have HC1 : Hid (Chg 0 0 w wf) := HC0.out.trans hcx
      have HE1 : Hid (ArrC wf (w.heap.size + 2) 39 (nC ⟨K, L, Z, [0, 0, 0, 0, 0, 0, 0, 0], 0⟩)) := hbx
      clear hcx hbx HA0 HZ0 HC0 HG2 Hsz hsx hc0 hc1
      go_upto_region 2 with fail
      have HSd : Hid ((fun w' : World => ArrC w' w.heap.size 43 cs) wf.drew) := ArrC.chg HA1.out (Chg.drew (Chg.refl 0 0 wf)) (by omega)
      have HEd : Hid (ArrC wf.drew (w.heap.size + 2) 39 (nC ⟨K, L, Z, [0, 0, 0, 0, 0, 0, 0, 0], 0⟩)) := HE1.out.chg (Chg.drew (Chg.refl 0 0 wf)) (by omega)
      have HZd : Hid (ArrC wf.drew (w.heap.size + 1) 39 Z12) := HZ1.out.chg (Chg.drew (Chg.refl 0 0 wf)) (by omega)
      have HCd : Hid (Chg 0 0 w wf.drew) := HC1.out.drew
      clear HA1 HE1 HZ1 HC1
      refine held_region (fun w' : World => ArrC w' w.heap.size 43 cs) (by kernel_rfl) ?_
      generalize wf.drew = wd at *
      refine held_take 0 (.slice (some ⟨w.heap.size, 4, none⟩) 28 28) rfl (by kernel_rfl) (by kernel_rfl) (by kernel_rfl) (fun _ _ _ h => h) (.inl ⟨by kernel_rfl, fun w' hw' => by go_simp⟩) HSd.out ?_
      go_simp
      refine held_take 1 (.pointer (some ⟨w.heap.size + 2, 3, none⟩)) rfl (by kernel_rfl) (by kernel_rfl) (by kernel_rfl) (fun _ _ _ h => h) (.inl ⟨by kernel_rfl, fun w' hw' => by go_simp⟩) HSd.out ?_
      go_simp
      refine held_take 2 (.slice (some ⟨w.heap.size + 2, 3, none⟩) 8 8) rfl (by kernel_rfl) (by kernel_rfl) (by kernel_rfl) (fun _ _ _ h => h) (.inl ⟨by kernel_rfl, fun w' hw' => by go_simp⟩) HSd.out ?_
      go_simp
      refine held_one 3 rfl rfl (by kernel_rfl) ?_
      refine wp_enter 25 #[.slice (some ⟨w.heap.size, 4, none⟩) 28 28, .slice (some ⟨w.heap.size + 2, 3, none⟩) 8 8] (by first | kernel_rfl | go_simp) (HPs.out wd _ rfl HSd.out HEd.out) ?_
      rintro e wg ⟨⟨v, rfl⟩, hE2, cg⟩
      have HS2 : Hid ((fun w' : World => ArrC w' w.heap.size 43 cs) wg) := ArrC.chg HSd.out cg (by omega)
      have HZ2 : Hid (ArrC wg (w.heap.size + 1) 39 Z12) := HZd.out.chg cg (by omega)
      have HC2 : Hid (Chg 0 0 w wg) := HCd.out.step cg (by omega)
      have HE2 : Hid (ArrC wg (w.heap.size + 2) 39 (nC ⟨K, L, Z, dirOf xs 8, 0⟩)) := hE2
      refine ⟨_, rfl, HS2.out, ?_⟩
      clear hE2 cg HSd HEd HZd HCd HPs
      go_simp
      refine held_done (by kernel_rfl) (NoPanic.normal ?_)
      have hd8 := dirOf_len xs 8
      have hN := HG20.out wg 12 (by omega) HS2.out
      clear HG20
      go_wp2_with (go_at_call 24; refine hN.mono ?_; clear hN; rintro e wh ⟨rfl, twh⟩; have ch := twh.chg 0 0; have hE2 := HE2.out.chg ch (by omega); have hS2 := HS2.out.chg ch (by omega); have hZ2 := HZ2.out.chg ch (by omega); have hC2 := HC2.out.trans ch; clear HE2 HS2 HZ2 HC2 ch; have hk11 := hE2.cell 11 (nC_i (i := ⟨K, L, Z, dirOf xs 8, 0⟩) hd8); have hf11 := hE2.frozen 11)
      have hE3 := hE2.put 11 (.int .i64 NN)
      rw [nC_seti (i := ⟨K, L, Z, dirOf xs 8, 0⟩) hd8] at hE3
      have C3 : Chg (w.heap.size + 2) (w.heap.size + 2 + 1) wh (wh.setCell ⟨w.heap.size + 2, 11, none⟩ (.int .i64 NN)) := Chg.setCell (Chg.refl _ _ _) (p := ⟨w.heap.size + 2, 11, none⟩) (Or.inl ⟨Nat.le_refl _, Nat.lt_succ_self _⟩) _
      obtain ⟨i, hI⟩ : ∃ i : Ino, i = ⟨K, L, Z, dirOf xs 8, NN⟩ := ⟨_, rfl⟩
      have HIi : Hid (inoOf xs = i) := by show _ = _; rw [HI.out, hI]
      have hid : i.dir.length = 8 := by rw [hI]; exact hd8
      have HE : Hid (ArrC (wh.setCell ⟨w.heap.size + 2, 11, none⟩ (.int .i64 NN)).drew (w.heap.size + 2) 39 (nC i)) := by rw [hI]; exact hE3
      have HA : Hid (ArrC (wh.setCell ⟨w.heap.size + 2, 11, none⟩ (.int .i64 NN)).drew w.heap.size 43 cs) := by have h := hS2.chg C3 (by omega); exact h
      have HZ : Hid (ArrC (wh.setCell ⟨w.heap.size + 2, 11, none⟩ (.int .i64 NN)).drew (w.heap.size + 1) 39 Z12) := by have h := hZ2.chg C3 (by omega); exact h
      have HC : Hid (Chg 0 0 w (wh.setCell ⟨w.heap.size + 2, 11, none⟩ (.int .i64 NN)).drew) := (hC2.step C3 (by omega)).drew
      clear hE3 hS2 hZ2 hC2 C3 hE2 hk11 hf11 hI twh hd8
      have hinc : (Try.prog.info? 39).map (·.size) = some (nC i).length := by rw [nC_len hid]; exact Try.sizeIno
      have u39 := Try.underlying39
      refine held_region (fun w' : World => ArrC w' w.heap.size 43 cs ∧ ArrC w' (w.heap.size + 2) 39 (nC i)) (by kernel_rfl) ?_
      generalize (wh.setCell ⟨w.heap.size + 2, 11, none⟩ (.int .i64 NN)).drew = x1 at *
      have HS : Hid ((fun w' : World => ArrC w' w.heap.size 43 cs ∧ ArrC w' (w.heap.size + 2) 39 (nC i)) x1) := ⟨HA.out, HE.out⟩
      clear HA HE
      refine held_take 0 (.agg (nC i).toArray) rfl (by kernel_rfl) (by kernel_rfl) (by kernel_rfl) (fun _ _ _ h => h) (yieldsIf_load_mid (by kernel_rfl) 39 (.tmp 4) rfl (w.heap.size + 2) 0 rfl (nC i) _ (fun w' hw' => ArrC.range hw'.2) u39 rfl hinc) HS.out ?_
      go_simp
      refine held_one 1 rfl rfl (by kernel_rfl) ?_
      refine wp_enter 26 #[.agg (nC i).toArray] (by first | kernel_rfl | go_simp) (isValid_calls x1 i hid) ?_
      rintro e x2 ⟨rfl, c2⟩
      have HS2 : Hid ((fun w' : World => ArrC w' w.heap.size 43 cs ∧ ArrC w' (w.heap.size + 2) 39 (nC i)) x2) := ⟨HS.out.1.chg c2 (by omega), HS.out.2.chg c2 (by omega)⟩
      have HC2 : Hid (Chg 0 0 w x2) := HC.out.trans c2
      have HZ2 : Hid (ArrC x2 (w.heap.size + 1) 39 Z12) := HZ.out.chg c2 (by omega)
      refine ⟨_, rfl, HS2.out, ?_⟩
      clear c2 HS HC HZ
      go_simp
      have HS := HS2
      have HC := HC2
      have HZ := HZ2
      clear HS2 HC2 HZ2
      cases hb : inoB i with
      | false =>
        have Hv : Hid (inoG xs = false) := HV.out.2 (fun h => by rw [HIi.out, hb] at h; cases h.1)
        clear hb
        refine held_take 2 (.bool true) rfl (by kernel_rfl) (by kernel_rfl) (by kernel_rfl) (fun _ _ _ h => h) (.inl ⟨by kernel_rfl, fun w' hw' => by go_simp⟩) HS.out ?_
        go_simp
        refine held_take 3 (.bool true) rfl (by kernel_rfl) (by kernel_rfl) (by kernel_rfl) (fun _ _ _ h => h) (.inl ⟨by kernel_rfl, fun w' hw' => by go_simp⟩) HS.out ?_
        go_simp
        refine held_take 4 undef rfl (by kernel_rfl) (by kernel_rfl) (by kernel_rfl) (fun _ _ _ h => h) (.inr ⟨by kernel_rfl, rfl⟩) HS.out ?_
        go_simp
        refine held_take 6 undef rfl (by kernel_rfl) (by kernel_rfl) (by kernel_rfl) (fun _ _ _ h => h) (.inr ⟨by kernel_rfl, rfl⟩) HS.out ?_
        go_simp
        refine held_take 5 undef rfl (by kernel_rfl) (by kernel_rfl) (by kernel_rfl) (fun _ _ _ h => h) (.inr ⟨by kernel_rfl, rfl⟩) HS.out ?_
        go_simp
        refine held_take 7 undef rfl (by kernel_rfl) (by kernel_rfl) (by kernel_rfl) (fun _ _ _ h => h) (.inr ⟨by kernel_rfl, rfl⟩) HS.out ?_
        go_simp
        refine held_take 8 (.bool true) rfl (by kernel_rfl) (by kernel_rfl) (by kernel_rfl) (fun _ _ _ h => h) (.inl ⟨by kernel_rfl, fun w' hw' => by go_simp⟩) HS.out ?_
        go_simp
        refine held_done (by kernel_rfl) (NoPanic.normal ?_)
        have hZ1 := HZ.out
        clear HS
        go_wp2_with (refine wpList_store_row rfl 39 (.tmp 2) (.tmp 30) rfl rfl (w.heap.size + 1) rfl Z12 Z12 39 (by rw [← Z12_eq]; rfl) hZ1 rfl (by rw [Z12_length]; exact Try.sizeIno) (by rw [Z12_ino]; exact nC_one _) ?_; intro wy hy cy)
        have hl1 : (loadVar 39 ⟨w.heap.size + 1, 0, none⟩).run Try.prog wy = .ok (.agg Z12.toArray) wy := run_loadVar_mid wy (w.heap.size + 1) 0 39 Z12 _ (ArrC.range hy) u39 rfl (by rw [Z12_length]; exact Try.sizeIno)
        exact bodyPost_ret (v := .tuple #[.agg Z12.toArray, .bool false]) (results_ct Try.results15 rfl rfl hl1) rfl ⟨by rw [Hvr.out, Hv.out, if_neg (by simp)], HC.out.step cy (by omega)⟩
      | true =>
        have hf := Fits.of hb
        have hNe := fun x => encR_calls x i hf
        have hil := inoL_len hb
        have hEq := fun W => equal_bytes W 43 32 Try.underlying43 (xs := inoL i) (ys := xs) (inoL_byt hb) HBy.out hil H32.out
        rw [← Hcs.out] at hEq
        have hre : (inoL i).map (Value.int .u8) = recV i := rfl
        rw [hre] at hEq
        have HvT : Hid (decide (inoL i = xs) = true → inoG xs = true) := fun h => HV.out.1 (by rw [HIi.out]; exact ⟨hb, of_decide_eq_true h⟩)
        have HvF : Hid (decide (inoL i = xs) = false → inoG xs = false) := fun h => HV.out.2 (fun h' => by rw [HIi.out] at h'; exact of_decide_eq_false h h'.2)
        generalize decide (inoL i = xs) = D at *
        have HEq : Hid (∀ W : World, (Op.equalIn 10000 43 (.agg (recV i).toArray) (.agg cs.toArray)).run Try.prog W = .ok D W) := hEq
        generalize recV i = rs at *
        clear hb hf hil hEq hre
        refine held_take 2 (.bool false) rfl (by kernel_rfl) (by kernel_rfl) (by kernel_rfl) (fun _ _ _ h => h) (.inl ⟨by kernel_rfl, fun w' hw' => by go_simp⟩) HS.out ?_
        go_simp
        refine held_take 3 (.bool false) rfl (by kernel_rfl) (by kernel_rfl) (by kernel_rfl) (fun _ _ _ h => h) (.inl ⟨by kernel_rfl, fun w' hw' => by go_simp⟩) HS.out ?_
        go_simp
        refine held_take 4 (.agg (nC i).toArray) rfl (by kernel_rfl) (by kernel_rfl) (by kernel_rfl) (fun _ _ _ h => h) (yieldsIf_load_mid (by kernel_rfl) 39 (.tmp 4) rfl (w.heap.size + 2) 0 rfl (nC i) _ (fun w' hw' => ArrC.range hw'.2) u39 rfl hinc) HS.out ?_
        go_simp
        refine held_take 6 (.agg cs.toArray) rfl (by kernel_rfl) (by kernel_rfl) (by kernel_rfl) (fun _ _ _ h => h) (yieldsIf_load_mid (by kernel_rfl) 43 (.tmp 1) rfl w.heap.size 0 rfl cs _ (fun w' hw' => ArrC.range hw'.1) u43 rfl hics) HS.out ?_
        go_simp
        refine held_oneG 5 rfl (by kernel_rfl) (by kernel_rfl) ?_
        refine wp_enter 27 #[.agg (nC i).toArray] (by first | kernel_rfl | go_simp) (hNe x2) ?_
        rintro e x3 ⟨rfl, c3⟩
        have HS3 : Hid ((fun w' : World => ArrC w' w.heap.size 43 cs ∧ ArrC w' (w.heap.size + 2) 39 (nC i)) x3) := ⟨HS.out.1.chg c3 (by omega), HS.out.2.chg c3 (by omega)⟩
        have HC3 : Hid (Chg 0 0 w x3) := HC.out.trans c3
        have HZ3 : Hid (ArrC x3 (w.heap.size + 1) 39 Z12) := HZ.out.chg c3 (by omega)
        refine ⟨_, rfl, HS3.out, ?_⟩
        clear c3 HS HC HZ hNe
        have HS := HS3
        have HC := HC3
        have HZ := HZ3
        clear HS3 HC3 HZ3
        go_simp
        refine held_take 7 (.bool (!D)) rfl (by kernel_rfl) (by kernel_rfl) (by kernel_rfl) (fun _ _ _ h => h) (.inl ⟨by kernel_rfl, fun w' hw' => by have he := HEq.out w'; go_simp⟩) HS.out ?_
        go_simp
        cases D with
        | false =>
          refine held_take 8 (.bool true) rfl (by kernel_rfl) (by kernel_rfl) (by kernel_rfl) (fun _ _ _ h => h) (.inl ⟨by kernel_rfl, fun w' hw' => by go_simp⟩) HS.out ?_
          go_simp
          refine held_done (by kernel_rfl) (NoPanic.normal ?_)
          have Hv : Hid (inoG xs = false) := HvF.out rfl
          have hZ1 := HZ.out
          clear HS
          go_wp2_with (refine wpList_store_row rfl 39 (.tmp 2) (.tmp 30) rfl rfl (w.heap.size + 1) rfl Z12 Z12 39 (by rw [← Z12_eq]; rfl) hZ1 rfl (by rw [Z12_length]; exact Try.sizeIno) (by rw [Z12_ino]; exact nC_one _) ?_; intro wy hy cy)
          have hl1 : (loadVar 39 ⟨w.heap.size + 1, 0, none⟩).run Try.prog wy = .ok (.agg Z12.toArray) wy := run_loadVar_mid wy (w.heap.size + 1) 0 39 Z12 _ (ArrC.range hy) u39 rfl (by rw [Z12_length]; exact Try.sizeIno)
          exact bodyPost_ret (v := .tuple #[.agg Z12.toArray, .bool false]) (results_ct Try.results15 rfl rfl hl1) rfl ⟨by rw [Hvr.out, Hv.out, if_neg (by simp)], HC.out.step cy (by omega)⟩
        | true =>
          refine held_take 8 (.bool false) rfl (by kernel_rfl) (by kernel_rfl) (by kernel_rfl) (fun _ _ _ h => h) (.inl ⟨by kernel_rfl, fun w' hw' => by go_simp⟩) HS.out ?_
          go_simp
          refine held_done (by kernel_rfl) (NoPanic.normal ?_)
          have Hv : Hid (inoG xs = true) := HvT.out rfl
          have hZ1 := HZ.out
          have hE1 := HS.out.2
          clear HS
          go_wp2_with (first
            | (refine wpList_load_mid rfl 39 (.tmp 4) rfl (w.heap.size + 2) 0 rfl (nC i) _ (ArrC.range hE1) u39 rfl hinc ?_)
            | (refine wpList_store_row rfl 39 (.tmp 2) (.tmp 31) rfl rfl (w.heap.size + 1) rfl (nC i) Z12 39 rfl hZ1 (by rw [nC_len hid, Z12_length]) hinc (nC_one i) ?_; intro wy hy cy))
          have hl1 : (loadVar 39 ⟨w.heap.size + 1, 0, none⟩).run Try.prog wy = .ok (.agg (nC i).toArray) wy := run_loadVar_mid wy (w.heap.size + 1) 0 39 (nC i) _ (ArrC.range hy) u39 rfl hinc
          exact bodyPost_ret (v := .tuple #[.agg (nC i).toArray, .bool true]) (results_ct Try.results15 rfl rfl hl1) rfl ⟨by rw [Hvr.out, Hv.out, if_pos rfl, HIi.out], HC.out.step cy (by omega)⟩

end Go.Proofs.Ytedjnnfaahkppaa
