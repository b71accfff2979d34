/- Several short texts in one: FsSup, ViewStr, StrInj, L2Same, Mg, SpecBeg, GoodSeq, SpecHead, AppSeen. -/
import Derived.Test.YtmfkgnifkkkkiaaDoorGeoSpec
import Derived.Test.YtmfkgnifkkkkiaaDoorSteps
import Derived.Test.YtmfkgnifkkkkiaaDoorBytSeen
import Derived.Test.YtmfkgnifkkkkiaaDoorRows
import Derived.Test.YtmfkgnifkkkkiaaDoorMem
import Derived.Laws.BytesArg
import Derived.Lib.Bytes
import Derived.Deep.RegionWith
namespace Go.Proofs.YtmfkgnifkkkkiaaDoor
open Go.RowKit

/-- The superblock of the file system ahead of its sum; whole. -/
def fsA (b l n : Int) : List Int := [102, 115, 121, 115, 1, 0] ++ putN b 2 ++ putN l 2 ++ putN n 2 ++ List.replicate 48 0
def fsL (b l n : Int) : List Int := fsA b l n ++ putN (crcV (fsA b l n)) 4
def encSup (b l n : Int) : List Int := if geoB b l n = true then fsL b l n else []

theorem fsA_byt (b l n : Int) : Byt (fsA b l n) := by
  intro x hx
  unfold fsA at hx
  simp only [List.mem_append] at hx
  rcases hx with (((hx | hx) | hx) | hx) | hx
  · simp at hx; omega
  · exact putN_byt _ _ x hx
  · exact putN_byt _ _ x hx
  · exact putN_byt _ _ x hx
  · rw [List.eq_of_mem_replicate hx]; omega

theorem geo_in {b l n : Int} (h : geoB b l n = true) : GeoIn b l n := by
  by_cases h' : GeoIn b l n
  · exact h'
  · rw [geoB_out h'] at h; cases h

theorem fsA_len {b l n : Int} (h : GeoIn b l n) : (fsA b l n).length = 60 := by
  obtain ⟨h1, h2, h3, h4, h5, h6⟩ := h
  unfold fsA
  simp [pn2 (v := b) (by omega) (by omega), pn2 (v := l) (by omega) (by omega), pn2 (v := n) (by omega) (by omega)]

theorem fsL_len {b l n : Int} (h : GeoIn b l n) : (fsL b l n).length = 64 := by
  obtain ⟨h0, h1⟩ := crcV_range (fsA b l n)
  unfold fsL
  rw [List.length_append, fsA_len h, pn4 h0 h1]

set_option maxRecDepth 20000 in
set_option maxHeartbeats 4000000 in
theorem specEncSuper_calls (w : World) (b l n : Int) :
    Calls Tryd.prog 14 #[geoV b l n] w fun e w' => ∃ v, e = .returned v ∧ OwnB w' w.heap.size 5 v (encSup b l n) ∧ Chg 0 0 w w' := by
  have C0 : Chg 0 0 w (w.alloc (.cells #[.int .i64 b, .int .i64 l, .int .i64 n] 29)) := Chg.alloc (Chg.refl 0 0 w) _
  have B0 := heap_new w (.cells #[.int .i64 b, .int .i64 l, .int .i64 n] 29)
  have s0 : (w.alloc (.cells #[.int .i64 b, .int .i64 l, .int .i64 n] 29)).heap.size = w.heap.size + 1 := by simp
  have HB : Hid ((w.alloc (.cells #[.int .i64 b, .int .i64 l, .int .i64 n] 29)).heap[w.heap.size]? = some (.cells #[.int .i64 b, .int .i64 l, .int .i64 n] 29 (0, 0))) := B0
  have HC : Hid (Chg 0 0 w (w.alloc (.cells #[.int .i64 b, .int .i64 l, .int .i64 n] 29))) := C0
  have hN := specValidGeometry_calls (w.alloc (.cells #[.int .i64 b, .int .i64 l, .int .i64 n] 29)) b l n
  clear C0 B0
  go_enter Tryd.func14, Tryd.ntmps14
  go_wp2_with fail
  generalize w.alloc (.cells #[.int .i64 b, .int .i64 l, .int .i64 n] 29) = w0 at *
  refine hN.mono ?_
  rintro e w1 ⟨rfl, h1⟩
  have HC1 : Hid (Chg 0 0 w w1) := HC.out.trans h1
  have HB1 : Hid (w1.heap[w.heap.size]? = some (.cells #[.int .i64 b, .int .i64 l, .int .i64 n] 29 (0, 0))) := (h1.block _ (by omega) (by omega)).trans HB.out
  have s1 := h1.size
  clear h1 hN HB HC
  by_cases hv : geoB b l n = true
  case neg =>
    have HE : Hid (encSup b l n = []) := by show _ = _; unfold encSup; rw [if_neg hv]
    have HO : Hid (OwnB (w1.alloc (.cells #[] 5)) w.heap.size 5 (.slice (some ⟨w1.heap.size, 0, none⟩) 0 0) []) := OwnB.bnil w1 _ (by omega)
    have HCe : Hid (Chg 0 0 w (w1.alloc (.cells #[] 5))) := HC1.out.alloc _
    rw [Bool.not_eq_true] at hv
    rw [hv]
    clear hv
    go_wp2
    go_ret
    exact ⟨_, rfl, by rw [HE.out]; exact HO.out, HCe.out⟩
  have HE : Hid (encSup b l n = fsL b l n) := by show _ = _; unfold encSup; rw [if_pos hv]
  have hin := geo_in hv
  have HL60 : Hid ((fsA b l n).length = 60) := fsA_len hin
  have HBy : Hid (Byt (fsA b l n)) := fsA_byt b l n
  obtain ⟨g1, g2, g3, g4, g5, g6⟩ := hin
  have Hb2 : Hid ((putN b 2).length = 2) := pn2 (by omega) (by omega)
  have Hl2 : Hid ((putN l 2).length = 2) := pn2 (by omega) (by omega)
  have Hn2 : Hid ((putN n 2).length = 2) := pn2 (by omega) (by omega)
  have HA : Hid (fsA b l n = [102, 115, 121, 115, 1, 0] ++ putN b 2 ++ putN l 2 ++ putN n 2 ++ List.replicate 48 0) := rfl
  have HF : Hid (fsL b l n = fsA b l n ++ putN (crcV (fsA b l n)) 4) := rfl
  have hrow := World.ownsRow_lit (base := w.heap.size) (e := 5) (size := 1) w1 #[.int .u8 102, .int .u8 115, .int .u8 121, .int .u8 115, .int .u8 1, .int .u8 0] 6 (by omega) (by unfold maxLen; omega) rfl
  have HO2 : Hid (OwnB (w1.alloc (.cells #[.int .u8 102, .int .u8 115, .int .u8 121, .int .u8 115, .int .u8 1, .int .u8 0] 5)) w.heap.size 5 (.slice (some ⟨w1.heap.size, 0, none⟩) 6 6) [102, 115, 121, 115, 1, 0]) := by
    show OwnB _ _ _ _ _
    unfold OwnB
    simpa using hrow
  have Ca : Chg 0 0 w1 (w1.alloc (.cells #[.int .u8 102, .int .u8 115, .int .u8 121, .int .u8 115, .int .u8 1, .int .u8 0] 5)) := Chg.alloc (Chg.refl 0 0 w1) _
  have s2 : (w1.alloc (.cells #[.int .u8 102, .int .u8 115, .int .u8 121, .int .u8 115, .int .u8 1, .int .u8 0] 5)).heap.size = w1.heap.size + 1 := by simp
  have HC2 : Hid (Chg 0 0 w (w1.alloc (.cells #[.int .u8 102, .int .u8 115, .int .u8 121, .int .u8 115, .int .u8 1, .int .u8 0] 5))) := HC1.out.trans Ca
  have HB2 : Hid _ := (Ca.block _ (by omega) (by omega)).trans HB1.out
  obtain ⟨k0, k1, k2⟩ := geo3 HB2.out
  rw [hv]
  go_wp2_with fail
  generalize w1.alloc (.cells #[.int .u8 102, .int .u8 115, .int .u8 121, .int .u8 115, .int .u8 1, .int .u8 0] 5) = w2 at *
  obtain ⟨x2, Hx2⟩ : ∃ x : List Int, Hid (x = [102, 115, 121, 115, 1, 0]) := ⟨_, rfl⟩
  have Hy2 : Hid (x2.length = 6) := by show _ = _; rw [Hx2.out]; rfl
  have HP2 : Hid (OwnB w2 w.heap.size 5 (.slice (some ⟨w1.heap.size, 0, none⟩) 6 6) x2) := by rw [Hx2.out]; exact HO2.out
  have hbw : w.heap.size < w2.heap.size := by omega
  have hN3 := specPut_calls w2 b 2 (by omega)
  refine hN3.mono ?_
  rintro e w3 ⟨v3, rfl, o3, h3⟩
  have s3 := h3.size
  have v3' := o3.seen (by rw [Hb2.out]; omega)
  obtain ⟨g3, c3, rfl⟩ := o3.some_of (by rw [Hb2.out]; omega)
  rw [Hb2.out] at v3'
  have u3 := (HP2.out.seen (by rw [Hy2.out]; omega)).chg h3 (by omega)
  have HC3 : Hid _ := HC2.out.trans h3
  have HB3 : Hid _ := (h3.block _ (by omega) (by omega)).trans HB2.out
  have hJ := l2Join_any (xs := x2) (ys := putN b 2) w3 (by rw [Hy2.out]; omega) (by rw [Hb2.out]; omega) u3 v3'
  rw [Hb2.out]
  go_wp2_with fail
  refine hJ.mono ?_
  rintro e w4 ⟨v4, rfl, o4, h4⟩
  have s4 := h4.size
  obtain ⟨x4, hx4⟩ : ∃ x : List Int, x = x2 ++ putN b 2 := ⟨_, rfl⟩
  have Hx4 : Hid _ := hx4
  rw [← Hx4.out] at o4
  have Hy4 : Hid (x4.length = 8) := by show _ = _; rw [Hx4.out, List.length_append, Hy2.out, Hb2.out]
  have HC4 : Hid _ := HC3.out.trans h4
  have HB4 : Hid _ := (h4.block _ (by omega) (by omega)).trans HB3.out
  have HP4 : Hid (OwnB w4 w.heap.size 5 v4 x4) := o4.base (fun g hg => by have := (o4.lt g hg).1; omega)
  obtain ⟨g4, c4, rfl⟩ := o4.some_of (by rw [Hy4.out]; omega)
  rw [Hy4.out] at HP4
  rw [Hy4.out]
  obtain ⟨k0, k1, k2⟩ := geo3 HB4.out
  go_wp2_with fail
  have hN5 := specPut_calls w4 l 2 (by omega)
  refine hN5.mono ?_
  rintro e w5 ⟨v5, rfl, o5, h5⟩
  have s5 := h5.size
  have v5' := o5.seen (by rw [Hl2.out]; omega)
  obtain ⟨g5, c5, rfl⟩ := o5.some_of (by rw [Hl2.out]; omega)
  rw [Hl2.out] at v5'
  have u5 := (HP4.out.seen (by rw [Hy4.out]; omega)).chg h5 (by omega)
  have HC5 : Hid _ := HC4.out.trans h5
  have HB5 : Hid _ := (h5.block _ (by omega) (by omega)).trans HB4.out
  have hJ := l2Join_any (xs := x4) (ys := putN l 2) w5 (by rw [Hy4.out]; omega) (by rw [Hl2.out]; omega) u5 v5'
  rw [Hl2.out]
  go_wp2_with fail
  refine hJ.mono ?_
  rintro e w6 ⟨v6, rfl, o6, h6⟩
  have s6 := h6.size
  obtain ⟨x6, hx6⟩ : ∃ x : List Int, x = x4 ++ putN l 2 := ⟨_, rfl⟩
  have Hx6 : Hid _ := hx6
  rw [← Hx6.out] at o6
  have Hy6 : Hid (x6.length = 10) := by show _ = _; rw [Hx6.out, List.length_append, Hy4.out, Hl2.out]
  have HC6 : Hid _ := HC5.out.trans h6
  have HB6 : Hid _ := (h6.block _ (by omega) (by omega)).trans HB5.out
  have HP6 : Hid (OwnB w6 w.heap.size 5 v6 x6) := o6.base (fun g hg => by have := (o6.lt g hg).1; omega)
  obtain ⟨g6, c6, rfl⟩ := o6.some_of (by rw [Hy6.out]; omega)
  rw [Hy6.out] at HP6
  rw [Hy6.out]
  obtain ⟨k0, k1, k2⟩ := geo3 HB6.out
  go_wp2_with fail
  have hN7 := specPut_calls w6 n 2 (by omega)
  refine hN7.mono ?_
  rintro e w7 ⟨v7, rfl, o7, h7⟩
  have s7 := h7.size
  have v7' := o7.seen (by rw [Hn2.out]; omega)
  obtain ⟨g7, c7, rfl⟩ := o7.some_of (by rw [Hn2.out]; omega)
  rw [Hn2.out] at v7'
  have u7 := (HP6.out.seen (by rw [Hy6.out]; omega)).chg h7 (by omega)
  have HC7 : Hid _ := HC6.out.trans h7
  have HB7 : Hid _ := (h7.block _ (by omega) (by omega)).trans HB6.out
  have hJ := l2Join_any (xs := x6) (ys := putN n 2) w7 (by rw [Hy6.out]; omega) (by rw [Hn2.out]; omega) u7 v7'
  rw [Hn2.out]
  go_wp2_with fail
  refine hJ.mono ?_
  rintro e w8 ⟨v8, rfl, o8, h8⟩
  have s8 := h8.size
  obtain ⟨x8, hx8⟩ : ∃ x : List Int, x = x6 ++ putN n 2 := ⟨_, rfl⟩
  have Hx8 : Hid _ := hx8
  rw [← Hx8.out] at o8
  have Hy8 : Hid (x8.length = 12) := by show _ = _; rw [Hx8.out, List.length_append, Hy6.out, Hn2.out]
  have HC8 : Hid _ := HC7.out.trans h8
  have HB8 : Hid _ := (h8.block _ (by omega) (by omega)).trans HB7.out
  have HP8 : Hid (OwnB w8 w.heap.size 5 v8 x8) := o8.base (fun g hg => by have := (o8.lt g hg).1; omega)
  obtain ⟨g8, c8, rfl⟩ := o8.some_of (by rw [Hy8.out]; omega)
  rw [Hy8.out] at HP8
  rw [Hy8.out]
  go_wp2_with fail
  have Hz : Hid ((List.replicate 48 (0 : Int)).length = 48) := by show _ = _; rw [List.length_replicate]
  have hN9 := l2Zero_calls w8 48 (by omega)
  refine hN9.mono ?_
  rintro e w9 ⟨gz, rfl, o9, h9⟩
  have s9 := h9.size
  have v9' := o9.seen (by rw [Hz.out]; omega)
  have u9 := (HP8.out.seen (by rw [Hy8.out]; omega)).chg h9 (by omega)
  have HC9 : Hid _ := HC8.out.trans h9
  have HB9 : Hid _ := (h9.block _ (by omega) (by omega)).trans HB8.out
  have hJ := l2Join_any (xs := x8) (ys := (List.replicate 48 0)) w9 (by rw [Hy8.out]; omega) (by rw [Hz.out]; omega) u9 v9'
  go_wp2_with fail
  refine hJ.mono ?_
  rintro e w10 ⟨v10, rfl, o10, h10⟩
  have s10 := h10.size
  obtain ⟨x10, hx10⟩ : ∃ x : List Int, x = x8 ++ (List.replicate 48 0) := ⟨_, rfl⟩
  have Hx10 : Hid _ := hx10
  rw [← Hx10.out] at o10
  have Hy10 : Hid (x10.length = 60) := by show _ = _; rw [Hx10.out, List.length_append, Hy8.out, Hz.out]
  have HC10 : Hid _ := HC9.out.trans h10
  have HB10 : Hid _ := (h10.block _ (by omega) (by omega)).trans HB9.out
  have HP10 : Hid (OwnB w10 w.heap.size 5 v10 x10) := o10.base (fun g hg => by have := (o10.lt g hg).1; omega)
  obtain ⟨g10, c10, rfl⟩ := o10.some_of (by rw [Hy10.out]; omega)
  rw [Hy10.out] at HP10
  rw [Hy10.out]
  have HXA : Hid (x10 = fsA b l n) := by show _ = _; rw [HA.out, Hx10.out, Hx8.out, Hx6.out, Hx4.out, Hx2.out]
  have HY : Hid (Byt x10) := by rw [HXA.out]; exact HBy.out
  obtain ⟨hc0, hc1⟩ := crcV_range x10
  have Hc4 : Hid _ := pn4 hc0 hc1
  have hN := specCrc_calls w10 HY.out (HP10.out.seen (by rw [Hy10.out]; omega))
  have HE2 : Hid (encSup b l n = x10 ++ putN (crcV x10) 4) := by show _ = _; rw [HE.out, HF.out, HXA.out]
  generalize crcV x10 = cv at *
  go_wp2_with fail
  refine hN.mono ?_
  rintro e wq ⟨rfl, hq⟩
  subst wq
  go_wp2_with fail
  have hN11 := specPut_calls w10 cv 4 (by omega)
  refine hN11.mono ?_
  rintro e w11 ⟨v11, rfl, o11, h11⟩
  have s11 := h11.size
  have v11' := o11.seen (by rw [Hc4.out]; omega)
  obtain ⟨g11, c11, rfl⟩ := o11.some_of (by rw [Hc4.out]; omega)
  rw [Hc4.out] at v11'
  have u11 := (HP10.out.seen (by rw [Hy10.out]; omega)).chg h11 (by omega)
  have HC11 : Hid _ := HC10.out.trans h11
  have HB11 : Hid _ := (h11.block _ (by omega) (by omega)).trans HB10.out
  have hJ := l2Join_any (xs := x10) (ys := putN cv 4) w11 (by rw [Hy10.out]; omega) (by rw [Hc4.out]; omega) u11 v11'
  rw [Hc4.out]
  go_wp2_with fail
  refine hJ.mono ?_
  rintro e w12 ⟨v12, rfl, o12, h12⟩
  obtain ⟨x12, hx12⟩ : ∃ x : List Int, x = x10 ++ putN cv 4 := ⟨_, rfl⟩
  have Hx12 : Hid _ := hx12
  rw [← Hx12.out] at o12
  have Hy12 : Hid (x12.length = 64) := by show _ = _; rw [Hx12.out, List.length_append, Hy10.out, Hc4.out]
  have HC12 : Hid _ := HC11.out.trans h12
  have HP12 : Hid (OwnB w12 w.heap.size 5 v12 x12) := o12.base (fun g hg => by have := (o12.lt g hg).1; omega)
  obtain ⟨g12, c12, rfl⟩ := o12.some_of (by rw [Hy12.out]; omega)
  rw [Hy12.out] at HP12
  rw [Hy12.out]
  have HR : Hid (OwnB w12 w.heap.size 5 (.slice (some ⟨g12, 0, none⟩) 64 c12) (encSup b l n)) := by rw [HE2.out, ← Hx12.out]; exact HP12.out
  go_wp2
  go_ret
  exact ⟨_, rfl, HR.out, HC12.out⟩

theorem encSup_len (b l n : Int) : (encSup b l n).length ≤ 64 := by
  unfold encSup
  split
  · rename_i h; rw [fsL_len (geo_in h)]; exact Nat.le_refl _
  · simp

end Go.Proofs.YtmfkgnifkkkkiaaDoor

namespace Go.Proofs.YtmfkgnifkkkkiaaDoor
open Go.RowKit

/-- Bytes as a string. -/
theorem View.str {w : World} {lo hi : Nat} {v : Value} {xs : List Int} (h : View w lo hi .u8 v xs) : (convert 24 9 v).run Tryd.prog w = .ok (.string (strOfNums xs)) w := by
  obtain ⟨ao, cap, rfl, _, _, hcell⟩ := h
  cases ao with
  | none =>
    rcases hcell with rfl | ⟨b, off, e, _⟩
    · exact run_convert_bytes_nil w 24 5 Tryd.underlying24 Tryd.underlying5 0 cap 9 Tryd.underlying9
    · cases e
  | some a =>
    have hl : (loadCells a xs.length).run Tryd.prog w = .ok (xs.map (Value.int .u8)).toArray w := by
      have := run_loadCells_list (P := Tryd.prog) w a (xs.map (Value.int .u8)) (fun j v hj => by
        have hjl : j < xs.length := by have := (List.getElem?_eq_some_iff.1 hj).1; simpa using this
        rcases hcell with rfl | ⟨b, off, e, _, _, hc⟩
        · simp at hjl
        · cases e
          rw [Go.WideShapes.add_plain, hc j hjl, ← hj]
          simp [List.getD_eq_getElem?_getD, hjl])
      simpa using this
    rw [run_convert_bytes_string w 24 9 5 _ _ _ Tryd.underlying24 Tryd.underlying5 Tryd.underlying9, run_bytesToString w _ _ _ xs hl, foldl_push_bytes]
    simp [strOfNums, ByteArray.empty, ByteArray.emptyWithCapacity]
    rfl

theorem View.take {w : World} {lo hi : Nat} {k : IntKind} {ao : Option Addr} {n cap : Nat} {xs : List Int} (h : View w lo hi k (.slice ao n cap) xs) (m : Nat) (hm : m ≤ xs.length) : View w lo hi k (.slice ao m cap) (xs.take m) := by
  obtain ⟨ao', cap', e, hl, ⟨hc, hc'⟩, h⟩ := h
  cases e
  have hlen : (xs.take m).length = m := by rw [List.length_take]; omega
  refine ⟨ao, cap, by rw [hlen], by omega, ⟨by omega, hc'⟩, ?_⟩
  rcases h with h | ⟨b, off, ha, h1, h2, h3⟩
  · left; rw [h]; simp
  · refine Or.inr ⟨b, off, ha, h1, h2, fun i hi => ?_⟩
    rw [hlen] at hi
    have e : (xs.take m).getD i 0 = xs.getD i 0 := by
      simp only [List.getD_eq_getElem?_getD, List.getElem?_take]
      rw [if_pos hi]
    rw [e]
    exact h3 i (by omega)

end Go.Proofs.YtmfkgnifkkkkiaaDoor

namespace Go.Proofs.YtmfkgnifkkkkiaaDoor
open Go.RowKit

theorem str_inj {xs ys : List Int} (hx : Byt xs) (hy : Byt ys) (h1 : (xs.map fun n => UInt8.ofNat n.toNat) = ys.map fun n => UInt8.ofNat n.toNat) : xs = ys := by
  induction xs generalizing ys with
  | nil => cases ys with
    | nil => rfl
    | cons y r => simp at h1
  | cons x r ih =>
    cases ys with
    | nil => simp at h1
    | cons y s =>
      simp only [List.map_cons, List.cons.injEq] at h1
      have hx0 := hx x (by simp)
      have hy0 := hy y (by simp)
      have e : x = y := by
        have := congrArg UInt8.toNat h1.1
        simp only [UInt8.toNat_ofNat'] at this
        omega
      rw [e, ih (fun a ha => hx a (by simp [ha])) (fun a ha => hy a (by simp [ha])) h1.2]

theorem str_beq {xs ys : List Int} (hx : Byt xs) (hy : Byt ys) : ((strOfNums xs).toList == (strOfNums ys).toList) = decide (xs = ys) := by
  rw [Go.Lib.strOfNums_toList, Go.Lib.strOfNums_toList]
  by_cases h : xs = ys
  · subst h; rw [decide_eq_true rfl]; exact beq_self_eq_true _
  · rw [decide_eq_false h, beq_eq_false_iff_ne]
    exact fun e => h (str_inj hx hy e)

end Go.Proofs.YtmfkgnifkkkkiaaDoor

namespace Go.Proofs.YtmfkgnifkkkkiaaDoor
open Go.RowKit

end Go.Proofs.YtmfkgnifkkkkiaaDoor

namespace Go.Proofs.YtmfkgnifkkkkiaaDoor
open Go.RowKit

/-- The magic. -/
def mg : List Int := [106, 108, 111, 103]

theorem byt_mg : Byt mg := by intro x hx; simp [mg] at hx; omega

end Go.Proofs.YtmfkgnifkkkkiaaDoor

namespace Go.Proofs.YtmfkgnifkkkkiaaDoor
open Go.RowKit

set_option maxRecDepth 20000 in
set_option maxHeartbeats 400000 in
theorem l3Magic_calls (w : World) : Calls Tryd.prog 60 #[] w fun e w' => e = .returned (.slice (some ⟨w.heap.size, 0, none⟩) 4 4) ∧ OwnB w' w.heap.size 5 (.slice (some ⟨w.heap.size, 0, none⟩) 4 4) mg ∧ Chg 0 0 w w' := by
  have HO : Hid (OwnB (w.alloc (.cells #[.int .u8 106, .int .u8 108, .int .u8 111, .int .u8 103] 5)) w.heap.size 5 (.slice (some ⟨w.heap.size, 0, none⟩) 4 4) mg) := by
    show OwnB _ _ _ _ _
    have := World.ownsRow_lit (base := w.heap.size) (e := 5) (size := 1) w #[.int .u8 106, .int .u8 108, .int .u8 111, .int .u8 103] 4 (Nat.le_refl _) (by unfold maxLen; omega) rfl
    simpa [OwnB, mg] using this
  have HC : Hid (Chg 0 0 w (w.alloc (.cells #[.int .u8 106, .int .u8 108, .int .u8 111, .int .u8 103] 5))) := Chg.alloc (Chg.refl 0 0 w) _
  go_enter Tryd.func60, Tryd.ntmps60
  go_wp2
  go_ret
  exact ⟨rfl, HO.out, HC.out⟩

/-- Do bytes begin with the magic? -/
def beg (xs : List Int) : Bool := decide (4 ≤ xs.length) && decide (xs.take 4 = mg)

end Go.Proofs.YtmfkgnifkkkkiaaDoor

namespace Go.Proofs.YtmfkgnifkkkkiaaDoor
open Go.RowKit

def goodSeq (q : Int) : Bool := decide (1 ≤ q) && decide (q ≤ 4294967295)

set_option maxHeartbeats 400000 in
theorem l3GoodSeq_calls (w : World) (q : Int) : Calls Tryd.prog 40 #[.int .i64 q] w fun e w' => e = .returned (.bool (goodSeq q)) ∧ w' = w := by
  by_cases h1 : 1 ≤ q
  · by_cases h2 : q ≤ 4294967295
    · have hg : goodSeq q = true := by unfold goodSeq; rw [decide_eq_true h1, decide_eq_true h2]; rfl
      rw [hg]
      go_enter Tryd.func40, Tryd.ntmps40
      go_wp2
      go_ret
      exact ⟨rfl, rfl⟩
    · have hg : goodSeq q = false := by unfold goodSeq; rw [decide_eq_false h2]; simp
      rw [hg]
      go_enter Tryd.func40, Tryd.ntmps40
      go_wp2
      go_ret
      exact ⟨rfl, rfl⟩
  · have hg : goodSeq q = false := by unfold goodSeq; rw [decide_eq_false h1]; rfl
    rw [hg]
    go_enter Tryd.func40, Tryd.ntmps40
    go_wp2
    go_ret
    exact ⟨rfl, rfl⟩

end Go.Proofs.YtmfkgnifkkkkiaaDoor

namespace Go.Proofs.YtmfkgnifkkkkiaaDoor
open Go.RowKit

/-- A block that begins so, with zeros behind. -/
def padL (xs : List Int) : List Int := xs ++ List.replicate (64 - xs.length) 0

end Go.Proofs.YtmfkgnifkkkkiaaDoor

namespace Go.Proofs.YtmfkgnifkkkkiaaDoor
open Go.RowKit

/-- append(s, x...), s one's own, x seen in memory and not empty. -/
theorem wp_app_seen {o : Oper} {a : Act} {w : World} {K : Act → World → Prop} {Q : Exit → Act → World → Prop} (s x : Operand)
    (ho : o.op = .call { callee := .builtin .append, args := #[s, x], argTypes := #[24, 24] })
    (base : Nat) (sv : Value) (xs : List Int) (hs : a.eval s = sv) (hO : OwnB w base 5 sv xs) (hbase : base ≤ w.heap.size) (lo hi : Nat) (xv : Value) (ys : List Int) (hx : a.eval x = xv) (hv : View w lo hi .u8 xv ys) (hy : 0 < ys.length) (hl : xs.length + ys.length ≤ 1048576)
    (h : ∀ v' w', OwnB w' base 5 v' (xs ++ ys) → Chg base w.heap.size w w' → K (a.put o.dst v') w') : o.wp Tryd.prog a w K Q := by
  obtain ⟨i, hi, hz0, hz1, hz2⟩ := info_parts Tryd.infoU1
  obtain ⟨ao, cap, rfl, _, _, hcell⟩ := hv
  obtain ⟨b, off, rfl, hc⟩ : ∃ b off, ao = some ⟨b, off, none⟩ ∧ ∀ i, i < ys.length → w.cell? ⟨b, off + i, none⟩ = some (.int .u8 (ys.getD i 0)) := by
    rcases hcell with e | ⟨b, off, e, _, _, h3⟩
    · rw [e] at hy; simp at hy
    · exact ⟨b, off, e, h3⟩
  have HNW : ∀ j u, (ys.map (Value.int .u8))[j]? = some u → w.cell? ((⟨b, off, none⟩ : Addr).add j) = some u := by
    intro j u hj
    have hjl : j < ys.length := by have := (List.getElem?_eq_some_iff.1 hj).1; simpa using this
    rw [Addr.add_mid, hc j hjl, ← hj]
    simp [List.getD_eq_getElem?_getD, hjl]
  have hrow : w.ownsRow base 5 1 sv xs.length (xs.map (Value.int .u8)) := hO
  refine wp_append_own _ s x 24 ho base 5 i (.int .u8 0) 1 1 Tryd.underlying24 hi hz0 hz1 hz2 rfl (by decide) sv xs.length (xs.map (Value.int .u8)) hs hrow ⟨b, off, none⟩ ys.length cap (ys.map (Value.int .u8)) hx (by simp) HNW (ints_oneCell _ _) (by unfold maxLen; omega) (by omega) hbase ?_
  intro v' w2 hown hgrow _
  refine h v' w2 ?_ (Chg.ofGrown hgrow (fun k hk _ => World.ownsRow.lt hrow k hk))
  unfold OwnB
  rw [List.length_append, List.map_append]
  exact hown

theorem wpList_app_seen {ops : Array Oper} {rest : List Oper} {o : Oper} {a : Act} {w : World} {Q : Exit → Act → World → Prop} (hgd : o.guard = none) (s x : Operand)
    (ho : o.op = .call { callee := .builtin .append, args := #[s, x], argTypes := #[24, 24] })
    (base : Nat) (sv : Value) (xs : List Int) (hs : a.eval s = sv) (hO : OwnB w base 5 sv xs) (hbase : base ≤ w.heap.size) (lo hi : Nat) (xv : Value) (ys : List Int) (hx : a.eval x = xv) (hv : View w lo hi .u8 xv ys) (hy : 0 < ys.length) (hl : xs.length + ys.length ≤ 1048576)
    (h : ∀ v' w', OwnB w' base 5 v' (xs ++ ys) → Chg base w.heap.size w w' → wpList Tryd.prog ops Q rest (a.put o.dst v') w') : wpList Tryd.prog ops Q (o :: rest) a w :=
  wpList_plain hgd fun _ hK => wp_app_seen s x ho base sv xs hs hO hbase lo hi xv ys hx hv hy hl fun v' w' h1 h2 => hK _ _ (h v' w' h1 h2)

end Go.Proofs.YtmfkgnifkkkkiaaDoor
