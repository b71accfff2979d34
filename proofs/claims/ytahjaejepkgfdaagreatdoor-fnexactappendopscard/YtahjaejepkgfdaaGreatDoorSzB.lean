/- Several short texts in one: Head, OpenBlk, ArrEq, OpenBlk2, Unesc, Esc, SzB. -/
import Derived.Test.YtahjaejepkgfdaaGreatDoorRowZ
import Derived.Test.YtahjaejepkgfdaaGreatDoorGetI
import Derived.Test.YtahjaejepkgfdaaGreatDoorSpecBeg
import Derived.Test.YtahjaejepkgfdaaGreatDoorCopyRow
import Derived.Deep.RegionHeld3
import Derived.Deep.RegionWith
import Derived.Deep.DeepCutAuto
import Derived.Test.YtahjaejepkgfdaaGreatDoorRows
import Derived.Stop.BytesEq
import Derived.Test.YtahjaejepkgfdaaGreatDoorMem
namespace Go.Proofs.YtahjaejepkgfdaaGreatDoor
open Go.RowKit

/-- What is wrong with a block. -/
def FaultAt (w : World) (b : Nat) (k : Int) (why : Value) : Prop := w.heap[b]? = some (.cells #[.int .i64 k, why] 239 (0, 0))

set_option maxRecDepth 20000 in
set_option maxHeartbeats 400000 in
theorem faultOf_calls (w : World) (k : Int) (t : TypeId) (v : Value) :
    Calls Tryz.prog 157 #[.int .i64 k, (.iface t v)] w fun e w' => e = .returned (.iface 174 (.pointer (some ⟨w.heap.size, 0, none⟩))) ∧ FaultAt w' w.heap.size k (.iface t v) ∧ Chg 0 0 w w' := by
  have HB : Hid (FaultAt (w.alloc (.cells #[.int .i64 k, (.iface t v)] 239)) w.heap.size k (.iface t v)) := heap_new w _
  have HC : Hid (Chg 0 0 w (w.alloc (.cells #[.int .i64 k, (.iface t v)] 239))) := Chg.alloc (Chg.refl 0 0 w) _
  go_enter Tryz.func157, Tryz.ntmps157
  go_wp2
  go_ret
  exact ⟨rfl, HB.out, HC.out⟩

/-- A header's seven cells. -/
def hd7 (xs : List Int) : Array Value := #[.int .u8 (xs.getD 0 0), .int .u8 (xs.getD 1 0), .int .u8 (xs.getD 2 0), .int .u8 (xs.getD 3 0), .int .i64 (xs.getD 4 0), .int .i64 (getN ((xs.drop 6).take 2)), .int .i64 (getN ((xs.drop 8).take 4))]

set_option maxRecDepth 20000 in
set_option maxHeartbeats 400000 in
theorem magic_calls (w : World) (a b c d k i s : Int) :
    Calls Tryz.prog 106 #[.agg #[.int .u8 a, .int .u8 b, .int .u8 c, .int .u8 d, .int .i64 k, .int .i64 i, .int .i64 s]] w fun e w' => e = .returned (.agg #[.int .u8 a, .int .u8 b, .int .u8 c, .int .u8 d]) ∧ Chg 0 0 w w' := by
  have HC : Hid (Chg 0 0 w ((w.alloc (.cells #[.int .u8 a, .int .u8 b, .int .u8 c, .int .u8 d, .int .i64 k, .int .i64 i, .int .i64 s] 106)).alloc (.cells #[.int .u8 a, .int .u8 b, .int .u8 c, .int .u8 d] 104))) := (Chg.alloc (Chg.refl 0 0 w) _).alloc _
  go_enter Tryz.func106, Tryz.ntmps106
  go_wp2
  exact bodyPost_ret (v := .agg #[.int .u8 a, .int .u8 b, .int .u8 c, .int .u8 d]) (by simp [results, Tryz.results106, go_sem]) rfl ⟨rfl, HC.out⟩

theorem arrayAt_four (w : World) (a : Addr) (cap : Nat) : (Instr.arrayAt 104 (.slice (some a) 4 cap)).run Tryz.prog w = .ok (.pointer (some a)) w := by
  first | kernel_rfl | rfl | simp [Instr.arrayAt, go_sem]

theorem row_range {w : World} {b : Nat} {cs : List Value} {t : TypeId} (h : w.heap[b]? = some (.cells cs.toArray t (0, 0))) (o n : Nat) : w.rangeAt b o ((cs.drop o).take n) := by
  intro j v hj
  rw [List.getElem?_take] at hj
  split at hj
  · rw [List.getElem?_drop] at hj
    simp [World.cell?, h, hj]
  · cases hj

set_option maxRecDepth 20000 in
set_option maxHeartbeats 4000000 in
theorem headerOf_calls (w : World) (xs : List Int) (hx : xs.length = 64) (hB : Byt xs) :
    Calls Tryz.prog 105 #[.agg (xs.map (Value.int .u8)).toArray] w fun e w' => e = .returned (.agg (hd7 xs)) ∧ Chg 0 0 w w' := by
  obtain ⟨cs, hcs⟩ : ∃ cs, cs = xs.map (Value.int .u8) := ⟨_, rfl⟩
  rw [← hcs]
  have L1 : cs.length = 64 := by rw [hcs]; simpa using hx
  have HL1 : Hid (cs.length = 64) := L1
  have Hcs : Hid (cs = xs.map (Value.int .u8)) := hcs
  have Hx : Hid (xs.length = 64) := hx
  have HB : Hid (Byt xs) := hB
  have B0 := heap_new w (.cells cs.toArray 60)
  have C0 : Chg 0 0 (w.alloc (.cells cs.toArray 60)) ((w.alloc (.cells cs.toArray 60)).alloc (.cells #[.int .u8 0, .int .u8 0, .int .u8 0, .int .u8 0, .int .i64 0, .int .i64 0, .int .i64 0] 106)) := Chg.alloc (Chg.refl 0 0 _) _
  have B1 := (C0.block w.heap.size (by simp) (by omega)).trans B0
  have HB1 : Hid (((w.alloc (.cells cs.toArray 60)).alloc (.cells #[.int .u8 0, .int .u8 0, .int .u8 0, .int .u8 0, .int .i64 0, .int .i64 0, .int .i64 0] 106)).heap[w.heap.size]? = some (.cells cs.toArray 60 (0, 0))) := B1
  clear L1 hcs hx hB B0 B1 C0
  go_enter Tryz.func105, Tryz.ntmps105
  go_wp2
  have s0 : ((w.alloc (.cells cs.toArray 60)).alloc (.cells #[.int .u8 0, .int .u8 0, .int .u8 0, .int .u8 0, .int .i64 0, .int .i64 0, .int .i64 0] 106)).heap.size = w.heap.size + 1 + 1 := by simp
  have HZ : Hid (((w.alloc (.cells cs.toArray 60)).alloc (.cells #[.int .u8 0, .int .u8 0, .int .u8 0, .int .u8 0, .int .i64 0, .int .i64 0, .int .i64 0] 106)).heap[w.heap.size + 1]? = some (.cells #[.int .u8 0, .int .u8 0, .int .u8 0, .int .u8 0, .int .i64 0, .int .i64 0, .int .i64 0] 106 (0, 0))) := by
    have := heap_new (w.alloc (.cells cs.toArray 60)) (.cells #[.int .u8 0, .int .u8 0, .int .u8 0, .int .u8 0, .int .i64 0, .int .i64 0, .int .i64 0] 106)
    show _ = _
    simpa using this
  have HC : Hid (Chg 0 0 w ((w.alloc (.cells cs.toArray 60)).alloc (.cells #[.int .u8 0, .int .u8 0, .int .u8 0, .int .u8 0, .int .i64 0, .int .i64 0, .int .i64 0] 106))) := (Chg.alloc (Chg.refl 0 0 w) _).alloc _
  generalize (w.alloc (.cells cs.toArray 60)).alloc (.cells #[.int .u8 0, .int .u8 0, .int .u8 0, .int .u8 0, .int .i64 0, .int .i64 0, .int .i64 0] 106) = wa at *
  have HS : Hid ((fun w' : World => w'.heap[w.heap.size]? = some (.cells cs.toArray 60 (0, 0))) wa.drew) := HB1.out
  have har := fun w' => arrayAt_four w' ⟨w.heap.size, 0, none⟩ 64
  have H4 : Hid ((cs.drop 0).take 4 = [.int .u8 (xs.getD 0 0), .int .u8 (xs.getD 1 0), .int .u8 (xs.getD 2 0), .int .u8 (xs.getD 3 0)]) := by
    show _ = _
    rw [Hcs.out]
    have := Hx.out
    match xs, this with
    | a :: b :: c :: d :: r, _ => simp
  have hc4 : ∀ w' : World, w'.heap[w.heap.size]? = some (.cells cs.toArray 60 (0, 0)) → w'.cell? ⟨w.heap.size, 4, none⟩ = some (.int .u8 (xs.getD 4 0)) := by
    intro w' hw'
    have := Hx.out
    simp only [World.cell?, hw', List.getElem?_toArray, Hcs.out, List.getElem?_map, List.getD_eq_getElem?_getD]
    rw [List.getElem?_eq_getElem (show 4 < xs.length by omega)]
    rfl
  have Hc4 : Hid (∀ w' : World, w'.heap[w.heap.size]? = some (.cells cs.toArray 60 (0, 0)) → w'.cell? ⟨w.heap.size, 4, none⟩ = some (.int .u8 (xs.getD 4 0))) := hc4
  have hb4 := HB.out.getD 4
  clear hc4
  refine weak_region 11 (fun w' : World => w'.heap[w.heap.size]? = some (.cells cs.toArray 60 (0, 0))) (by kernel_rfl) ?_
  refine weak_take 0 (.slice (some ⟨w.heap.size, 0, none⟩) 4 64) rfl (by kernel_rfl) (by kernel_rfl) (by kernel_rfl) (by kernel_rfl) (fun _ _ _ h => h) (.inl ⟨by kernel_rfl, fun w' hw' => by go_simp⟩) HS.out ?_
  go_simp
  refine weak_take 1 (.pointer (some ⟨w.heap.size, 0, none⟩)) rfl (by kernel_rfl) (by kernel_rfl) (by kernel_rfl) (by kernel_rfl) (fun _ _ _ h => h) (.inl ⟨by kernel_rfl, fun w' hw' => by go_simp⟩) HS.out ?_
  go_simp
  refine weak_take 2 (.agg ((cs.drop 0).take 4).toArray) rfl (by kernel_rfl) (by kernel_rfl) (by kernel_rfl) (by kernel_rfl) (fun _ _ _ h => h) (yieldsIf_load_mid (by kernel_rfl) 104 (.tmp 4) rfl w.heap.size 0 rfl ((cs.drop 0).take 4) _ (fun w' hw' => row_range hw' 0 4) Tryz.underlying104 rfl (by rw [H4.out]; kernel_rfl)) HS.out ?_
  rw [H4.out]
  go_simp
  refine weak_take 3 (.pointer (some ⟨w.heap.size, 4, none⟩)) rfl (by kernel_rfl) (by kernel_rfl) (by kernel_rfl) (by kernel_rfl) (fun _ _ _ h => h) (.inl ⟨by kernel_rfl, fun w' hw' => by go_simp⟩) HS.out ?_
  go_simp
  generalize hx4 : xs.getD 4 0 = x4 at *
  have Hx4 : Hid (xs.getD 4 0 = x4) := hx4
  clear hx4
  refine weak_take 4 (.int .u8 x4) rfl (by kernel_rfl) (by kernel_rfl) (by kernel_rfl) (by kernel_rfl) (fun _ _ _ h => h) (.inl ⟨by kernel_rfl, fun w' hw' => by have h4 := Hc4.out w' hw'; go_simp⟩) HS.out ?_
  go_simp
  refine weak_take 5 (.int .i64 x4) rfl (by kernel_rfl) (by kernel_rfl) (by kernel_rfl) (by kernel_rfl) (fun _ _ _ h => h) (.inl ⟨by kernel_rfl, fun w' hw' => by go_simp; rw [IntKind.wrap_i64]; omega⟩) HS.out ?_
  go_simp
  refine weak_take 6 (.slice (some ⟨w.heap.size, 6, none⟩) 2 58) rfl (by kernel_rfl) (by kernel_rfl) (by kernel_rfl) (by kernel_rfl) (fun _ _ _ h => h) (.inl ⟨by kernel_rfl, fun w' hw' => by go_simp⟩) HS.out ?_
  go_simp
  refine weak_take 8 (.slice (some ⟨w.heap.size, 8, none⟩) 4 56) rfl (by kernel_rfl) (by kernel_rfl) (by kernel_rfl) (by kernel_rfl) (fun _ _ _ h => h) (.inl ⟨by kernel_rfl, fun w' hw' => by go_simp⟩) HS.out ?_
  go_simp
  refine weak_one 7 rfl rfl (by kernel_rfl) ?_
  have hx64 := Hx.out
  have hbl := HB1.out
  rw [Hcs.out] at hbl
  refine wp_enter 115 #[.slice (some ⟨w.heap.size, 6, none⟩) 2 58] (by first | kernel_rfl | go_simp) (implGet_calls wa.drew (HB.out.drop 6 |>.take 2) (row_view (w := wa.drew) hbl 6 2 58 (by omega) (by omega) (by omega))) ?_
  rintro e w1 ⟨rfl, hs1⟩
  refine ⟨_, rfl, ?_⟩
  have hbl1 : w1.heap[w.heap.size]? = some (.cells (xs.map (Value.int .u8)).toArray 60 (0, 0)) := by rw [hs1.heap]; exact hbl
  have HS1 : Hid ((fun w' : World => w'.heap[w.heap.size]? = some (.cells cs.toArray 60 (0, 0))) w1) := by show w1.heap[w.heap.size]? = _; rw [hs1.heap]; exact HS.out
  have HSame1 : Hid (Same wa.drew w1) := hs1
  refine ⟨fun _ => HS1.out, ?_⟩
  have HN1 : Hid (getN ((xs.drop 6).take 2) = getN ((xs.drop 6).take 2)) := rfl
  generalize hn1 : getN ((xs.drop 6).take 2) = n1 at *
  clear hbl hs1
  have hbl := hbl1
  clear hbl1
  have Hn1 : Hid (getN ((xs.drop 6).take 2) = n1) := hn1
  have Hbl : Hid (w1.heap[w.heap.size]? = some (.cells (xs.map (Value.int .u8)).toArray 60 (0, 0))) := hbl
  have Hx64 : Hid (xs.length = 64) := hx64
  clear hn1 HN1 hbl hx64
  go_simp
  refine weak_one 9 rfl rfl (by kernel_rfl) ?_
  have hx64 := Hx64.out
  refine wp_enter 115 #[.slice (some ⟨w.heap.size, 8, none⟩) 4 56] (by first | kernel_rfl | go_simp) (implGet_calls w1 (HB.out.drop 8 |>.take 4) (row_view Hbl.out 8 4 56 (by omega) (by omega) (by omega))) ?_
  rintro e w2 ⟨rfl, hs2⟩
  refine ⟨_, rfl, ?_⟩
  refine ⟨fun _ => by show w2.heap[w.heap.size]? = _; rw [hs2.heap]; exact HS1.out, ?_⟩
  have HSame2 : Hid (Same wa w2) := Same.trans (Same.trans (Same.drew (Same.refl wa)) HSame1.out) hs2
  generalize hn2 : getN ((xs.drop 8).take 4) = n2 at *
  have Hn2 : Hid (getN ((xs.drop 8).take 4) = n2) := hn2
  have s2 : w2.heap.size = w.heap.size + 1 + 1 := by rw [HSame2.out.heap]; exact s0
  have B2 : w2.heap[w.heap.size + 1]? = some (.cells #[.int .u8 0, .int .u8 0, .int .u8 0, .int .u8 0, .int .i64 0, .int .i64 0, .int .i64 0] 106 (0, 0)) := by rw [HSame2.out.heap]; exact HZ.out
  clear hn2 hs2 hx64
  have HB2 : Hid (w2.heap[w.heap.size]? = some (.cells cs.toArray 60 (0, 0))) := by show _ = _; rw [HSame2.out.heap]; exact HB1.out
  go_simp
  refine weak_one 10 rfl rfl (by kernel_rfl) ?_
  refine wp_given (v := .agg #[.int .u8 (xs.getD 0 0), .int .u8 (xs.getD 1 0), .int .u8 (xs.getD 2 0), .int .u8 (xs.getD 3 0), .int .i64 x4, .int .i64 n1, .int .i64 n2]) (by first | kernel_rfl | go_simp) ⟨fun _ => HB2.out, ?_⟩
  go_simp
  refine weak_one 11 rfl rfl (by kernel_rfl) ?_
  refine wp_store_row 106 (.tmp 2) (.tmp 13) rfl rfl (w.heap.size + 1) rfl [.int .u8 (xs.getD 0 0), .int .u8 (xs.getD 1 0), .int .u8 (xs.getD 2 0), .int .u8 (xs.getD 3 0), .int .i64 x4, .int .i64 n1, .int .i64 n2] [.int .u8 0, .int .u8 0, .int .u8 0, .int .u8 0, .int .i64 0, .int .i64 0, .int .i64 0] 106 rfl B2 rfl (by kernel_rfl) (by simp [Value.oneCell']) ?_
  intro w3 B3 C3
  refine ⟨fun h => absurd rfl h, ?_⟩
  refine weak_done (by kernel_rfl) (NoPanic.normal ?_)
  have e7 : hd7 xs = #[.int .u8 (xs.getD 0 0), .int .u8 (xs.getD 1 0), .int .u8 (xs.getD 2 0), .int .u8 (xs.getD 3 0), .int .i64 x4, .int .i64 n1, .int .i64 n2] := by
    unfold hd7
    rw [Hn1.out, Hn2.out, Hx4.out]
  have hres : w3.cell? ⟨w.heap.size + 1, 0, none⟩ = some (.int .u8 (xs.getD 0 0)) ∧ w3.cell? ⟨w.heap.size + 1, 1, none⟩ = some (.int .u8 (xs.getD 1 0)) ∧ w3.cell? ⟨w.heap.size + 1, 2, none⟩ = some (.int .u8 (xs.getD 2 0)) ∧ w3.cell? ⟨w.heap.size + 1, 3, none⟩ = some (.int .u8 (xs.getD 3 0)) ∧ w3.cell? ⟨w.heap.size + 1, 4, none⟩ = some (.int .i64 x4) ∧ w3.cell? ⟨w.heap.size + 1, 5, none⟩ = some (.int .i64 n1) ∧ w3.cell? ⟨w.heap.size + 1, 6, none⟩ = some (.int .i64 n2) := by
    simp [World.cell?, B3]
  have HCe : Hid (Chg 0 0 w w3) := (HC.out.trans (HSame2.out.chg 0 0)).step C3 (by omega)
  have He7 : Hid (hd7 xs = #[.int .u8 (xs.getD 0 0), .int .u8 (xs.getD 1 0), .int .u8 (xs.getD 2 0), .int .u8 (xs.getD 3 0), .int .i64 x4, .int .i64 n1, .int .i64 n2]) := e7
  have Hres : Hid _ := hres
  clear B3 C3 B2 e7 hres
  go_wp2
  rw [He7.out]
  obtain ⟨r0, r1, r2, r3, r4, r5, r6⟩ := Hres.out
  generalize xs.getD 0 0 = x0 at *
  generalize xs.getD 1 0 = x1 at *
  generalize xs.getD 2 0 = x2 at *
  generalize xs.getD 3 0 = x3 at *
  exact bodyPost_ret (v := .agg #[.int .u8 x0, .int .u8 x1, .int .u8 x2, .int .u8 x3, .int .i64 x4, .int .i64 n1, .int .i64 n2]) (by simp [results, Tryz.results105, go_sem, r0, r1, r2, r3, r4, r5, r6]) rfl ⟨rfl, HCe.out⟩

end Go.Proofs.YtahjaejepkgfdaaGreatDoor

namespace Go.Proofs.YtahjaejepkgfdaaGreatDoor
open Go.RowKit

/-- An error that wraps another one. -/
def Wraps (w : World) (lo : Nat) (ev : Value) (t : TypeId) (v : Value) : Prop := ∃ b k, lo ≤ b ∧ ev = .iface 174 (.pointer (some ⟨b, 0, none⟩)) ∧ FaultAt w b k (.iface t v)

theorem Wraps.chg {w w' : World} {lo l r : Nat} {ev : Value} {t : TypeId} {v : Value} (h : Wraps w lo ev t v) (c : Chg l r w w') (e : r ≤ l ∨ r ≤ lo) : Wraps w' lo ev t v := by
  obtain ⟨b, k, hb, he, hf⟩ := h
  exact ⟨b, k, hb, he, (c.block b (Array.getElem?_eq_some_iff.1 hf).1 (by omega)).trans hf⟩

theorem results_bhe {P : Program} {fn : Func} {p1 p2 p3 : Tmp} {t1 t2 : TypeId} {w : World} {tmps : Array Value} {a1 a2 : Addr} {v1 v2 v3 : Value} (h : fn.results = #[.cell p1 t1, .cell p2 t2, .tmp p3]) (h1 : tmps.getD p1 undef = .pointer (some a1)) (h2 : tmps.getD p2 undef = .pointer (some a2)) (h3 : tmps.getD p3 undef = v3)
    (hl1 : (loadVar t1 a1).run P w = .ok v1 w) (hl2 : (loadVar t2 a2).run P w = .ok v2 w) : (results fn tmps).run P w = .ok (.tuple #[v1, v2, v3]) w := by
  have h1' : tmps[p1]?.getD undef = .pointer (some a1) := by simpa using h1
  have h2' : tmps[p2]?.getD undef = .pointer (some a2) := by simpa using h2
  have h3' : tmps[p3]?.getD undef = v3 := by simpa using h3
  simp only [results, h]
  simp [asAddr, h1', h2', h3', hl1, hl2]

/-- The cells of a block. -/
def Blk (L : List Value) : Prop := L.length = 64 ∧ ∀ v ∈ L, v.oneCell' = true

abbrev z7 : List Value := [.int .u8 0, .int .u8 0, .int .u8 0, .int .u8 0, .int .i64 0, .int .i64 0, .int .i64 0]

end Go.Proofs.YtahjaejepkgfdaaGreatDoor

namespace Go.Proofs.YtahjaejepkgfdaaGreatDoor
open Go.RowKit

theorem byt_cells {xs : List Int} (h : Byt xs) : (xs.map fun n => UInt8.ofNat n.toNat).map Extern.Stop.cell = xs.map (Value.int .u8) := by
  rw [List.map_map]
  refine List.map_congr_left fun x hx => ?_
  have := h x hx
  have e : ((UInt8.ofNat x.toNat).toNat : Int) = x := by rw [UInt8.toNat_ofNat']; omega
  show Value.int .u8 ((UInt8.ofNat x.toNat).toNat : Int) = _
  rw [e]

theorem equal_bytes (w : World) (t : TypeId) (n : Nat) (ht : Tryz.prog.underlying t = some (.array n 5)) {xs ys : List Int} (hx : Byt xs) (hy : Byt ys) (lx : xs.length = n) (ly : ys.length = n) :
    (Op.equalIn 10000 t (.agg (xs.map (Value.int .u8)).toArray) (.agg (ys.map (Value.int .u8)).toArray)).run Tryz.prog w = .ok (decide (xs = ys)) w := by
  have h := run_equalIn_bytes (P := Tryz.prog) w 9998 t 5 n ht Tryz.underlying5 (fun w => by kernel_rfl) (xs.map fun n => UInt8.ofNat n.toNat) (ys.map fun n => UInt8.ofNat n.toNat) (by simpa using lx) (by simpa using ly)
  rw [byt_cells hx, byt_cells hy] at h
  have hb : ((xs.map fun n => UInt8.ofNat n.toNat) == ys.map fun n => UInt8.ofNat n.toNat) = decide (xs = ys) := by
    by_cases e : xs = ys
    · subst e; rw [decide_eq_true rfl]; exact beq_self_eq_true _
    · rw [decide_eq_false e, beq_eq_false_iff_ne]
      exact fun h' => e (str_inj hx hy h')
  rw [h, hb]

end Go.Proofs.YtahjaejepkgfdaaGreatDoor

namespace Go.Proofs.YtahjaejepkgfdaaGreatDoor
open Go.RowKit

theorem arrayAt_64 (w : World) (a : Addr) (cap : Nat) : (Instr.arrayAt 60 (.slice (some a) 64 cap)).run Tryz.prog w = .ok (.pointer (some a)) w := by
  simp [Instr.arrayAt, run_underlying Tryz.underlying60]

/-- What openBlock says of 64 bytes. -/
def OpenRes (xs : List Int) (w' : World) (lo : Nat) (tM tK : TypeId) (vM vK : Value) (ev : Value) : Prop :=
  (xs.take 4 ≠ mg ∧ Wraps w' lo ev tM vM) ∨ (xs.take 4 = mg ∧ ¬ (1 ≤ xs.getD 4 0 ∧ xs.getD 4 0 ≤ 4) ∧ Wraps w' lo ev tK vK) ∨ (xs.take 4 = mg ∧ (1 ≤ xs.getD 4 0 ∧ xs.getD 4 0 ≤ 4) ∧ ev = .nilIface)

end Go.Proofs.YtahjaejepkgfdaaGreatDoor

namespace Go.Proofs.YtahjaejepkgfdaaGreatDoor
open Go.RowKit

/-- What stood ahead of the escaping. -/
def unescL (xs : List Int) (esc : Bool) : List Int := if esc = true then mg ++ xs.drop 4 else xs
def unescB (xs : List Int) (esc : Bool) : Bool := if esc = true then decide (xs.take 4 = [0, 0, 0, 0]) else !decide (xs.take 4 = mg)

theorem results_be {P : Program} {fn : Func} {p1 p3 : Tmp} {t1 : TypeId} {w : World} {tmps : Array Value} {a1 : Addr} {v1 v3 : Value} (h : fn.results = #[.cell p1 t1, .tmp p3]) (h1 : tmps.getD p1 undef = .pointer (some a1)) (h3 : tmps.getD p3 undef = v3)
    (hl1 : (loadVar t1 a1).run P w = .ok v1 w) : (results fn tmps).run P w = .ok (.tuple #[v1, v3]) w := by
  have h1' : tmps[p1]?.getD undef = .pointer (some a1) := by simpa using h1
  have h3' : tmps[p3]?.getD undef = v3 := by simpa using h3
  simp only [results, h]
  simp [asAddr, h1', h3', hl1]

end Go.Proofs.YtahjaejepkgfdaaGreatDoor

namespace Go.Proofs.YtahjaejepkgfdaaGreatDoor
open Go.RowKit

theorem clear_four (w : World) (b cap : Nat) (c0 c1 c2 c3 : Value) (ty : TypeId) (k0 : w.cell? ⟨b, 0, none⟩ = some c0) (k1 : w.cell? ⟨b, 1, none⟩ = some c1) (k2 : w.cell? ⟨b, 2, none⟩ = some c2) (k3 : w.cell? ⟨b, 3, none⟩ = some c3)
    (f0 : w.frozen? ⟨b, 0, none⟩ = false) (f1 : w.frozen? ⟨b, 1, none⟩ = false) (f2 : w.frozen? ⟨b, 2, none⟩ = false) (f3 : w.frozen? ⟨b, 3, none⟩ = false) :
    (Builtin.clear_ #[45] ty #[.slice (some ⟨b, 0, none⟩) 4 cap]).run Tryz.prog w = .ok (.tuple #[]) ((((w.setCell ⟨b, 0, none⟩ (.int .u8 0)).setCell ⟨b, 1, none⟩ (.int .u8 0)).setCell ⟨b, 2, none⟩ (.int .u8 0)).setCell ⟨b, 3, none⟩ (.int .u8 0)) := by
  have hz : (Builtin.zeroCells #[Value.int .u8 0] 4).toList = [.int .u8 0, .int .u8 0, .int .u8 0, .int .u8 0] := by first | kernel_rfl | decide | simp [Builtin.zeroCells]
  have hst := run_storeCells_cells (P := Tryz.prog) b 0 [.int .u8 0, .int .u8 0, .int .u8 0, .int .u8 0] 0 w
    (fun j hj => by
      have : j = 0 ∨ j = 1 ∨ j = 2 ∨ j = 3 := by simp at hj; omega
      rcases this with rfl | rfl | rfl | rfl
      · simp [k0]
      · simp [k1]
      · simp [k2]
      · simp [k3])
    (fun j hj => by
      have : j = 0 ∨ j = 1 ∨ j = 2 ∨ j = 3 := by simp at hj; omega
      rcases this with rfl | rfl | rfl | rfl
      · simpa using f0
      · simpa using f1
      · simpa using f2
      · simpa using f3)
    (by simp [Value.oneCell'])
  simp only [Nat.add_zero] at hst
  simp [Builtin.clear_, go_sem]
  rw [hz, hst]
  rfl

/-- What stands in the log for some data. -/
def escL (xs : List Int) : List Int := if xs.take 4 = mg then [0, 0, 0, 0] ++ xs.drop 4 else xs

theorem escL_length {xs : List Int} (h : xs.length = 64) : (escL xs).length = 64 := by
  unfold escL
  split
  · simp [h]
  · exact h

end Go.Proofs.YtahjaejepkgfdaaGreatDoor

namespace Go.Proofs.YtahjaejepkgfdaaGreatDoor
open Go.RowKit

/-- What is left of a count of at most left where n are taken: -1 if there are not so many. -/
def lft (left n : Nat) : Int := if n ≤ left then ((left - n : Nat) : Int) else -1

theorem lft_pos {left n : Nat} (h : n ≤ left) : lft left n = ((left - n : Nat) : Int) := by unfold lft; rw [if_pos h]
theorem lft_neg {left n : Nat} (h : ¬ n ≤ left) : lft left n = -1 := by unfold lft; rw [if_neg h]

set_option maxRecDepth 20000 in
set_option maxHeartbeats 400000 in
theorem szByteS_calls (w : World) (ao : Option Addr) (n cap left : Nat) (hl : n ≤ 9223372036854775807) (hb : left ≤ 1048576) :
    Calls Tryz.prog 57 #[.slice ao n cap, .int .i64 left] w fun e w' => e = .returned (.int .i64 (lft left n)) ∧ w' = w := by
  by_cases h : n ≤ left
  · rw [lft_pos h]
    go_enter Tryz.func57, Tryz.ntmps57
    go_wp2
    go_ret
    exact ⟨ret_int (by omega), rfl⟩
  · rw [lft_neg h]
    have h' : (left : Int) - n < 0 := by omega
    go_enter Tryz.func57, Tryz.ntmps57
    go_wp2
    go_ret
    exact ⟨rfl, rfl⟩

end Go.Proofs.YtahjaejepkgfdaaGreatDoor
