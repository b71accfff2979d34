/- Several short texts in one: SuperWrong, ImplSuper, SuperEnc. -/
import Derived.Test.YtahjaejepkgfdaaGreatDoorSzB
import Derived.Deep.RegionWith
import Derived.Test.YtahjaejepkgfdaaGreatDoorMagC
import Derived.Test.YtahjaejepkgfdaaGreatDoorSmall
import Derived.Test.YtahjaejepkgfdaaGreatDoorSpecBeg
import Derived.Test.YtahjaejepkgfdaaGreatDoorRowZ
import Derived.Deep.DeepCutAuto
import Derived.Test.YtahjaejepkgfdaaGreatDoorGoodBlk
import Derived.Test.YtahjaejepkgfdaaGreatDoorSpecSuper
namespace Go.Proofs.YtahjaejepkgfdaaGreatDoor
open Go.RowKit

abbrev hd7V (h0 h1 h2 h3 kd it sq : Int) : Value := .agg #[.int .u8 h0, .int .u8 h1, .int .u8 h2, .int .u8 h3, .int .i64 kd, .int .i64 it, .int .i64 sq]

set_option maxRecDepth 20000 in
set_option maxHeartbeats 1000000 in
theorem count_calls (w : World) (h0 h1 h2 h3 kd it sq : Int) :
    Calls Tryz.prog 155 #[hd7V h0 h1 h2 h3 kd it sq] w fun e w' => e = .returned (.int .i64 it) ∧ Chg 0 0 w w' := by
  have HC : Hid (Chg 0 0 w (w.alloc (.cells #[.int .u8 h0, .int .u8 h1, .int .u8 h2, .int .u8 h3, .int .i64 kd, .int .i64 it, .int .i64 sq] 106))) := Chg.alloc (Chg.refl 0 0 w) _
  go_enter Tryz.func155, Tryz.ntmps155
  go_wp2
  go_ret
  exact ⟨rfl, HC.out⟩

set_option maxRecDepth 20000 in
set_option maxHeartbeats 1000000 in
theorem outside_ok (w : World) (h0 h1 h2 h3 kd it sq l m : Int) (a1 : 1 ≤ sq) (a2 : sq ≤ 4294967295) (a3 : l ≤ it) (a4 : it ≤ m) :
    Calls Tryz.prog 158 #[hd7V h0 h1 h2 h3 kd it sq, .int .i64 l, .int .i64 m] w fun e w' => e = .returned .nilIface ∧ Chg 0 0 w w' := by
  have HC : Hid (Chg 0 0 w (w.alloc (.cells #[.int .u8 h0, .int .u8 h1, .int .u8 h2, .int .u8 h3, .int .i64 kd, .int .i64 it, .int .i64 sq] 106))) := Chg.alloc (Chg.refl 0 0 w) _
  have c1 : ¬ sq < 1 := by omega
  have c2 : ¬ 4294967295 < sq := by omega
  have c3 : ¬ it < l := by omega
  have c4 : ¬ m < it := by omega
  go_enter Tryz.func158, Tryz.ntmps158
  go_wp2
  go_ret
  exact ⟨rfl, HC.out⟩

theorem eight {w : World} {s : Nat} {a0 a1 a2 a3 a4 a5 a6 a7 : Value} {t : TypeId} (h : w.heap[s]? = some (.cells #[a0, a1, a2, a3, a4, a5, a6, a7] t (0, 0))) :
    w.cell? ⟨s, 0, none⟩ = some a0 ∧ w.cell? ⟨s, 1, none⟩ = some a1 ∧ w.cell? ⟨s, 2, none⟩ = some a2 ∧ w.cell? ⟨s, 3, none⟩ = some a3 ∧ w.cell? ⟨s, 4, none⟩ = some a4 ∧ w.cell? ⟨s, 5, none⟩ = some a5 ∧ w.cell? ⟨s, 6, none⟩ = some a6 ∧ w.cell? ⟨s, 7, none⟩ = some a7 := by
  simp [World.cell?, h]

set_option maxRecDepth 20000 in
set_option maxHeartbeats 4000000 in
theorem superWrong_ok (w : World) (h0 h1 h2 h3 kd it sq st : Int) (a1 : 1 ≤ sq) (a2 : sq ≤ 4294967295) (a3 : 16 ≤ it) (a4 : it ≤ 512) (a5 : 0 ≤ st) (a6 : st ≤ it) :
    Calls Tryz.prog 160 #[.agg #[.int .u8 h0, .int .u8 h1, .int .u8 h2, .int .u8 h3, .int .i64 kd, .int .i64 it, .int .i64 sq, .int .i64 st]] w fun e w' => e = .returned .nilIface ∧ Chg 0 0 w w' := by
  have HC : Hid (Chg 0 0 w (w.alloc (.cells #[.int .u8 h0, .int .u8 h1, .int .u8 h2, .int .u8 h3, .int .i64 kd, .int .i64 it, .int .i64 sq, .int .i64 st] 136))) := Chg.alloc (Chg.refl 0 0 w) _
  have HB : Hid ((w.alloc (.cells #[.int .u8 h0, .int .u8 h1, .int .u8 h2, .int .u8 h3, .int .i64 kd, .int .i64 it, .int .i64 sq, .int .i64 st] 136)).heap[w.heap.size]? = some (.cells #[.int .u8 h0, .int .u8 h1, .int .u8 h2, .int .u8 h3, .int .i64 kd, .int .i64 it, .int .i64 sq, .int .i64 st] 136 (0, 0))) := heap_new _ _
  obtain ⟨k0, k1, k2, k3, k4, k5, k6, k7⟩ := eight HB.out
  have c1 : decide (st < 0) = false := decide_eq_false (by omega)
  have c2 : ¬ it < st := by omega
  go_enter Tryz.func160, Tryz.ntmps160
  go_wp2
  generalize w.alloc (.cells #[.int .u8 h0, .int .u8 h1, .int .u8 h2, .int .u8 h3, .int .i64 kd, .int .i64 it, .int .i64 sq, .int .i64 st] 136) = w0 at *
  have hN := count_calls w0.drew h0 h1 h2 h3 kd it sq
  go_region_with (go_at_call 155; refine hN.mono ?_; rintro e w1 ⟨rfl, h1'⟩; have y7 := h1'.cell (show w0.drew.cell? ⟨w.heap.size, 7, none⟩ = _ from k7) (by omega))
  all_goals
    have HB1 : Hid (w1.heap[w.heap.size]? = some (.cells #[.int .u8 h0, .int .u8 h1, .int .u8 h2, .int .u8 h3, .int .i64 kd, .int .i64 it, .int .i64 sq, .int .i64 st] 136 (0, 0))) := (h1'.block w.heap.size (lt_of_cell k0) (by omega)).trans HB.out
    have HC1 : Hid (Chg 0 0 w w1) := HC.out.drew.trans h1'
    obtain ⟨y0, y1, y2, y3, y4, y5, y6, y7⟩ := eight HB1.out
    clear h1'
    go_wp2_with fail
    refine (outside_ok _ h0 h1 h2 h3 kd it sq 16 512 a1 a2 a3 a4).mono ?_
    rintro e w2 ⟨rfl, h2'⟩
    have HC2 : Hid (Chg 0 0 w w2) := HC1.out.trans h2'
    clear h2'
    go_wp2
    go_ret
    exact ⟨rfl, HC2.out⟩

end Go.Proofs.YtahjaejepkgfdaaGreatDoor

namespace Go.Proofs.YtahjaejepkgfdaaGreatDoor
open Go.RowKit

set_option maxRecDepth 20000 in
set_option maxHeartbeats 2000000 in
theorem superOf_calls (w : World) (c s q : Int) (m0 : w.cell? ⟨0, 0, none⟩ = some (.int .u8 106)) (m1 : w.cell? ⟨0, 1, none⟩ = some (.int .u8 108)) (m2 : w.cell? ⟨0, 2, none⟩ = some (.int .u8 111)) (m3 : w.cell? ⟨0, 3, none⟩ = some (.int .u8 103)) :
    Calls Tryz.prog 73 #[.agg #[.int .i64 c, .int .i64 s, .int .i64 q]] w fun e w' => e = .returned (.agg #[.int .u8 106, .int .u8 108, .int .u8 111, .int .u8 103, .int .i64 1, .int .i64 c, .int .i64 q, .int .i64 s]) ∧ Chg 0 0 w w' := by
  have C0 : Chg 0 0 w ((w.alloc (.cells #[.int .i64 c, .int .i64 s, .int .i64 q] 75)).alloc (.cells #[.int .u8 0, .int .u8 0, .int .u8 0, .int .u8 0, .int .i64 0, .int .i64 0, .int .i64 0, .int .i64 0] 136)) := (Chg.alloc (Chg.refl 0 0 w) _).alloc _
  have B0 : ((w.alloc (.cells #[.int .i64 c, .int .i64 s, .int .i64 q] 75)).alloc (.cells #[.int .u8 0, .int .u8 0, .int .u8 0, .int .u8 0, .int .i64 0, .int .i64 0, .int .i64 0, .int .i64 0] 136)).heap[w.heap.size]? = some (.cells #[.int .i64 c, .int .i64 s, .int .i64 q] 75 (0, 0)) := alloc_two _ _ _
  have B1 : ((w.alloc (.cells #[.int .i64 c, .int .i64 s, .int .i64 q] 75)).alloc (.cells #[.int .u8 0, .int .u8 0, .int .u8 0, .int .u8 0, .int .i64 0, .int .i64 0, .int .i64 0, .int .i64 0] 136)).heap[w.heap.size + 1]? = some (.cells #[.int .u8 0, .int .u8 0, .int .u8 0, .int .u8 0, .int .i64 0, .int .i64 0, .int .i64 0, .int .i64 0] 136 (0, 0)) := alloc_twoN _ _ _
  have hlt : w.heap.size + 1 < ((w.alloc (.cells #[.int .i64 c, .int .i64 s, .int .i64 q] 75)).alloc (.cells #[.int .u8 0, .int .u8 0, .int .u8 0, .int .u8 0, .int .i64 0, .int .i64 0, .int .i64 0, .int .i64 0] 136)).heap.size := (Array.getElem?_eq_some_iff.1 B1).1
  have HM : Hid (w.cell? ⟨0, 0, none⟩ = some (.int .u8 106) ∧ w.cell? ⟨0, 1, none⟩ = some (.int .u8 108) ∧ w.cell? ⟨0, 2, none⟩ = some (.int .u8 111) ∧ w.cell? ⟨0, 3, none⟩ = some (.int .u8 103)) := ⟨m0, m1, m2, m3⟩
  obtain ⟨k0, k1, k2⟩ := trio B0
  have HC0 : Hid (Chg 0 0 w ((w.alloc (.cells #[.int .i64 c, .int .i64 s, .int .i64 q] 75)).alloc (.cells #[.int .u8 0, .int .u8 0, .int .u8 0, .int .u8 0, .int .i64 0, .int .i64 0, .int .i64 0, .int .i64 0] 136))) := C0
  have HB1 : Hid (((w.alloc (.cells #[.int .i64 c, .int .i64 s, .int .i64 q] 75)).alloc (.cells #[.int .u8 0, .int .u8 0, .int .u8 0, .int .u8 0, .int .i64 0, .int .i64 0, .int .i64 0, .int .i64 0] 136)).heap[w.heap.size + 1]? = some (.cells #[.int .u8 0, .int .u8 0, .int .u8 0, .int .u8 0, .int .i64 0, .int .i64 0, .int .i64 0, .int .i64 0] 136 (0, 0))) := B1
  have HS0 : Hid (((w.alloc (.cells #[.int .i64 c, .int .i64 s, .int .i64 q] 75)).alloc (.cells #[.int .u8 0, .int .u8 0, .int .u8 0, .int .u8 0, .int .i64 0, .int .i64 0, .int .i64 0, .int .i64 0] 136)).drew.cell? ⟨w.heap.size, 0, none⟩ = some (.int .i64 c) ∧ ((w.alloc (.cells #[.int .i64 c, .int .i64 s, .int .i64 q] 75)).alloc (.cells #[.int .u8 0, .int .u8 0, .int .u8 0, .int .u8 0, .int .i64 0, .int .i64 0, .int .i64 0, .int .i64 0] 136)).drew.cell? ⟨w.heap.size, 1, none⟩ = some (.int .i64 s) ∧ ((w.alloc (.cells #[.int .i64 c, .int .i64 s, .int .i64 q] 75)).alloc (.cells #[.int .u8 0, .int .u8 0, .int .u8 0, .int .u8 0, .int .i64 0, .int .i64 0, .int .i64 0, .int .i64 0] 136)).drew.cell? ⟨w.heap.size, 2, none⟩ = some (.int .i64 q)) := ⟨k0, k1, k2⟩
  clear C0 B0 B1 m0 m1 m2 m3 k0 k1 k2
  go_enter Tryz.func73, Tryz.ntmps73
  go_upto_region 1 with fail
  generalize ((w.alloc (.cells #[.int .i64 c, .int .i64 s, .int .i64 q] 75)).alloc (.cells #[.int .u8 0, .int .u8 0, .int .u8 0, .int .u8 0, .int .i64 0, .int .i64 0, .int .i64 0, .int .i64 0] 136)) = wa at *
  refine held_region (fun w' : World => w'.cell? ⟨w.heap.size, 0, none⟩ = some (.int .i64 c) ∧ w'.cell? ⟨w.heap.size, 1, none⟩ = some (.int .i64 s) ∧ w'.cell? ⟨w.heap.size, 2, none⟩ = some (.int .i64 q)) (by kernel_rfl) ?_
  refine held_take 0 (.pointer (some ⟨w.heap.size, 0, none⟩)) rfl (by kernel_rfl) (by kernel_rfl) (by kernel_rfl) (fun _ _ _ h => h) (.inl ⟨by kernel_rfl, fun w' hw' => by have h4 := hw'.1; have h5 := hw'.2.1; have h6 := hw'.2.2; go_simp⟩) HS0.out ?_
  go_simp
  refine held_take 1 (.int .i64 c) rfl (by kernel_rfl) (by kernel_rfl) (by kernel_rfl) (fun _ _ _ h => h) (.inl ⟨by kernel_rfl, fun w' hw' => by have h4 := hw'.1; have h5 := hw'.2.1; have h6 := hw'.2.2; go_simp⟩) HS0.out ?_
  go_simp
  refine held_take 2 (.pointer (some ⟨w.heap.size, 2, none⟩)) rfl (by kernel_rfl) (by kernel_rfl) (by kernel_rfl) (fun _ _ _ h => h) (.inl ⟨by kernel_rfl, fun w' hw' => by have h4 := hw'.1; have h5 := hw'.2.1; have h6 := hw'.2.2; go_simp⟩) HS0.out ?_
  go_simp
  refine held_take 3 (.int .i64 q) rfl (by kernel_rfl) (by kernel_rfl) (by kernel_rfl) (fun _ _ _ h => h) (.inl ⟨by kernel_rfl, fun w' hw' => by have h4 := hw'.1; have h5 := hw'.2.1; have h6 := hw'.2.2; go_simp⟩) HS0.out ?_
  go_simp
  refine held_take 5 (.pointer (some ⟨w.heap.size, 1, none⟩)) rfl (by kernel_rfl) (by kernel_rfl) (by kernel_rfl) (fun _ _ _ h => h) (.inl ⟨by kernel_rfl, fun w' hw' => by have h4 := hw'.1; have h5 := hw'.2.1; have h6 := hw'.2.2; go_simp⟩) HS0.out ?_
  go_simp
  refine held_take 6 (.int .i64 s) rfl (by kernel_rfl) (by kernel_rfl) (by kernel_rfl) (fun _ _ _ h => h) (.inl ⟨by kernel_rfl, fun w' hw' => by have h4 := hw'.1; have h5 := hw'.2.1; have h6 := hw'.2.2; go_simp⟩) HS0.out ?_
  go_simp
  have HC1 : Hid (Chg 0 0 w wa.drew) := HC0.out.drew
  have HB2 : Hid (wa.drew.heap[w.heap.size + 1]? = some (.cells #[.int .u8 0, .int .u8 0, .int .u8 0, .int .u8 0, .int .i64 0, .int .i64 0, .int .i64 0, .int .i64 0] 136 (0, 0))) := HB1.out
  have hlt2 : w.heap.size + 1 < wa.drew.heap.size := hlt
  generalize wa.drew = w1 at *
  have hN := newHeader_calls w1 1 c q (HC1.out.cell HM.out.1 (by omega)) (HC1.out.cell HM.out.2.1 (by omega)) (HC1.out.cell HM.out.2.2.1 (by omega)) (HC1.out.cell HM.out.2.2.2 (by omega))
  refine held_one 4 rfl rfl (by kernel_rfl) ?_
  refine wp_enter 84 #[.int .i64 1, .int .i64 c, .int .i64 q] (by first | kernel_rfl | go_simp) hN ?_
  rintro e w2 ⟨rfl, h2⟩
  have HS2 : Hid (_ ∧ _ ∧ _) := ⟨h2.cell HS0.out.1 (by omega), h2.cell HS0.out.2.1 (by omega), h2.cell HS0.out.2.2 (by omega)⟩
  have HC2 : Hid _ := HC1.out.trans h2
  have HB3 : Hid (w2.heap[w.heap.size + 1]? = some (.cells #[.int .u8 0, .int .u8 0, .int .u8 0, .int .u8 0, .int .i64 0, .int .i64 0, .int .i64 0, .int .i64 0] 136 (0, 0))) := (h2.block (w.heap.size + 1) hlt2 (by omega)).trans HB2.out
  refine ⟨_, rfl, HS2.out, ?_⟩
  clear hN h2
  go_simp
  refine held_take 7 (.agg #[.int .u8 106, .int .u8 108, .int .u8 111, .int .u8 103, .int .i64 1, .int .i64 c, .int .i64 q, .int .i64 s]) rfl (by kernel_rfl) (by kernel_rfl) (by kernel_rfl) (fun _ _ _ h => h) (.inl ⟨by kernel_rfl, fun w' hw' => by have h4 := hw'.1; have h5 := hw'.2.1; have h6 := hw'.2.2; go_simp⟩) HS2.out ?_
  go_simp
  refine held_one 8 rfl rfl (by kernel_rfl) ?_
  refine wp_store_row 136 (.tmp 2) (.tmp 10) rfl rfl (w.heap.size + 1) rfl [.int .u8 106, .int .u8 108, .int .u8 111, .int .u8 103, .int .i64 1, .int .i64 c, .int .i64 q, .int .i64 s] [.int .u8 0, .int .u8 0, .int .u8 0, .int .u8 0, .int .i64 0, .int .i64 0, .int .i64 0, .int .i64 0] 136 rfl HB3.out rfl (by kernel_rfl) (by simp [Value.oneCell']) ?_
  intro w3 hb3 hc3
  have HS3 : Hid (_ ∧ _ ∧ _) := ⟨hc3.cell HS2.out.1 (by omega), hc3.cell HS2.out.2.1 (by omega), hc3.cell HS2.out.2.2 (by omega)⟩
  have HC3 : Hid _ := HC2.out.step hc3 (by omega)
  have HB4 : Hid _ := hb3
  refine ⟨HS3.out, ?_⟩
  clear hb3 hc3
  refine held_done (by kernel_rfl) (NoPanic.normal ?_)
  go_wp2
  have hb := HB4.out
  exact bodyPost_ret (v := .agg #[.int .u8 106, .int .u8 108, .int .u8 111, .int .u8 103, .int .i64 1, .int .i64 c, .int .i64 q, .int .i64 s]) (by simp [results, Tryz.results73, go_sem, World.cell?, hb]) rfl ⟨rfl, HC3.out⟩

end Go.Proofs.YtahjaejepkgfdaaGreatDoor

namespace Go.Proofs.YtahjaejepkgfdaaGreatDoor
open Go.RowKit

theorem method_wrongS (cs : Array Value) (w : World) : (Go.method 359 136 (.agg cs) "loop.example/s01525/impl.wrong").run Tryz.prog w = .ok (160, .agg cs) w := by kernel_rfl
theorem method_encodedS (cs : Array Value) (w : World) : (Go.method 359 136 (.agg cs) "loop.example/s01525/impl.encoded").run Tryz.prog w = .ok (159, .agg cs) w := by kernel_rfl

set_option maxRecDepth 20000 in
set_option maxHeartbeats 2000000 in
theorem encodeValidS_ok (w : World) (h0 h1 h2 h3 kd it sq st : Int) (hk0 : 0 ≤ kd) (hk1 : kd < 256) (h : OkS it sq st) (hB : Byt (supA h0 h1 h2 h3 kd it sq st)) :
    Calls Tryz.prog 72 #[.iface 136 (.agg #[.int .u8 h0, .int .u8 h1, .int .u8 h2, .int .u8 h3, .int .i64 kd, .int .i64 it, .int .i64 sq, .int .i64 st])] w fun e w' => ∃ g, e = .returned (.slice (some ⟨g, 0, none⟩) 64 64) ∧ OwnB w' w.heap.size 5 (.slice (some ⟨g, 0, none⟩) 64 64) (supL h0 h1 h2 h3 kd it sq st) ∧ Chg 0 0 w w' := by
  obtain ⟨a1, a2, a3, a4, a5, a6⟩ := h
  have hN := superWrong_ok w h0 h1 h2 h3 kd it sq st a1 a2 a3 a4 a5 a6
  have m1 := method_wrongS #[.int .u8 h0, .int .u8 h1, .int .u8 h2, .int .u8 h3, .int .i64 kd, .int .i64 it, .int .i64 sq, .int .i64 st]
  have m2 := method_encodedS #[.int .u8 h0, .int .u8 h1, .int .u8 h2, .int .u8 h3, .int .i64 kd, .int .i64 it, .int .i64 sq, .int .i64 st]
  have hi2 := pn2 (v := it) (by omega) (by omega)
  have hq4 := pn4 (v := sq) (by omega) a2
  have ht2 := pn2 (v := st) a5 (by omega)
  obtain ⟨hc0, hc1⟩ := crcV_range (supA h0 h1 h2 h3 kd it sq st)
  have hc4 := pn4 hc0 hc1
  have hX := fun w => encodedS_calls w h0 h1 h2 h3 kd it sq st hk0 hk1 (by omega) (by omega) (by omega) hi2 hq4 ht2 hc4 hB (by omega)
  have hY := fun w => bytesOf_calls w (supL h0 h1 h2 h3 kd it sq st) (supL_length hi2 hq4 ht2 hc4)
  generalize supL h0 h1 h2 h3 kd it sq st = es at *
  clear hi2 hq4 ht2 hc0 hc1 hc4 hB
  go_enter Tryz.func72, Tryz.ntmps72
  go_wp2_with fail
  refine hN.mono ?_
  rintro e w1 ⟨rfl, h1'⟩
  have HC : Hid (Chg 0 0 w w1) := h1'
  clear hN h1'
  go_wp2_with fail
  refine (isFault_no w1).mono ?_
  rintro e w2 ⟨rfl, h2'⟩
  have HC2 : Hid (Chg 0 0 w w2) := HC.out.trans h2'
  clear h2'
  go_wp2_with fail
  refine (hX _).mono ?_
  rintro e w3 ⟨rfl, h3'⟩
  have HC3 : Hid (Chg 0 0 w w3) := HC2.out.trans h3'
  clear h3'
  go_wp2_with fail
  refine (hY _).mono ?_
  rintro e w4 ⟨g, rfl, o4, h4'⟩
  have HC4 : Hid (Chg 0 0 w w4) := HC3.out.trans h4'
  have HO : Hid (OwnB w4 w.heap.size 5 (.slice (some ⟨g, 0, none⟩) 64 64) es) := o4.base (fun g hg => by have := (o4.lt g hg).1; have := HC3.out.size; omega)
  clear h4' o4 hX hY
  go_wp2
  go_ret
  exact ⟨_, rfl, HO.out, HC4.out⟩

set_option maxRecDepth 20000 in
set_option maxHeartbeats 2000000 in
theorem implJSuper_ok (w : World) (it st sq : Int) (h : OkS it sq st) (hB : Byt (supA 106 108 111 103 1 it sq st))
    (m0 : w.cell? ⟨0, 0, none⟩ = some (.int .u8 106)) (m1 : w.cell? ⟨0, 1, none⟩ = some (.int .u8 108)) (m2 : w.cell? ⟨0, 2, none⟩ = some (.int .u8 111)) (m3 : w.cell? ⟨0, 3, none⟩ = some (.int .u8 103)) :
    Calls Tryz.prog 48 #[.agg #[.int .i64 it, .int .i64 st, .int .i64 sq]] w fun e w' => ∃ g, e = .returned (.slice (some ⟨g, 0, none⟩) 64 64) ∧ OwnB w' w.heap.size 5 (.slice (some ⟨g, 0, none⟩) 64 64) (supL 106 108 111 103 1 it sq st) ∧ Chg 0 0 w w' := by
  have C0 : Chg 0 0 w (w.alloc (.cells #[.int .i64 it, .int .i64 st, .int .i64 sq] 75)) := Chg.alloc (Chg.refl 0 0 w) _
  have hN := superOf_calls (w.alloc (.cells #[.int .i64 it, .int .i64 st, .int .i64 sq] 75)) it st sq (C0.cell m0 (by omega)) (C0.cell m1 (by omega)) (C0.cell m2 (by omega)) (C0.cell m3 (by omega))
  have HC : Hid (Chg 0 0 w (w.alloc (.cells #[.int .i64 it, .int .i64 st, .int .i64 sq] 75))) := C0
  have hX := fun w => encodeValidS_ok w 106 108 111 103 1 it sq st (by omega) (by omega) h hB
  generalize supL 106 108 111 103 1 it sq st = es at *
  clear C0 m0 m1 m2 m3 hB h
  go_enter Tryz.func48, Tryz.ntmps48
  go_wp2_with fail
  generalize w.alloc (.cells #[.int .i64 it, .int .i64 st, .int .i64 sq] 75) = w0 at *
  refine hN.mono ?_
  rintro e w1 ⟨rfl, h1'⟩
  have HC1 : Hid (Chg 0 0 w w1) := HC.out.trans h1'
  clear h1' hN
  go_wp2_with fail
  refine (hX _).mono ?_
  rintro e w2 ⟨g, rfl, o2, h2'⟩
  have HC2 : Hid (Chg 0 0 w w2) := HC1.out.trans h2'
  have HO : Hid (OwnB w2 w.heap.size 5 (.slice (some ⟨g, 0, none⟩) 64 64) es) := o2.base (fun g hg => by have := (o2.lt g hg).1; have := HC1.out.size; omega)
  clear hX o2 h2'
  go_wp2
  go_ret
  exact ⟨_, rfl, HO.out, HC2.out⟩

end Go.Proofs.YtahjaejepkgfdaaGreatDoor
