/- Several short texts in one: ImplSuper, SuperEnc, IsWithin, LogPlace. -/
import Derived.Test.YtkegadjdlkfabaaGreatDoorImplNew
import Derived.Test.YtkegadjdlkfabaaGreatDoorSmall
import Derived.Test.YtkegadjdlkfabaaGreatDoorCells2
import Derived.Deep.RegionWith
import Derived.Deep.DeepCutAuto
import Derived.Test.YtkegadjdlkfabaaGreatDoorOnceP
import Derived.Test.YtkegadjdlkfabaaGreatDoorOkSup
import Derived.Test.YtkegadjdlkfabaaGreatDoorMem
import Derived.Test.YtkegadjdlkfabaaGreatDoorRows
namespace Go.Proofs.YtkegadjdlkfabaaGreatDoor
open Go.RowKit

set_option maxRecDepth 20000 in
set_option maxHeartbeats 2000000 in
theorem superOf_calls (w : World) (c s q : Int) (m0 : w.cell? ⟨0, 0, none⟩ = some (.int .u8 106)) (m1 : w.cell? ⟨0, 1, none⟩ = some (.int .u8 108)) (m2 : w.cell? ⟨0, 2, none⟩ = some (.int .u8 111)) (m3 : w.cell? ⟨0, 3, none⟩ = some (.int .u8 103)) :
    Calls Tryz.prog 30 #[.agg #[.int .i64 c, .int .i64 s, .int .i64 q]] w fun e w' => e = .returned (.agg #[.int .u8 106, .int .u8 108, .int .u8 111, .int .u8 103, .int .i64 1, .int .i64 c, .int .i64 q, .int .i64 s]) ∧ Chg 0 0 w w' := by
  have C0 : Chg 0 0 w ((w.alloc (.cells #[.int .i64 c, .int .i64 s, .int .i64 q] 42)).alloc (.cells #[.int .u8 0, .int .u8 0, .int .u8 0, .int .u8 0, .int .i64 0, .int .i64 0, .int .i64 0, .int .i64 0] 55)) := (Chg.alloc (Chg.refl 0 0 w) _).alloc _
  have B0 : ((w.alloc (.cells #[.int .i64 c, .int .i64 s, .int .i64 q] 42)).alloc (.cells #[.int .u8 0, .int .u8 0, .int .u8 0, .int .u8 0, .int .i64 0, .int .i64 0, .int .i64 0, .int .i64 0] 55)).heap[w.heap.size]? = some (.cells #[.int .i64 c, .int .i64 s, .int .i64 q] 42 (0, 0)) := alloc_two _ _ _
  have B1 : ((w.alloc (.cells #[.int .i64 c, .int .i64 s, .int .i64 q] 42)).alloc (.cells #[.int .u8 0, .int .u8 0, .int .u8 0, .int .u8 0, .int .i64 0, .int .i64 0, .int .i64 0, .int .i64 0] 55)).heap[w.heap.size + 1]? = some (.cells #[.int .u8 0, .int .u8 0, .int .u8 0, .int .u8 0, .int .i64 0, .int .i64 0, .int .i64 0, .int .i64 0] 55 (0, 0)) := alloc_twoN _ _ _
  have hlt : w.heap.size + 1 < ((w.alloc (.cells #[.int .i64 c, .int .i64 s, .int .i64 q] 42)).alloc (.cells #[.int .u8 0, .int .u8 0, .int .u8 0, .int .u8 0, .int .i64 0, .int .i64 0, .int .i64 0, .int .i64 0] 55)).heap.size := (Array.getElem?_eq_some_iff.1 B1).1
  have HM : Hid (w.cell? ⟨0, 0, none⟩ = some (.int .u8 106) ∧ w.cell? ⟨0, 1, none⟩ = some (.int .u8 108) ∧ w.cell? ⟨0, 2, none⟩ = some (.int .u8 111) ∧ w.cell? ⟨0, 3, none⟩ = some (.int .u8 103)) := ⟨m0, m1, m2, m3⟩
  obtain ⟨k0, k1, k2⟩ := trio B0
  have HC0 : Hid (Chg 0 0 w ((w.alloc (.cells #[.int .i64 c, .int .i64 s, .int .i64 q] 42)).alloc (.cells #[.int .u8 0, .int .u8 0, .int .u8 0, .int .u8 0, .int .i64 0, .int .i64 0, .int .i64 0, .int .i64 0] 55))) := C0
  have HB1 : Hid (((w.alloc (.cells #[.int .i64 c, .int .i64 s, .int .i64 q] 42)).alloc (.cells #[.int .u8 0, .int .u8 0, .int .u8 0, .int .u8 0, .int .i64 0, .int .i64 0, .int .i64 0, .int .i64 0] 55)).heap[w.heap.size + 1]? = some (.cells #[.int .u8 0, .int .u8 0, .int .u8 0, .int .u8 0, .int .i64 0, .int .i64 0, .int .i64 0, .int .i64 0] 55 (0, 0))) := B1
  have HS0 : Hid (((w.alloc (.cells #[.int .i64 c, .int .i64 s, .int .i64 q] 42)).alloc (.cells #[.int .u8 0, .int .u8 0, .int .u8 0, .int .u8 0, .int .i64 0, .int .i64 0, .int .i64 0, .int .i64 0] 55)).drew.cell? ⟨w.heap.size, 0, none⟩ = some (.int .i64 c) ∧ ((w.alloc (.cells #[.int .i64 c, .int .i64 s, .int .i64 q] 42)).alloc (.cells #[.int .u8 0, .int .u8 0, .int .u8 0, .int .u8 0, .int .i64 0, .int .i64 0, .int .i64 0, .int .i64 0] 55)).drew.cell? ⟨w.heap.size, 1, none⟩ = some (.int .i64 s) ∧ ((w.alloc (.cells #[.int .i64 c, .int .i64 s, .int .i64 q] 42)).alloc (.cells #[.int .u8 0, .int .u8 0, .int .u8 0, .int .u8 0, .int .i64 0, .int .i64 0, .int .i64 0, .int .i64 0] 55)).drew.cell? ⟨w.heap.size, 2, none⟩ = some (.int .i64 q)) := ⟨k0, k1, k2⟩
  clear C0 B0 B1 m0 m1 m2 m3 k0 k1 k2
  go_enter Tryz.func30, Tryz.ntmps30
  go_upto_region 1 with fail
  generalize ((w.alloc (.cells #[.int .i64 c, .int .i64 s, .int .i64 q] 42)).alloc (.cells #[.int .u8 0, .int .u8 0, .int .u8 0, .int .u8 0, .int .i64 0, .int .i64 0, .int .i64 0, .int .i64 0] 55)) = wa at *
  refine held_region (fun w' : World => w'.cell? ⟨w.heap.size, 0, none⟩ = some (.int .i64 c) ∧ w'.cell? ⟨w.heap.size, 1, none⟩ = some (.int .i64 s) ∧ w'.cell? ⟨w.heap.size, 2, none⟩ = some (.int .i64 q)) (by kernel_rfl) ?_
  refine held_take 0 (.pointer (some ⟨w.heap.size, 0, none⟩)) rfl (by kernel_rfl) (by kernel_rfl) (by kernel_rfl) (fun _ _ _ h => h) (.inl ⟨by kernel_rfl, fun w' hw' => by have h4 := hw'.1; have h5 := hw'.2.1; have h6 := hw'.2.2; go_simp⟩) HS0.out ?_
  go_simp
  refine held_take 1 (.int .i64 c) rfl (by kernel_rfl) (by kernel_rfl) (by kernel_rfl) (fun _ _ _ h => h) (.inl ⟨by kernel_rfl, fun w' hw' => by have h4 := hw'.1; have h5 := hw'.2.1; have h6 := hw'.2.2; go_simp⟩) HS0.out ?_
  go_simp
  refine held_take 2 (.pointer (some ⟨w.heap.size, 2, none⟩)) rfl (by kernel_rfl) (by kernel_rfl) (by kernel_rfl) (fun _ _ _ h => h) (.inl ⟨by kernel_rfl, fun w' hw' => by have h4 := hw'.1; have h5 := hw'.2.1; have h6 := hw'.2.2; go_simp⟩) HS0.out ?_
  go_simp
  refine held_take 3 (.int .i64 q) rfl (by kernel_rfl) (by kernel_rfl) (by kernel_rfl) (fun _ _ _ h => h) (.inl ⟨by kernel_rfl, fun w' hw' => by have h4 := hw'.1; have h5 := hw'.2.1; have h6 := hw'.2.2; go_simp⟩) HS0.out ?_
  go_simp
  refine held_take 5 (.pointer (some ⟨w.heap.size, 1, none⟩)) rfl (by kernel_rfl) (by kernel_rfl) (by kernel_rfl) (fun _ _ _ h => h) (.inl ⟨by kernel_rfl, fun w' hw' => by have h4 := hw'.1; have h5 := hw'.2.1; have h6 := hw'.2.2; go_simp⟩) HS0.out ?_
  go_simp
  refine held_take 6 (.int .i64 s) rfl (by kernel_rfl) (by kernel_rfl) (by kernel_rfl) (fun _ _ _ h => h) (.inl ⟨by kernel_rfl, fun w' hw' => by have h4 := hw'.1; have h5 := hw'.2.1; have h6 := hw'.2.2; go_simp⟩) HS0.out ?_
  go_simp
  have HC1 : Hid (Chg 0 0 w wa.drew) := HC0.out.drew
  have HB2 : Hid (wa.drew.heap[w.heap.size + 1]? = some (.cells #[.int .u8 0, .int .u8 0, .int .u8 0, .int .u8 0, .int .i64 0, .int .i64 0, .int .i64 0, .int .i64 0] 55 (0, 0))) := HB1.out
  have hlt2 : w.heap.size + 1 < wa.drew.heap.size := hlt
  generalize wa.drew = w1 at *
  have hN := newHeader_calls w1 1 c q (HC1.out.cell HM.out.1 (by omega)) (HC1.out.cell HM.out.2.1 (by omega)) (HC1.out.cell HM.out.2.2.1 (by omega)) (HC1.out.cell HM.out.2.2.2 (by omega))
  refine held_one 4 rfl rfl (by kernel_rfl) ?_
  refine wp_enter 36 #[.int .i64 1, .int .i64 c, .int .i64 q] (by first | kernel_rfl | go_simp) hN ?_
  rintro e w2 ⟨rfl, h2⟩
  have HS2 : Hid (_ ∧ _ ∧ _) := ⟨h2.cell HS0.out.1 (by omega), h2.cell HS0.out.2.1 (by omega), h2.cell HS0.out.2.2 (by omega)⟩
  have HC2 : Hid _ := HC1.out.trans h2
  have HB3 : Hid (w2.heap[w.heap.size + 1]? = some (.cells #[.int .u8 0, .int .u8 0, .int .u8 0, .int .u8 0, .int .i64 0, .int .i64 0, .int .i64 0, .int .i64 0] 55 (0, 0))) := (h2.block (w.heap.size + 1) hlt2 (by omega)).trans HB2.out
  refine ⟨_, rfl, HS2.out, ?_⟩
  clear hN h2
  go_simp
  refine held_take 7 (.agg #[.int .u8 106, .int .u8 108, .int .u8 111, .int .u8 103, .int .i64 1, .int .i64 c, .int .i64 q, .int .i64 s]) rfl (by kernel_rfl) (by kernel_rfl) (by kernel_rfl) (fun _ _ _ h => h) (.inl ⟨by kernel_rfl, fun w' hw' => by have h4 := hw'.1; have h5 := hw'.2.1; have h6 := hw'.2.2; go_simp⟩) HS2.out ?_
  go_simp
  refine held_one 8 rfl rfl (by kernel_rfl) ?_
  refine wp_store_row 55 (.tmp 2) (.tmp 10) rfl rfl (w.heap.size + 1) rfl [.int .u8 106, .int .u8 108, .int .u8 111, .int .u8 103, .int .i64 1, .int .i64 c, .int .i64 q, .int .i64 s] [.int .u8 0, .int .u8 0, .int .u8 0, .int .u8 0, .int .i64 0, .int .i64 0, .int .i64 0, .int .i64 0] 55 rfl HB3.out rfl (by kernel_rfl) (by simp [Value.oneCell']) ?_
  intro w3 hb3 hc3
  have HS3 : Hid (_ ∧ _ ∧ _) := ⟨hc3.cell HS2.out.1 (by omega), hc3.cell HS2.out.2.1 (by omega), hc3.cell HS2.out.2.2 (by omega)⟩
  have HC3 : Hid _ := HC2.out.step hc3 (by omega)
  have HB4 : Hid _ := hb3
  refine ⟨HS3.out, ?_⟩
  clear hb3 hc3
  refine held_done (by kernel_rfl) (NoPanic.normal ?_)
  go_wp2
  have hb := HB4.out
  exact bodyPost_ret (v := .agg #[.int .u8 106, .int .u8 108, .int .u8 111, .int .u8 103, .int .i64 1, .int .i64 c, .int .i64 q, .int .i64 s]) (by simp [results, Tryz.results30, go_sem, World.cell?, hb]) rfl ⟨rfl, HC3.out⟩

end Go.Proofs.YtkegadjdlkfabaaGreatDoor

namespace Go.Proofs.YtkegadjdlkfabaaGreatDoor
open Go.RowKit

theorem method_wrongS (cs : Array Value) (w : World) : (Go.method 278 55 (.agg cs) "loop.example/s01525/impl.wrong").run Tryz.prog w = .ok (65, .agg cs) w := by kernel_rfl
theorem method_encodedS (cs : Array Value) (w : World) : (Go.method 278 55 (.agg cs) "loop.example/s01525/impl.encoded").run Tryz.prog w = .ok (64, .agg cs) w := by kernel_rfl

set_option maxRecDepth 20000 in
set_option maxHeartbeats 2000000 in
theorem encodeValidS_ok (w : World) (h0 h1 h2 h3 kd it sq st : Int) (hk0 : 0 ≤ kd) (hk1 : kd < 256) (h : OkS it sq st) (hB : Byt (supA h0 h1 h2 h3 kd it sq st)) :
    Calls Tryz.prog 29 #[.iface 55 (.agg #[.int .u8 h0, .int .u8 h1, .int .u8 h2, .int .u8 h3, .int .i64 kd, .int .i64 it, .int .i64 sq, .int .i64 st])] w fun e w' => ∃ g, e = .returned (.slice (some ⟨g, 0, none⟩) 64 64) ∧ OwnB w' w.heap.size 5 (.slice (some ⟨g, 0, none⟩) 64 64) (supL h0 h1 h2 h3 kd it sq st) ∧ Chg 0 0 w w' := by
  obtain ⟨a1, a2, a3, a4, a5, a6⟩ := h
  have hN := superWrong_ok w h0 h1 h2 h3 kd it sq st a1 a2 a3 a4 a5 a6
  have m1 := method_wrongS #[.int .u8 h0, .int .u8 h1, .int .u8 h2, .int .u8 h3, .int .i64 kd, .int .i64 it, .int .i64 sq, .int .i64 st]
  have m2 := method_encodedS #[.int .u8 h0, .int .u8 h1, .int .u8 h2, .int .u8 h3, .int .i64 kd, .int .i64 it, .int .i64 sq, .int .i64 st]
  have hi2 := pn2 (v := it) (by omega) (by omega)
  have hq4 := pn4 (v := sq) (by omega) a2
  have ht2 := pn2 (v := st) a5 (by omega)
  obtain ⟨hc0, hc1⟩ := crcV_range (supA h0 h1 h2 h3 kd it sq st)
  have hc4 := pn4 hc0 hc1
  have hX := fun w => encodedS_calls w h0 h1 h2 h3 kd it sq st hk0 hk1 (by omega) (by omega) (by omega) hi2 hq4 ht2 hc4 hB (by omega)
  have hY := fun w => bytesOf_calls w (supL h0 h1 h2 h3 kd it sq st) (supL_length hi2 hq4 ht2 hc4)
  generalize supL h0 h1 h2 h3 kd it sq st = es at *
  clear hi2 hq4 ht2 hc0 hc1 hc4 hB
  go_enter Tryz.func29, Tryz.ntmps29
  go_wp2_with fail
  refine hN.mono ?_
  rintro e w1 ⟨rfl, h1'⟩
  have HC : Hid (Chg 0 0 w w1) := h1'
  clear hN h1'
  go_wp2_with fail
  refine (isFault_no w1).mono ?_
  rintro e w2 ⟨rfl, h2'⟩
  have HC2 : Hid (Chg 0 0 w w2) := HC.out.trans h2'
  clear h2'
  go_wp2_with fail
  refine (hX _).mono ?_
  rintro e w3 ⟨rfl, h3'⟩
  have HC3 : Hid (Chg 0 0 w w3) := HC2.out.trans h3'
  clear h3'
  go_wp2_with fail
  refine (hY _).mono ?_
  rintro e w4 ⟨g, rfl, o4, h4'⟩
  have HC4 : Hid (Chg 0 0 w w4) := HC3.out.trans h4'
  have HO : Hid (OwnB w4 w.heap.size 5 (.slice (some ⟨g, 0, none⟩) 64 64) es) := o4.base (fun g hg => by have := (o4.lt g hg).1; have := HC3.out.size; omega)
  clear h4' o4 hX hY
  go_wp2
  go_ret
  exact ⟨_, rfl, HO.out, HC4.out⟩

set_option maxRecDepth 20000 in
set_option maxHeartbeats 2000000 in
theorem implJSuper_ok (w : World) (it st sq : Int) (h : OkS it sq st) (hB : Byt (supA 106 108 111 103 1 it sq st))
    (m0 : w.cell? ⟨0, 0, none⟩ = some (.int .u8 106)) (m1 : w.cell? ⟨0, 1, none⟩ = some (.int .u8 108)) (m2 : w.cell? ⟨0, 2, none⟩ = some (.int .u8 111)) (m3 : w.cell? ⟨0, 3, none⟩ = some (.int .u8 103)) :
    Calls Tryz.prog 22 #[.agg #[.int .i64 it, .int .i64 st, .int .i64 sq]] w fun e w' => ∃ g, e = .returned (.slice (some ⟨g, 0, none⟩) 64 64) ∧ OwnB w' w.heap.size 5 (.slice (some ⟨g, 0, none⟩) 64 64) (supL 106 108 111 103 1 it sq st) ∧ Chg 0 0 w w' := by
  have C0 : Chg 0 0 w (w.alloc (.cells #[.int .i64 it, .int .i64 st, .int .i64 sq] 42)) := Chg.alloc (Chg.refl 0 0 w) _
  have hN := superOf_calls (w.alloc (.cells #[.int .i64 it, .int .i64 st, .int .i64 sq] 42)) it st sq (C0.cell m0 (by omega)) (C0.cell m1 (by omega)) (C0.cell m2 (by omega)) (C0.cell m3 (by omega))
  have HC : Hid (Chg 0 0 w (w.alloc (.cells #[.int .i64 it, .int .i64 st, .int .i64 sq] 42))) := C0
  have hX := fun w => encodeValidS_ok w 106 108 111 103 1 it sq st (by omega) (by omega) h hB
  generalize supL 106 108 111 103 1 it sq st = es at *
  clear C0 m0 m1 m2 m3 hB h
  go_enter Tryz.func22, Tryz.ntmps22
  go_wp2_with fail
  generalize w.alloc (.cells #[.int .i64 it, .int .i64 st, .int .i64 sq] 42) = w0 at *
  refine hN.mono ?_
  rintro e w1 ⟨rfl, h1'⟩
  have HC1 : Hid (Chg 0 0 w w1) := HC.out.trans h1'
  clear h1' hN
  go_wp2_with fail
  refine (hX _).mono ?_
  rintro e w2 ⟨g, rfl, o2, h2'⟩
  have HC2 : Hid (Chg 0 0 w w2) := HC1.out.trans h2'
  have HO : Hid (OwnB w2 w.heap.size 5 (.slice (some ⟨g, 0, none⟩) 64 64) es) := o2.base (fun g hg => by have := (o2.lt g hg).1; have := HC1.out.size; omega)
  clear hX o2 h2'
  go_wp2
  go_ret
  exact ⟨_, rfl, HO.out, HC2.out⟩

end Go.Proofs.YtkegadjdlkfabaaGreatDoor

namespace Go.Proofs.YtkegadjdlkfabaaGreatDoor
open Go.RowKit

set_option maxHeartbeats 400000 in
theorem isWithin_calls (w : World) (v l m : Int) : Calls Tryz.prog 20 #[.int .i64 v, .int .i64 l, .int .i64 m] w fun e w' => e = .returned (.bool (decide (l ≤ v) && decide (v ≤ m))) ∧ w' = w := by
  by_cases h1 : l ≤ v
  · by_cases h2 : v ≤ m
    · rw [decide_eq_true h1, decide_eq_true h2]
      go_enter Tryz.func20, Tryz.ntmps20
      go_wp2
      go_ret
      exact ⟨rfl, rfl⟩
    · rw [decide_eq_true h1, decide_eq_false h2]
      go_enter Tryz.func20, Tryz.ntmps20
      go_wp2
      go_ret
      exact ⟨rfl, rfl⟩
  · rw [decide_eq_false h1]
    go_enter Tryz.func20, Tryz.ntmps20
    go_wp2
    go_ret
    exact ⟨rfl, rfl⟩

end Go.Proofs.YtkegadjdlkfabaaGreatDoor

namespace Go.Proofs.YtkegadjdlkfabaaGreatDoor
open Go.RowKit

def placeI (size p n : Int) : Int := (p - 1 + n) % size + 1

set_option maxHeartbeats 400000 in
theorem l4Place_calls (w : World) (size p n : Int) (h1 : 16 ≤ size) (h2 : size ≤ 512) (h3 : 1 ≤ p) (h4 : p ≤ 512) (h5 : 0 ≤ n) (h6 : n ≤ 512) :
    Calls Tryz.prog 18 #[.int .i64 size, .int .i64 p, .int .i64 n] w fun e w' => e = .returned (.int .i64 (placeI size p n)) ∧ w' = w := by
  have hm := Int.emod_nonneg (p - 1 + n) (b := size) (by omega)
  have hm2 := Int.emod_lt_of_pos (p - 1 + n) (b := size) (by omega)
  go_enter Tryz.func18, Tryz.ntmps18
  go_wp2
  go_ret
  exact ⟨rfl, rfl⟩

set_option maxHeartbeats 400000 in
theorem positionFrom_calls (w : World) (size p n : Int) (h1 : 16 ≤ size) (h2 : size ≤ 512) (h3 : 1 ≤ p) (h4 : p ≤ 512) (h5 : 0 ≤ n) (h6 : n ≤ 512) :
    Calls Tryz.prog 21 #[.int .i64 p, .int .i64 n, .int .i64 size] w fun e w' => e = .returned (.int .i64 (placeI size p n)) ∧ w' = w := by
  have hm := Int.emod_nonneg (p - 1 + n) (b := size) (by omega)
  have hm2 := Int.emod_lt_of_pos (p - 1 + n) (b := size) (by omega)
  go_enter Tryz.func21, Tryz.ntmps21
  go_wp2
  go_ret
  exact ⟨rfl, rfl⟩

end Go.Proofs.YtkegadjdlkfabaaGreatDoor
