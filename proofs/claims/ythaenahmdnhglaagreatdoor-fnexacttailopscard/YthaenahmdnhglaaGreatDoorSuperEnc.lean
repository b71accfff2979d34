/- encodeValid of a superblock that is valid; EncodeJSuper of the program there. -/
import Derived.Test.YthaenahmdnhglaaGreatDoorSuperWrong
import Derived.Test.YthaenahmdnhglaaGreatDoorPutLen
import Derived.Test.YthaenahmdnhglaaGreatDoorImplEncS
import Derived.Test.YthaenahmdnhglaaGreatDoorImplSuper
namespace Go.Proofs.YthaenahmdnhglaaGreatDoor
open Go.RowKit

theorem method_wrongS (cs : Array Value) (w : World) : (Go.method 278 55 (.agg cs) "loop.example/s01525/impl.wrong").run Tryz.prog w = .ok (65, .agg cs) w := by kernel_rfl
theorem method_encodedS (cs : Array Value) (w : World) : (Go.method 278 55 (.agg cs) "loop.example/s01525/impl.encoded").run Tryz.prog w = .ok (64, .agg cs) w := by kernel_rfl

theorem supL_length {h0 h1 h2 h3 kd it sq st : Int} (hi2 : (putN it 2).length = 2) (hq4 : (putN sq 4).length = 4) (ht2 : (putN st 2).length = 2) (hc4 : (putN (crcV (supA h0 h1 h2 h3 kd it sq st)) 4).length = 4) : (supL h0 h1 h2 h3 kd it sq st).length = 64 := by
  unfold supL; rw [List.length_append, supA_length hi2 hq4 ht2, hc4]

/-- The numbers of a superblock that is valid. -/
structure OkS (it sq st : Int) : Prop where
  a1 : 1 ≤ sq
  a2 : sq ≤ 4294967295
  a3 : 16 ≤ it
  a4 : it ≤ 512
  a5 : 0 ≤ st
  a6 : st ≤ it

set_option maxRecDepth 20000 in
set_option maxHeartbeats 2000000 in
theorem encodeValidS_ok (w : World) (h0 h1 h2 h3 kd it sq st : Int) (hk0 : 0 ≤ kd) (hk1 : kd < 256) (h : OkS it sq st) (hB : Byt (supA h0 h1 h2 h3 kd it sq st)) :
    Calls Tryz.prog 29 #[.iface 55 (.agg #[.int .u8 h0, .int .u8 h1, .int .u8 h2, .int .u8 h3, .int .i64 kd, .int .i64 it, .int .i64 sq, .int .i64 st])] w fun e w' => ∃ g, e = .returned (.slice (some ⟨g, 0, none⟩) 64 64) ∧ OwnB w' w.heap.size 5 (.slice (some ⟨g, 0, none⟩) 64 64) (supL h0 h1 h2 h3 kd it sq st) ∧ Chg 0 0 w w' := by
  obtain ⟨a1, a2, a3, a4, a5, a6⟩ := h
  have hN := superWrong_ok w h0 h1 h2 h3 kd it sq st a1 a2 a3 a4 a5 a6
  have m1 := method_wrongS #[.int .u8 h0, .int .u8 h1, .int .u8 h2, .int .u8 h3, .int .i64 kd, .int .i64 it, .int .i64 sq, .int .i64 st]
  have m2 := method_encodedS #[.int .u8 h0, .int .u8 h1, .int .u8 h2, .int .u8 h3, .int .i64 kd, .int .i64 it, .int .i64 sq, .int .i64 st]
  have hi2 := pn2 (v := it) (by omega) (by omega)
  have hq4 := pn4 (v := sq) (by omega) a2
  have ht2 := pn2 (v := st) a5 (by omega)
  obtain ⟨hc0, hc1⟩ := crcV_range (supA h0 h1 h2 h3 kd it sq st)
  have hc4 := pn4 hc0 hc1
  have hX := fun w => encodedS_calls w h0 h1 h2 h3 kd it sq st hk0 hk1 (by omega) (by omega) (by omega) hi2 hq4 ht2 hc4 hB (by omega)
  have hY := fun w => bytesOf_calls w (supL h0 h1 h2 h3 kd it sq st) (supL_length hi2 hq4 ht2 hc4)
  generalize supL h0 h1 h2 h3 kd it sq st = es at *
  clear hi2 hq4 ht2 hc0 hc1 hc4 hB
  go_enter Tryz.func29, Tryz.ntmps29
  go_wp2_with fail
  refine hN.mono ?_
  rintro e w1 ⟨rfl, h1'⟩
  have HC : Hid (Chg 0 0 w w1) := h1'
  clear hN h1'
  go_wp2_with fail
  refine (isFault_no w1).mono ?_
  rintro e w2 ⟨rfl, h2'⟩
  have HC2 : Hid (Chg 0 0 w w2) := HC.out.trans h2'
  clear h2'
  go_wp2_with fail
  refine (hX _).mono ?_
  rintro e w3 ⟨rfl, h3'⟩
  have HC3 : Hid (Chg 0 0 w w3) := HC2.out.trans h3'
  clear h3'
  go_wp2_with fail
  refine (hY _).mono ?_
  rintro e w4 ⟨g, rfl, o4, h4'⟩
  have HC4 : Hid (Chg 0 0 w w4) := HC3.out.trans h4'
  have HO : Hid (OwnB w4 w.heap.size 5 (.slice (some ⟨g, 0, none⟩) 64 64) es) := o4.base (fun g hg => by have := (o4.lt g hg).1; have := HC3.out.size; omega)
  clear h4' o4 hX hY
  go_wp2
  go_ret
  exact ⟨_, rfl, HO.out, HC4.out⟩

set_option maxRecDepth 20000 in
set_option maxHeartbeats 2000000 in
theorem implJSuper_ok (w : World) (it st sq : Int) (h : OkS it sq st) (hB : Byt (supA 106 108 111 103 1 it sq st))
    (m0 : w.cell? ⟨0, 0, none⟩ = some (.int .u8 106)) (m1 : w.cell? ⟨0, 1, none⟩ = some (.int .u8 108)) (m2 : w.cell? ⟨0, 2, none⟩ = some (.int .u8 111)) (m3 : w.cell? ⟨0, 3, none⟩ = some (.int .u8 103)) :
    Calls Tryz.prog 22 #[.agg #[.int .i64 it, .int .i64 st, .int .i64 sq]] w fun e w' => ∃ g, e = .returned (.slice (some ⟨g, 0, none⟩) 64 64) ∧ OwnB w' w.heap.size 5 (.slice (some ⟨g, 0, none⟩) 64 64) (supL 106 108 111 103 1 it sq st) ∧ Chg 0 0 w w' := by
  have C0 : Chg 0 0 w (w.alloc (.cells #[.int .i64 it, .int .i64 st, .int .i64 sq] 42)) := Chg.alloc (Chg.refl 0 0 w) _
  have hN := superOf_calls (w.alloc (.cells #[.int .i64 it, .int .i64 st, .int .i64 sq] 42)) it st sq (C0.cell m0 (by omega)) (C0.cell m1 (by omega)) (C0.cell m2 (by omega)) (C0.cell m3 (by omega))
  have HC : Hid (Chg 0 0 w (w.alloc (.cells #[.int .i64 it, .int .i64 st, .int .i64 sq] 42))) := C0
  have hX := fun w => encodeValidS_ok w 106 108 111 103 1 it sq st (by omega) (by omega) h hB
  generalize supL 106 108 111 103 1 it sq st = es at *
  clear C0 m0 m1 m2 m3 hB h
  go_enter Tryz.func22, Tryz.ntmps22
  go_wp2_with fail
  generalize w.alloc (.cells #[.int .i64 it, .int .i64 st, .int .i64 sq] 42) = w0 at *
  refine hN.mono ?_
  rintro e w1 ⟨rfl, h1'⟩
  have HC1 : Hid (Chg 0 0 w w1) := HC.out.trans h1'
  clear h1' hN
  go_wp2_with fail
  refine (hX _).mono ?_
  rintro e w2 ⟨g, rfl, o2, h2'⟩
  have HC2 : Hid (Chg 0 0 w w2) := HC1.out.trans h2'
  have HO : Hid (OwnB w2 w.heap.size 5 (.slice (some ⟨g, 0, none⟩) 64 64) es) := o2.base (fun g hg => by have := (o2.lt g hg).1; have := HC1.out.size; omega)
  clear hX o2 h2'
  go_wp2
  go_ret
  exact ⟨_, rfl, HO.out, HC2.out⟩

end Go.Proofs.YthaenahmdnhglaaGreatDoor
