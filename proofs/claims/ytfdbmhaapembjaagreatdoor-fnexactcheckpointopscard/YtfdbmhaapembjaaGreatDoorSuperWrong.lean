/- wrong of a superblock that is valid, of the program. -/
import Derived.Test.YtfdbmhaapembjaaGreatDoorOpenBlk
import Derived.Deep.RegionWith
namespace Go.Proofs.YtfdbmhaapembjaaGreatDoor
open Go.RowKit

abbrev hd7V (h0 h1 h2 h3 kd it sq : Int) : Value := .agg #[.int .u8 h0, .int .u8 h1, .int .u8 h2, .int .u8 h3, .int .i64 kd, .int .i64 it, .int .i64 sq]

set_option maxRecDepth 20000 in
set_option maxHeartbeats 1000000 in
theorem count_calls (w : World) (h0 h1 h2 h3 kd it sq : Int) :
    Calls Tryz.prog 76 #[hd7V h0 h1 h2 h3 kd it sq] w fun e w' => e = .returned (.int .i64 it) ∧ Chg 0 0 w w' := by
  have HC : Hid (Chg 0 0 w (w.alloc (.cells #[.int .u8 h0, .int .u8 h1, .int .u8 h2, .int .u8 h3, .int .i64 kd, .int .i64 it, .int .i64 sq] 68))) := Chg.alloc (Chg.refl 0 0 w) _
  go_enter Tryz.func76, Tryz.ntmps76
  go_wp2
  go_ret
  exact ⟨rfl, HC.out⟩

set_option maxRecDepth 20000 in
set_option maxHeartbeats 1000000 in
theorem outside_ok (w : World) (h0 h1 h2 h3 kd it sq l m : Int) (a1 : 1 ≤ sq) (a2 : sq ≤ 4294967295) (a3 : l ≤ it) (a4 : it ≤ m) :
    Calls Tryz.prog 83 #[hd7V h0 h1 h2 h3 kd it sq, .int .i64 l, .int .i64 m] w fun e w' => e = .returned .nilIface ∧ Chg 0 0 w w' := by
  have HC : Hid (Chg 0 0 w (w.alloc (.cells #[.int .u8 h0, .int .u8 h1, .int .u8 h2, .int .u8 h3, .int .i64 kd, .int .i64 it, .int .i64 sq] 68))) := Chg.alloc (Chg.refl 0 0 w) _
  have c1 : ¬ sq < 1 := by omega
  have c2 : ¬ 4294967295 < sq := by omega
  have c3 : ¬ it < l := by omega
  have c4 : ¬ m < it := by omega
  go_enter Tryz.func83, Tryz.ntmps83
  go_wp2
  go_ret
  exact ⟨rfl, HC.out⟩

theorem eight {w : World} {s : Nat} {a0 a1 a2 a3 a4 a5 a6 a7 : Value} {t : TypeId} (h : w.heap[s]? = some (.cells #[a0, a1, a2, a3, a4, a5, a6, a7] t (0, 0))) :
    w.cell? ⟨s, 0, none⟩ = some a0 ∧ w.cell? ⟨s, 1, none⟩ = some a1 ∧ w.cell? ⟨s, 2, none⟩ = some a2 ∧ w.cell? ⟨s, 3, none⟩ = some a3 ∧ w.cell? ⟨s, 4, none⟩ = some a4 ∧ w.cell? ⟨s, 5, none⟩ = some a5 ∧ w.cell? ⟨s, 6, none⟩ = some a6 ∧ w.cell? ⟨s, 7, none⟩ = some a7 := by
  simp [World.cell?, h]

set_option maxRecDepth 20000 in
set_option maxHeartbeats 4000000 in
theorem superWrong_ok (w : World) (h0 h1 h2 h3 kd it sq st : Int) (a1 : 1 ≤ sq) (a2 : sq ≤ 4294967295) (a3 : 16 ≤ it) (a4 : it ≤ 512) (a5 : 0 ≤ st) (a6 : st ≤ it) :
    Calls Tryz.prog 78 #[.agg #[.int .u8 h0, .int .u8 h1, .int .u8 h2, .int .u8 h3, .int .i64 kd, .int .i64 it, .int .i64 sq, .int .i64 st]] w fun e w' => e = .returned .nilIface ∧ Chg 0 0 w w' := by
  have HC : Hid (Chg 0 0 w (w.alloc (.cells #[.int .u8 h0, .int .u8 h1, .int .u8 h2, .int .u8 h3, .int .i64 kd, .int .i64 it, .int .i64 sq, .int .i64 st] 70))) := Chg.alloc (Chg.refl 0 0 w) _
  have HB : Hid ((w.alloc (.cells #[.int .u8 h0, .int .u8 h1, .int .u8 h2, .int .u8 h3, .int .i64 kd, .int .i64 it, .int .i64 sq, .int .i64 st] 70)).heap[w.heap.size]? = some (.cells #[.int .u8 h0, .int .u8 h1, .int .u8 h2, .int .u8 h3, .int .i64 kd, .int .i64 it, .int .i64 sq, .int .i64 st] 70 (0, 0))) := heap_new _ _
  obtain ⟨k0, k1, k2, k3, k4, k5, k6, k7⟩ := eight HB.out
  have c1 : decide (st < 0) = false := decide_eq_false (by omega)
  have c2 : ¬ it < st := by omega
  go_enter Tryz.func78, Tryz.ntmps78
  go_wp2
  generalize w.alloc (.cells #[.int .u8 h0, .int .u8 h1, .int .u8 h2, .int .u8 h3, .int .i64 kd, .int .i64 it, .int .i64 sq, .int .i64 st] 70) = w0 at *
  have hN := count_calls w0.drew h0 h1 h2 h3 kd it sq
  go_region_with (go_at_call 76; refine hN.mono ?_; rintro e w1 ⟨rfl, h1'⟩; have y7 := h1'.cell (show w0.drew.cell? ⟨w.heap.size, 7, none⟩ = _ from k7) (by omega))
  all_goals
    have HB1 : Hid (w1.heap[w.heap.size]? = some (.cells #[.int .u8 h0, .int .u8 h1, .int .u8 h2, .int .u8 h3, .int .i64 kd, .int .i64 it, .int .i64 sq, .int .i64 st] 70 (0, 0))) := (h1'.block w.heap.size (lt_of_cell k0) (by omega)).trans HB.out
    have HC1 : Hid (Chg 0 0 w w1) := HC.out.drew.trans h1'
    obtain ⟨y0, y1, y2, y3, y4, y5, y6, y7⟩ := eight HB1.out
    clear h1'
    go_wp2_with fail
    refine (outside_ok _ h0 h1 h2 h3 kd it sq 16 512 a1 a2 a3 a4).mono ?_
    rintro e w2 ⟨rfl, h2'⟩
    have HC2 : Hid (Chg 0 0 w w2) := HC1.out.trans h2'
    clear h2'
    go_wp2
    go_ret
    exact ⟨rfl, HC2.out⟩

end Go.Proofs.YtfdbmhaapembjaaGreatDoor
