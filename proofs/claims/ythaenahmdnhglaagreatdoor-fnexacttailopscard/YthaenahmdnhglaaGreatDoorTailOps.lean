/- TailOps of the program and of the model. -/
import Derived.Test.YthaenahmdnhglaaGreatDoorTailStart
namespace Go.Proofs.YthaenahmdnhglaaGreatDoor
open Go.RowKit

/-- TailOps. -/
def tailO (sz st sq hd us : Int) : List Opx := if validLog sz st sq hd us = true ∧ us ≠ 0 then twoOps (supL 106 108 111 103 1 sz sq hd) else []

theorem OwnOx.none (w : World) (base : Nat) (eO eB : TypeId) : OwnOx w base eO eB (.slice .none 0 0) [] [] (fun _ => .slice .none 0 0) :=
  ⟨⟨rfl, Or.inl ⟨rfl, rfl⟩⟩, fun i h => absurd h (Nat.not_lt_zero i), fun i h => absurd h (Nat.not_lt_zero i), fun i h => absurd h (Nat.not_lt_zero i), fun i h => absurd h (Nat.not_lt_zero i), fun _ j _ _ h => absurd h (Nat.not_lt_zero j)⟩

set_option maxRecDepth 20000 in
set_option maxHeartbeats 2000000 in
theorem implTail_calls (w : World) (sz st sq hd us : Int)
    (m0 : w.cell? ⟨0, 0, none⟩ = some (.int .u8 106)) (m1 : w.cell? ⟨0, 1, none⟩ = some (.int .u8 108)) (m2 : w.cell? ⟨0, 2, none⟩ = some (.int .u8 111)) (m3 : w.cell? ⟨0, 3, none⟩ = some (.int .u8 103)) :
    Calls Tryz.prog 6 #[.agg #[.int .i64 sz, .int .i64 st, .int .i64 sq, .int .i64 hd, .int .i64 us]] w fun e w' => ∃ v, e = .returned v ∧ (∃ cells dvs, OwnOx w' w.heap.size 34 5 v (tailO sz st sq hd us) cells dvs) ∧ Chg 0 0 w w' := by
  have C0 : Chg 0 0 w (w.alloc (.cells #[.int .i64 sz, .int .i64 st, .int .i64 sq, .int .i64 hd, .int .i64 us] 26)) := Chg.alloc (Chg.refl 0 0 w) _
  have B0 := heap_new w (.cells #[.int .i64 sz, .int .i64 st, .int .i64 sq, .int .i64 hd, .int .i64 us] 26)
  have s0 : (w.alloc (.cells #[.int .i64 sz, .int .i64 st, .int .i64 sq, .int .i64 hd, .int .i64 us] 26)).heap.size = w.heap.size + 1 := by simp
  have HM : Hid (w.cell? ⟨0, 0, none⟩ = some (.int .u8 106) ∧ w.cell? ⟨0, 1, none⟩ = some (.int .u8 108) ∧ w.cell? ⟨0, 2, none⟩ = some (.int .u8 111) ∧ w.cell? ⟨0, 3, none⟩ = some (.int .u8 103)) := ⟨m0, m1, m2, m3⟩
  have HC : Hid (Chg 0 0 w (w.alloc (.cells #[.int .i64 sz, .int .i64 st, .int .i64 sq, .int .i64 hd, .int .i64 us] 26))) := C0
  have HB : Hid ((w.alloc (.cells #[.int .i64 sz, .int .i64 st, .int .i64 sq, .int .i64 hd, .int .i64 us] 26)).heap[w.heap.size]? = some (.cells #[.int .i64 sz, .int .i64 st, .int .i64 sq, .int .i64 hd, .int .i64 us] 26 (0, 0))) := B0
  clear C0 B0 m0 m1 m2 m3
  go_enter Tryz.func6, Tryz.ntmps6
  go_wp2_with fail
  generalize w.alloc (.cells #[.int .i64 sz, .int .i64 st, .int .i64 sq, .int .i64 hd, .int .i64 us] 26) = w0 at *
  refine (implValidLog_calls _ sz st sq hd us).mono ?_
  rintro e w1 ⟨rfl, h1⟩
  have HC1 : Hid (Chg 0 0 w w1) := HC.out.trans h1
  have HB1 : Hid (w1.heap[w.heap.size]? = some (.cells #[.int .i64 sz, .int .i64 st, .int .i64 sq, .int .i64 hd, .int .i64 us] 26 (0, 0))) := (h1.block _ (by omega) (by omega)).trans HB.out
  obtain ⟨k0, k1, k2, k3, k4⟩ := five_cells HB1.out
  have s1 := h1.size
  clear h1
  by_cases hv : validLog sz st sq hd us = true
  case neg =>
    have Ht : Hid (tailO sz st sq hd us = []) := by show _ = _; unfold tailO; rw [if_neg (fun h => hv h.1)]
    rw [Bool.not_eq_true] at hv
    rw [hv]
    clear hv
    go_wp2
    go_ret
    exact ⟨_, rfl, by rw [Ht.out]; exact ⟨_, _, OwnOx.none _ _ _ _⟩, HC1.out⟩
  by_cases hu : us = 0
  · subst hu
    have Ht : Hid (tailO sz st sq hd 0 = []) := by show _ = _; unfold tailO; rw [if_neg (fun h => h.2 rfl)]
    rw [hv]
    clear hv
    go_wp2
    go_ret
    exact ⟨_, rfl, by rw [Ht.out]; exact ⟨_, _, OwnOx.none _ _ _ _⟩, HC1.out⟩
  have Ht : Hid (tailO sz st sq hd us = twoOps (supL 106 108 111 103 1 sz sq hd)) := by show _ = _; unfold tailO; rw [if_pos ⟨hv, hu⟩]
  have hN := startOps_ok w1 sz st sq hd us hv (HC1.out.cell HM.out.1 (by omega)) (HC1.out.cell HM.out.2.1 (by omega)) (HC1.out.cell HM.out.2.2.1 (by omega)) (HC1.out.cell HM.out.2.2.2 (by omega))
  have hue : (us == 0) = false := by simpa using hu
  rw [hv]
  clear hv hu
  go_wp2_with fail
  refine hN.mono ?_
  rintro e w2 ⟨g, rfl, ⟨cells, dvs, ho⟩, h2⟩
  have HC2 : Hid (Chg 0 0 w w2) := HC1.out.trans h2
  have HO : Hid (OwnOx w2 w1.heap.size 34 5 (.slice (some ⟨g, 0, none⟩) 2 2) (twoOps (supL 106 108 111 103 1 sz sq hd)) cells dvs) := ho
  have HX : Hid (OwnOx w2 w.heap.size 34 5 (.slice (some ⟨g, 0, none⟩) 2 2) (twoOps (supL 106 108 111 103 1 sz sq hd)) cells dvs) := by
    have := HC1.out.size
    refine ⟨?_, ho.at0, ho.at1, ho.at2, fun i hi => (ho.data i hi).base (fun g hg => by have := ((ho.data i hi).lt g hg).1; omega), ho.apart⟩
    obtain ⟨r1, r2⟩ := ho.row
    refine ⟨r1, ?_⟩
    rcases r2 with r2 | ⟨g', cap, cur, e, hg, r⟩
    · exact Or.inl r2
    · exact Or.inr ⟨g', cap, cur, e, by omega, r⟩
  clear hN ho h2
  go_wp2
  go_ret
  exact ⟨_, rfl, by rw [Ht.out]; exact ⟨_, _, HX.out⟩, HC2.out⟩

end Go.Proofs.YthaenahmdnhglaaGreatDoor
