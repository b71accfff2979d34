/- startOps of the program at a log that is valid; lists of two operations. -/
import Derived.Test.YthaenahmdnhglaaGreatDoorSpecSuper
import Derived.Test.YthaenahmdnhglaaGreatDoorLogValid
import Derived.Test.YthaenahmdnhglaaGreatDoorFive
import Derived.Test.YthaenahmdnhglaaGreatDoorOps
import Derived.Test.YthaenahmdnhglaaGreatDoorPutByt
namespace Go.Proofs.YthaenahmdnhglaaGreatDoor
open Go.RowKit

theorem okS_of_valid {sz st sq hd us : Int} (h : validLog sz st sq hd us = true) : OkS sz sq hd := by
  unfold validLog at h
  rw [Bool.and_eq_true, decide_eq_true_eq] at h
  obtain ⟨⟨a1, a2⟩, ⟨a3, a4⟩, _, ⟨a5, a6⟩, _⟩ := h.1
  exact ⟨a3, a4, a1, a2, by omega, a6⟩

theorem supA_byt (it sq st : Int) : Byt (supA 106 108 111 103 1 it sq st) := by
  intro x hx
  unfold supA at hx
  simp only [List.mem_append] at hx
  rcases hx with (((hx | hx) | hx) | hx) | hx
  · simp at hx; omega
  · exact putN_byt _ _ x hx
  · exact putN_byt _ _ x hx
  · exact putN_byt _ _ x hx
  · rw [List.mem_replicate] at hx; omega

/-- The two operations. -/
abbrev twoOps (es : List Int) : List Opx := [(1, 1, es), (2, 0, [])]

/-- A list of two operations that has been written down. -/
theorem twoOps_own (w : World) (base g cp : Nat) (es : List Int) (hb : base ≤ w.heap.size) (ho : OwnB w base 5 (.slice (some ⟨g, 0, none⟩) 64 cp) es) :
    ∃ cells dvs, OwnOx (w.alloc (.cells #[.int .i64 1, .int .i64 1, .slice (some ⟨g, 0, none⟩) 64 cp, .int .i64 2, .int .i64 0, .slice none 0 0] 34)) base 34 5 (.slice (some ⟨w.heap.size, 0, none⟩) 2 2) (twoOps es) cells dvs := by
  have hrow := World.ownsRow_lit (base := base) (e := 34) (size := 3) w #[.int .i64 1, .int .i64 1, .slice (some ⟨g, 0, none⟩) 64 cp, .int .i64 2, .int .i64 0, .slice none 0 0] 2 hb (by unfold maxLen; omega) rfl
  have c1 : Chg 0 0 w (w.alloc (.cells #[.int .i64 1, .int .i64 1, .slice (some ⟨g, 0, none⟩) 64 cp, .int .i64 2, .int .i64 0, .slice none 0 0] 34)) := Chg.alloc (Chg.refl 0 0 w) _
  refine ⟨[.int .i64 1, .int .i64 1, .slice (some ⟨g, 0, none⟩) 64 cp, .int .i64 2, .int .i64 0, .slice none 0 0], fun i => if i = 0 then .slice (some ⟨g, 0, none⟩) 64 cp else .slice none 0 0, ?_, ?_, ?_, ?_, ?_, ?_⟩
  · simpa using hrow
  · intro i hi
    rcases i with _ | _ | i
    · rfl
    · rfl
    · have hi2 : i + 1 + 1 < 2 := hi
      omega
  · intro i hi
    rcases i with _ | _ | i
    · rfl
    · rfl
    · have hi2 : i + 1 + 1 < 2 := hi
      omega
  · intro i hi
    rcases i with _ | _ | i
    · rfl
    · rfl
    · have hi2 : i + 1 + 1 < 2 := hi
      omega
  · intro i hi
    rcases i with _ | _ | i
    · exact ho.chg c1 (by intro g _; omega)
    · exact ⟨rfl, Or.inl ⟨rfl, rfl⟩⟩
    · have hi2 : i + 1 + 1 < 2 := hi
      omega
  · intro i j g' hij hj
    rcases j with _ | _ | j
    · omega
    · intro _ h; simp [Value.ownBlock] at h
    · have hj2 : j + 1 + 1 < 2 := hj
      omega

set_option maxRecDepth 20000 in
set_option maxHeartbeats 2000000 in
theorem startOps_ok (w : World) (sz st sq hd us : Int) (hv : validLog sz st sq hd us = true)
    (m0 : w.cell? ⟨0, 0, none⟩ = some (.int .u8 106)) (m1 : w.cell? ⟨0, 1, none⟩ = some (.int .u8 108)) (m2 : w.cell? ⟨0, 2, none⟩ = some (.int .u8 111)) (m3 : w.cell? ⟨0, 3, none⟩ = some (.int .u8 103)) :
    Calls Tryz.prog 13 #[.agg #[.int .i64 sz, .int .i64 st, .int .i64 sq, .int .i64 hd, .int .i64 us]] w fun e w' => ∃ g, e = .returned (.slice (some ⟨g, 0, none⟩) 2 2) ∧ (∃ cells dvs, OwnOx w' w.heap.size 34 5 (.slice (some ⟨g, 0, none⟩) 2 2) (twoOps (supL 106 108 111 103 1 sz sq hd)) cells dvs) ∧ Chg 0 0 w w' := by
  have C0 : Chg 0 0 w (w.alloc (.cells #[.int .i64 sz, .int .i64 st, .int .i64 sq, .int .i64 hd, .int .i64 us] 26)) := Chg.alloc (Chg.refl 0 0 w) _
  have hN := implJSuper_ok (w.alloc (.cells #[.int .i64 sz, .int .i64 st, .int .i64 sq, .int .i64 hd, .int .i64 us] 26)) sz hd sq (okS_of_valid hv) (supA_byt _ _ _) (C0.cell m0 (by omega)) (C0.cell m1 (by omega)) (C0.cell m2 (by omega)) (C0.cell m3 (by omega))
  have HC : Hid (Chg 0 0 w (w.alloc (.cells #[.int .i64 sz, .int .i64 st, .int .i64 sq, .int .i64 hd, .int .i64 us] 26))) := C0
  clear C0 m0 m1 m2 m3 hv
  go_enter Tryz.func13, Tryz.ntmps13
  go_wp2_with fail
  generalize w.alloc (.cells #[.int .i64 sz, .int .i64 st, .int .i64 sq, .int .i64 hd, .int .i64 us] 26) = w0 at *
  refine hN.mono ?_
  rintro e w1 ⟨g, rfl, o1, h1⟩
  have HC1 : Hid (Chg 0 0 w w1) := HC.out.trans h1
  have s1 := HC1.out.size
  have HO : Hid (OwnB w1 w.heap.size 5 (.slice (some ⟨g, 0, none⟩) 64 64) (supL 106 108 111 103 1 sz sq hd)) := o1.base (fun g hg => by have := (o1.lt g hg).1; have := HC.out.size; omega)
  have HX : Hid (∃ cells dvs, OwnOx (w1.alloc (.cells #[.int .i64 1, .int .i64 1, .slice (some ⟨g, 0, none⟩) 64 64, .int .i64 2, .int .i64 0, .slice none 0 0] 34)) w.heap.size 34 5 (.slice (some ⟨w1.heap.size, 0, none⟩) 2 2) (twoOps (supL 106 108 111 103 1 sz sq hd)) cells dvs) := twoOps_own w1 w.heap.size g 64 _ s1 HO.out
  have HC2 : Hid (Chg 0 0 w (w1.alloc (.cells #[.int .i64 1, .int .i64 1, .slice (some ⟨g, 0, none⟩) 64 64, .int .i64 2, .int .i64 0, .slice none 0 0] 34))) := HC1.out.alloc _
  clear hN o1 h1
  go_wp2
  go_ret
  exact ⟨_, rfl, HX.out, HC2.out⟩

end Go.Proofs.YthaenahmdnhglaaGreatDoor
