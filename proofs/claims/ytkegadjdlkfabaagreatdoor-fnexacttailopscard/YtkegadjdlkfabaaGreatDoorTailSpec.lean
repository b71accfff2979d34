/- Several short texts in one: TailStart, TailOps, SuperOp, TailSpec. -/
import Derived.Test.YtkegadjdlkfabaaGreatDoorImplNew
import Derived.Test.YtkegadjdlkfabaaGreatDoorLogPlace
import Derived.Test.YtkegadjdlkfabaaGreatDoorOps
import Derived.Test.YtkegadjdlkfabaaGreatDoorOnceP
namespace Go.Proofs.YtkegadjdlkfabaaGreatDoor
open Go.RowKit

theorem okS_of_valid {sz st sq hd us : Int} (h : validLog sz st sq hd us = true) : OkS sz sq hd := by
  unfold validLog at h
  rw [Bool.and_eq_true, decide_eq_true_eq] at h
  obtain ⟨⟨a1, a2⟩, ⟨a3, a4⟩, _, ⟨a5, a6⟩, _⟩ := h.1
  exact ⟨a3, a4, a1, a2, by omega, a6⟩

theorem supA_byt (it sq st : Int) : Byt (supA 106 108 111 103 1 it sq st) := by
  intro x hx
  unfold supA at hx
  simp only [List.mem_append] at hx
  rcases hx with (((hx | hx) | hx) | hx) | hx
  · simp at hx; omega
  · exact putN_byt _ _ x hx
  · exact putN_byt _ _ x hx
  · exact putN_byt _ _ x hx
  · rw [List.mem_replicate] at hx; omega

/-- The two operations. -/
abbrev twoOps (es : List Int) : List Opx := [(1, 1, es), (2, 0, [])]

/-- A list of two operations that has been written down. -/
theorem twoOps_own (w : World) (base g cp : Nat) (es : List Int) (hb : base ≤ w.heap.size) (ho : OwnB w base 5 (.slice (some ⟨g, 0, none⟩) 64 cp) es) :
    ∃ cells dvs, OwnOx (w.alloc (.cells #[.int .i64 1, .int .i64 1, .slice (some ⟨g, 0, none⟩) 64 cp, .int .i64 2, .int .i64 0, .slice none 0 0] 34)) base 34 5 (.slice (some ⟨w.heap.size, 0, none⟩) 2 2) (twoOps es) cells dvs := by
  have hrow := World.ownsRow_lit (base := base) (e := 34) (size := 3) w #[.int .i64 1, .int .i64 1, .slice (some ⟨g, 0, none⟩) 64 cp, .int .i64 2, .int .i64 0, .slice none 0 0] 2 hb (by unfold maxLen; omega) rfl
  have c1 : Chg 0 0 w (w.alloc (.cells #[.int .i64 1, .int .i64 1, .slice (some ⟨g, 0, none⟩) 64 cp, .int .i64 2, .int .i64 0, .slice none 0 0] 34)) := Chg.alloc (Chg.refl 0 0 w) _
  refine ⟨[.int .i64 1, .int .i64 1, .slice (some ⟨g, 0, none⟩) 64 cp, .int .i64 2, .int .i64 0, .slice none 0 0], fun i => if i = 0 then .slice (some ⟨g, 0, none⟩) 64 cp else .slice none 0 0, ?_, ?_, ?_, ?_, ?_, ?_⟩
  · simpa using hrow
  · intro i hi
    rcases i with _ | _ | i
    · rfl
    · rfl
    · have hi2 : i + 1 + 1 < 2 := hi
      omega
  · intro i hi
    rcases i with _ | _ | i
    · rfl
    · rfl
    · have hi2 : i + 1 + 1 < 2 := hi
      omega
  · intro i hi
    rcases i with _ | _ | i
    · rfl
    · rfl
    · have hi2 : i + 1 + 1 < 2 := hi
      omega
  · intro i hi
    rcases i with _ | _ | i
    · exact ho.chg c1 (by intro g _; omega)
    · exact ⟨rfl, Or.inl ⟨rfl, rfl⟩⟩
    · have hi2 : i + 1 + 1 < 2 := hi
      omega
  · intro i j g' hij hj
    rcases j with _ | _ | j
    · omega
    · intro _ h; simp [Value.ownBlock] at h
    · have hj2 : j + 1 + 1 < 2 := hj
      omega

set_option maxRecDepth 20000 in
set_option maxHeartbeats 2000000 in
theorem startOps_ok (w : World) (sz st sq hd us : Int) (hv : validLog sz st sq hd us = true)
    (m0 : w.cell? ⟨0, 0, none⟩ = some (.int .u8 106)) (m1 : w.cell? ⟨0, 1, none⟩ = some (.int .u8 108)) (m2 : w.cell? ⟨0, 2, none⟩ = some (.int .u8 111)) (m3 : w.cell? ⟨0, 3, none⟩ = some (.int .u8 103)) :
    Calls Tryz.prog 13 #[.agg #[.int .i64 sz, .int .i64 st, .int .i64 sq, .int .i64 hd, .int .i64 us]] w fun e w' => ∃ g, e = .returned (.slice (some ⟨g, 0, none⟩) 2 2) ∧ (∃ cells dvs, OwnOx w' w.heap.size 34 5 (.slice (some ⟨g, 0, none⟩) 2 2) (twoOps (supL 106 108 111 103 1 sz sq hd)) cells dvs) ∧ Chg 0 0 w w' := by
  have C0 : Chg 0 0 w (w.alloc (.cells #[.int .i64 sz, .int .i64 st, .int .i64 sq, .int .i64 hd, .int .i64 us] 26)) := Chg.alloc (Chg.refl 0 0 w) _
  have hN := implJSuper_ok (w.alloc (.cells #[.int .i64 sz, .int .i64 st, .int .i64 sq, .int .i64 hd, .int .i64 us] 26)) sz hd sq (okS_of_valid hv) (supA_byt _ _ _) (C0.cell m0 (by omega)) (C0.cell m1 (by omega)) (C0.cell m2 (by omega)) (C0.cell m3 (by omega))
  have HC : Hid (Chg 0 0 w (w.alloc (.cells #[.int .i64 sz, .int .i64 st, .int .i64 sq, .int .i64 hd, .int .i64 us] 26))) := C0
  clear C0 m0 m1 m2 m3 hv
  go_enter Tryz.func13, Tryz.ntmps13
  go_wp2_with fail
  generalize w.alloc (.cells #[.int .i64 sz, .int .i64 st, .int .i64 sq, .int .i64 hd, .int .i64 us] 26) = w0 at *
  refine hN.mono ?_
  rintro e w1 ⟨g, rfl, o1, h1⟩
  have HC1 : Hid (Chg 0 0 w w1) := HC.out.trans h1
  have s1 := HC1.out.size
  have HO : Hid (OwnB w1 w.heap.size 5 (.slice (some ⟨g, 0, none⟩) 64 64) (supL 106 108 111 103 1 sz sq hd)) := o1.base (fun g hg => by have := (o1.lt g hg).1; have := HC.out.size; omega)
  have HX : Hid (∃ cells dvs, OwnOx (w1.alloc (.cells #[.int .i64 1, .int .i64 1, .slice (some ⟨g, 0, none⟩) 64 64, .int .i64 2, .int .i64 0, .slice none 0 0] 34)) w.heap.size 34 5 (.slice (some ⟨w1.heap.size, 0, none⟩) 2 2) (twoOps (supL 106 108 111 103 1 sz sq hd)) cells dvs) := twoOps_own w1 w.heap.size g 64 _ s1 HO.out
  have HC2 : Hid (Chg 0 0 w (w1.alloc (.cells #[.int .i64 1, .int .i64 1, .slice (some ⟨g, 0, none⟩) 64 64, .int .i64 2, .int .i64 0, .slice none 0 0] 34))) := HC1.out.alloc _
  clear hN o1 h1
  go_wp2
  go_ret
  exact ⟨_, rfl, HX.out, HC2.out⟩

end Go.Proofs.YtkegadjdlkfabaaGreatDoor

namespace Go.Proofs.YtkegadjdlkfabaaGreatDoor
open Go.RowKit

/-- TailOps. -/
def tailO (sz st sq hd us : Int) : List Opx := if validLog sz st sq hd us = true ∧ us ≠ 0 then twoOps (supL 106 108 111 103 1 sz sq hd) else []

theorem OwnOx.none (w : World) (base : Nat) (eO eB : TypeId) : OwnOx w base eO eB (.slice .none 0 0) [] [] (fun _ => .slice .none 0 0) :=
  ⟨⟨rfl, Or.inl ⟨rfl, rfl⟩⟩, fun i h => absurd h (Nat.not_lt_zero i), fun i h => absurd h (Nat.not_lt_zero i), fun i h => absurd h (Nat.not_lt_zero i), fun i h => absurd h (Nat.not_lt_zero i), fun _ j _ _ h => absurd h (Nat.not_lt_zero j)⟩

set_option maxRecDepth 20000 in
set_option maxHeartbeats 2000000 in
theorem implTail_calls (w : World) (sz st sq hd us : Int)
    (m0 : w.cell? ⟨0, 0, none⟩ = some (.int .u8 106)) (m1 : w.cell? ⟨0, 1, none⟩ = some (.int .u8 108)) (m2 : w.cell? ⟨0, 2, none⟩ = some (.int .u8 111)) (m3 : w.cell? ⟨0, 3, none⟩ = some (.int .u8 103)) :
    Calls Tryz.prog 6 #[.agg #[.int .i64 sz, .int .i64 st, .int .i64 sq, .int .i64 hd, .int .i64 us]] w fun e w' => ∃ v, e = .returned v ∧ (∃ cells dvs, OwnOx w' w.heap.size 34 5 v (tailO sz st sq hd us) cells dvs) ∧ Chg 0 0 w w' := by
  have C0 : Chg 0 0 w (w.alloc (.cells #[.int .i64 sz, .int .i64 st, .int .i64 sq, .int .i64 hd, .int .i64 us] 26)) := Chg.alloc (Chg.refl 0 0 w) _
  have B0 := heap_new w (.cells #[.int .i64 sz, .int .i64 st, .int .i64 sq, .int .i64 hd, .int .i64 us] 26)
  have s0 : (w.alloc (.cells #[.int .i64 sz, .int .i64 st, .int .i64 sq, .int .i64 hd, .int .i64 us] 26)).heap.size = w.heap.size + 1 := by simp
  have HM : Hid (w.cell? ⟨0, 0, none⟩ = some (.int .u8 106) ∧ w.cell? ⟨0, 1, none⟩ = some (.int .u8 108) ∧ w.cell? ⟨0, 2, none⟩ = some (.int .u8 111) ∧ w.cell? ⟨0, 3, none⟩ = some (.int .u8 103)) := ⟨m0, m1, m2, m3⟩
  have HC : Hid (Chg 0 0 w (w.alloc (.cells #[.int .i64 sz, .int .i64 st, .int .i64 sq, .int .i64 hd, .int .i64 us] 26))) := C0
  have HB : Hid ((w.alloc (.cells #[.int .i64 sz, .int .i64 st, .int .i64 sq, .int .i64 hd, .int .i64 us] 26)).heap[w.heap.size]? = some (.cells #[.int .i64 sz, .int .i64 st, .int .i64 sq, .int .i64 hd, .int .i64 us] 26 (0, 0))) := B0
  clear C0 B0 m0 m1 m2 m3
  go_enter Tryz.func6, Tryz.ntmps6
  go_wp2_with fail
  generalize w.alloc (.cells #[.int .i64 sz, .int .i64 st, .int .i64 sq, .int .i64 hd, .int .i64 us] 26) = w0 at *
  refine (implValidLog_calls _ sz st sq hd us).mono ?_
  rintro e w1 ⟨rfl, h1⟩
  have HC1 : Hid (Chg 0 0 w w1) := HC.out.trans h1
  have HB1 : Hid (w1.heap[w.heap.size]? = some (.cells #[.int .i64 sz, .int .i64 st, .int .i64 sq, .int .i64 hd, .int .i64 us] 26 (0, 0))) := (h1.block _ (by omega) (by omega)).trans HB.out
  obtain ⟨k0, k1, k2, k3, k4⟩ := five_cells HB1.out
  have s1 := h1.size
  clear h1
  by_cases hv : validLog sz st sq hd us = true
  case neg =>
    have Ht : Hid (tailO sz st sq hd us = []) := by show _ = _; unfold tailO; rw [if_neg (fun h => hv h.1)]
    rw [Bool.not_eq_true] at hv
    rw [hv]
    clear hv
    go_wp2
    go_ret
    exact ⟨_, rfl, by rw [Ht.out]; exact ⟨_, _, OwnOx.none _ _ _ _⟩, HC1.out⟩
  by_cases hu : us = 0
  · subst hu
    have Ht : Hid (tailO sz st sq hd 0 = []) := by show _ = _; unfold tailO; rw [if_neg (fun h => h.2 rfl)]
    rw [hv]
    clear hv
    go_wp2
    go_ret
    exact ⟨_, rfl, by rw [Ht.out]; exact ⟨_, _, OwnOx.none _ _ _ _⟩, HC1.out⟩
  have Ht : Hid (tailO sz st sq hd us = twoOps (supL 106 108 111 103 1 sz sq hd)) := by show _ = _; unfold tailO; rw [if_pos ⟨hv, hu⟩]
  have hN := startOps_ok w1 sz st sq hd us hv (HC1.out.cell HM.out.1 (by omega)) (HC1.out.cell HM.out.2.1 (by omega)) (HC1.out.cell HM.out.2.2.1 (by omega)) (HC1.out.cell HM.out.2.2.2 (by omega))
  have hue : (us == 0) = false := by simpa using hu
  rw [hv]
  clear hv hu
  go_wp2_with fail
  refine hN.mono ?_
  rintro e w2 ⟨g, rfl, ⟨cells, dvs, ho⟩, h2⟩
  have HC2 : Hid (Chg 0 0 w w2) := HC1.out.trans h2
  have HO : Hid (OwnOx w2 w1.heap.size 34 5 (.slice (some ⟨g, 0, none⟩) 2 2) (twoOps (supL 106 108 111 103 1 sz sq hd)) cells dvs) := ho
  have HX : Hid (OwnOx w2 w.heap.size 34 5 (.slice (some ⟨g, 0, none⟩) 2 2) (twoOps (supL 106 108 111 103 1 sz sq hd)) cells dvs) := by
    have := HC1.out.size
    refine ⟨?_, ho.at0, ho.at1, ho.at2, fun i hi => (ho.data i hi).base (fun g hg => by have := ((ho.data i hi).lt g hg).1; omega), ho.apart⟩
    obtain ⟨r1, r2⟩ := ho.row
    refine ⟨r1, ?_⟩
    rcases r2 with r2 | ⟨g', cap, cur, e, hg, r⟩
    · exact Or.inl r2
    · exact Or.inr ⟨g', cap, cur, e, by omega, r⟩
  clear hN ho h2
  go_wp2
  go_ret
  exact ⟨_, rfl, by rw [Ht.out]; exact ⟨_, _, HX.out⟩, HC2.out⟩

end Go.Proofs.YtkegadjdlkfabaaGreatDoor

namespace Go.Proofs.YtkegadjdlkfabaaGreatDoor
open Go.RowKit

theorem tri3 {w : World} {s : Nat} {a b c : Value} {t : TypeId} (h : w.heap[s]? = some (.cells #[a, b, c] t (0, 0))) :
    (w.cell? ⟨s, 0, none⟩ = some a ∧ w.cell? ⟨s, 1, none⟩ = some b ∧ w.cell? ⟨s, 2, none⟩ = some c) ∧ w.frozen? ⟨s, 0, none⟩ = false ∧ w.frozen? ⟨s, 1, none⟩ = false ∧ w.frozen? ⟨s, 2, none⟩ = false := by
  simp [World.cell?, World.frozen?, h]

theorem supL_64 {sz sq hd : Int} (h : OkS sz sq hd) : (supL 106 108 111 103 1 sz sq hd).length = 64 := by
  obtain ⟨a1, a2, a3, a4, a5, a6⟩ := h
  obtain ⟨hc0, hc1⟩ := crcV_range (supA 106 108 111 103 1 sz sq hd)
  exact supL_length (pn2 (by omega) (by omega)) (pn4 (by omega) a2) (pn2 a5 (by omega)) (pn4 hc0 hc1)

set_option maxRecDepth 20000 in
set_option maxHeartbeats 2000000 in
theorem l4Super_ok (w : World) (sz st sq hd us : Int) (h : OkS sz sq hd) :
    Calls Tryz.prog 11 #[.agg #[.int .i64 sz, .int .i64 st, .int .i64 sq, .int .i64 hd, .int .i64 us], .int .i64 hd] w fun e w' => ∃ g cp, e = .returned (.agg #[.int .i64 1, .int .i64 1, .slice (some ⟨g, 0, none⟩) 64 cp]) ∧ OwnB w' w.heap.size 5 (.slice (some ⟨g, 0, none⟩) 64 cp) (supL 106 108 111 103 1 sz sq hd) ∧ Chg 0 0 w w' := by
  obtain ⟨z1, z2, z3⟩ := alloc2 w (.cells #[.int .i64 sz, .int .i64 st, .int .i64 sq, .int .i64 hd, .int .i64 us] 26) (.cells #[.int .i64 0, .int .i64 0, .slice none 0 0] 34)
  have hA : Chg 0 0 w ((w.alloc (.cells #[.int .i64 sz, .int .i64 st, .int .i64 sq, .int .i64 hd, .int .i64 us] 26)).alloc (.cells #[.int .i64 0, .int .i64 0, .slice none 0 0] 34)) := (Chg.alloc (Chg.refl 0 0 w) _).alloc _
  have hN := fun w => specJSuper_ok w sz hd sq h (supA_byt _ _ _)
  have Hl : Hid ((supL 106 108 111 103 1 sz sq hd).length = 64) := supL_64 h
  clear h
  go_enter Tryz.func11, Tryz.ntmps11
  go_wp2_with fail
  generalize (w.alloc (.cells #[.int .i64 sz, .int .i64 st, .int .i64 sq, .int .i64 hd, .int .i64 us] 26)).alloc (.cells #[.int .i64 0, .int .i64 0, .slice none 0 0] 34) = w0 at *
  refine (hN _).mono ?_
  rintro e w1 ⟨v, rfl, o1, h1⟩
  have s1 := h1.size
  obtain ⟨g, cp, rfl⟩ : ∃ g c, v = .slice (some ⟨g, 0, none⟩) 64 c := by
    rcases o1.2 with ⟨_, h0⟩ | ⟨g, gc, cur, rfl, _⟩
    · rw [Hl.out] at h0; omega
    · exact ⟨g, gc, by rw [Hl.out]⟩
  have hgl := o1.lt g rfl
  have HC1 : Hid (Chg 0 0 w w1) := hA.trans h1
  obtain ⟨⟨x0, x1, x2⟩, xf0, xf1, xf2⟩ := tri3 ((h1.block (w.heap.size + 1) (by omega) (by omega)).trans z3)
  have HO : Hid (∀ u0 u1 u2 : Value, OwnB (((w1.setCell ⟨w.heap.size + 1, 0, none⟩ u0).setCell ⟨w.heap.size + 1, 1, none⟩ u1).setCell ⟨w.heap.size + 1, 2, none⟩ u2) w.heap.size 5 (.slice (some ⟨g, 0, none⟩) 64 cp) (supL 106 108 111 103 1 sz sq hd) ∧ Chg 0 0 w (((w1.setCell ⟨w.heap.size + 1, 0, none⟩ u0).setCell ⟨w.heap.size + 1, 1, none⟩ u1).setCell ⟨w.heap.size + 1, 2, none⟩ u2)) := by
    intro u0 u1 u2
    have c1 : Chg (w.heap.size + 1) (w.heap.size + 1 + 1) w1 (((w1.setCell ⟨w.heap.size + 1, 0, none⟩ u0).setCell ⟨w.heap.size + 1, 1, none⟩ u1).setCell ⟨w.heap.size + 1, 2, none⟩ u2) := by
      refine Chg.setCell (Chg.setCell (Chg.setCell (Chg.refl _ _ _) ?_ _) ?_ _) ?_ _ <;> exact Or.inl ⟨Nat.le_refl _, Nat.lt_succ_self _⟩
    exact ⟨(o1.base (fun g hg => by have := (o1.lt g hg).1; omega)).chg c1 (fun g' hg' => by cases hg'; show g < w.heap.size + 1 ∨ w.heap.size + 1 + 1 ≤ g; omega), HC1.out.step c1 (by omega)⟩
  clear o1 h1 hN z2 z3 hA
  go_wp2
  exact bodyPost_ret (v := .agg #[.int .i64 1, .int .i64 1, .slice (some ⟨g, 0, none⟩) 64 cp]) (by simp [results, Tryz.results11, go_sem, *]) rfl ⟨g, cp, rfl, (HO.out _ _ _).1, (HO.out _ _ _).2⟩

end Go.Proofs.YtkegadjdlkfabaaGreatDoor

namespace Go.Proofs.YtkegadjdlkfabaaGreatDoor
open Go.RowKit

set_option maxRecDepth 20000 in
set_option maxHeartbeats 2000000 in
theorem specTail_calls (w : World) (sz st sq hd us : Int) :
    Calls Tryz.prog 4 #[.agg #[.int .i64 sz, .int .i64 st, .int .i64 sq, .int .i64 hd, .int .i64 us]] w fun e w' => ∃ v, e = .returned v ∧ (∃ cells dvs, OwnOx w' w.heap.size 34 5 v (tailO sz st sq hd us) cells dvs) ∧ Chg 0 0 w w' := by
  have C0 : Chg 0 0 w (w.alloc (.cells #[.int .i64 sz, .int .i64 st, .int .i64 sq, .int .i64 hd, .int .i64 us] 26)) := Chg.alloc (Chg.refl 0 0 w) _
  have B0 := heap_new w (.cells #[.int .i64 sz, .int .i64 st, .int .i64 sq, .int .i64 hd, .int .i64 us] 26)
  have s0 : (w.alloc (.cells #[.int .i64 sz, .int .i64 st, .int .i64 sq, .int .i64 hd, .int .i64 us] 26)).heap.size = w.heap.size + 1 := by simp
  have HC : Hid (Chg 0 0 w (w.alloc (.cells #[.int .i64 sz, .int .i64 st, .int .i64 sq, .int .i64 hd, .int .i64 us] 26))) := C0
  have HB : Hid ((w.alloc (.cells #[.int .i64 sz, .int .i64 st, .int .i64 sq, .int .i64 hd, .int .i64 us] 26)).heap[w.heap.size]? = some (.cells #[.int .i64 sz, .int .i64 st, .int .i64 sq, .int .i64 hd, .int .i64 us] 26 (0, 0))) := B0
  have HE : Hid (∀ w1 : World, w.heap.size ≤ w1.heap.size → OwnOx (w1.alloc (.cells #[] 34)) w.heap.size 34 5 (.slice (some ⟨w1.heap.size, 0, none⟩) 0 0) [] [] (fun _ => .slice none 0 0)) := by
    intro w1 hh
    have := World.ownsRow_lit (base := w.heap.size) (e := 34) (size := 3) w1 #[] 0 hh (by unfold maxLen; omega) rfl
    exact ⟨by simpa using this, fun i h => absurd h (Nat.not_lt_zero i), fun i h => absurd h (Nat.not_lt_zero i), fun i h => absurd h (Nat.not_lt_zero i), fun i h => absurd h (Nat.not_lt_zero i), fun _ j _ _ h => absurd h (Nat.not_lt_zero j)⟩
  clear C0 B0
  go_enter Tryz.func4, Tryz.ntmps4
  go_wp2_with fail
  generalize w.alloc (.cells #[.int .i64 sz, .int .i64 st, .int .i64 sq, .int .i64 hd, .int .i64 us] 26) = w0 at *
  refine (specValidLog_calls _ sz st sq hd us).mono ?_
  rintro e w1 ⟨rfl, h1⟩
  have HC1 : Hid (Chg 0 0 w w1) := HC.out.trans h1
  have HB1 : Hid (w1.heap[w.heap.size]? = some (.cells #[.int .i64 sz, .int .i64 st, .int .i64 sq, .int .i64 hd, .int .i64 us] 26 (0, 0))) := (h1.block _ (by omega) (by omega)).trans HB.out
  obtain ⟨k0, k1, k2, k3, k4⟩ := five_cells HB1.out
  have s1 := h1.size
  have HE1 : Hid (OwnOx (w1.alloc (.cells #[] 34)) w.heap.size 34 5 (.slice (some ⟨w1.heap.size, 0, none⟩) 0 0) [] [] (fun _ => .slice none 0 0)) := HE.out w1 (by omega)
  have HCE : Hid (Chg 0 0 w (w1.alloc (.cells #[] 34))) := HC1.out.alloc _
  clear h1 HE
  by_cases hv : validLog sz st sq hd us = true
  case neg =>
    have Ht : Hid (tailO sz st sq hd us = []) := by show _ = _; unfold tailO; rw [if_neg (fun h => hv h.1)]
    rw [Bool.not_eq_true] at hv
    rw [hv]
    clear hv
    go_wp2
    go_ret
    exact ⟨_, rfl, by rw [Ht.out]; exact ⟨_, _, HE1.out⟩, HCE.out⟩
  by_cases hu : us = 0
  · subst hu
    have Ht : Hid (tailO sz st sq hd 0 = []) := by show _ = _; unfold tailO; rw [if_neg (fun h => h.2 rfl)]
    rw [hv]
    clear hv
    go_wp2
    go_ret
    exact ⟨_, rfl, by rw [Ht.out]; exact ⟨_, _, HE1.out⟩, HCE.out⟩
  have Ht : Hid (tailO sz st sq hd us = twoOps (supL 106 108 111 103 1 sz sq hd)) := by show _ = _; unfold tailO; rw [if_pos ⟨hv, hu⟩]
  have hN := l4Super_ok w1 sz st sq hd us (okS_of_valid hv)
  have hue : (us == 0) = false := by simpa using hu
  rw [hv]
  clear hv hu
  go_wp2_with fail
  refine hN.mono ?_
  rintro e w2 ⟨g, cp, rfl, ho, h2⟩
  have HC2 : Hid (Chg 0 0 w w2) := HC1.out.trans h2
  have s2 := h2.size
  have HX : Hid (∃ cells dvs, OwnOx (w2.alloc (.cells #[.int .i64 1, .int .i64 1, .slice (some ⟨g, 0, none⟩) 64 cp, .int .i64 2, .int .i64 0, .slice none 0 0] 34)) w.heap.size 34 5 (.slice (some ⟨w2.heap.size, 0, none⟩) 2 2) (twoOps (supL 106 108 111 103 1 sz sq hd)) cells dvs) :=
    twoOps_own w2 w.heap.size g cp _ (by omega) (ho.base (fun g hg => by have := (ho.lt g hg).1; have := HC1.out.size; omega))
  have HC3 : Hid (Chg 0 0 w (w2.alloc (.cells #[.int .i64 1, .int .i64 1, .slice (some ⟨g, 0, none⟩) 64 cp, .int .i64 2, .int .i64 0, .slice none 0 0] 34))) := HC2.out.alloc _
  clear hN ho h2
  go_wp2
  go_ret
  exact ⟨_, rfl, by rw [Ht.out]; exact HX.out, HC3.out⟩

end Go.Proofs.YtkegadjdlkfabaaGreatDoor
