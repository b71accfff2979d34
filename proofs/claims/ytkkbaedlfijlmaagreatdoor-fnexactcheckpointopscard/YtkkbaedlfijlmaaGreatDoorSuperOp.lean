/- Several short texts in one: LogValid, Five, TailStart, TailOps, SuperOp. -/
import Derived.Test.YtkkbaedlfijlmaaGreatDoorLogPlace
import Derived.Test.YtkkbaedlfijlmaaGreatDoorAppSeen
import Derived.Test.YtkkbaedlfijlmaaGreatDoorMem
import Derived.Test.YtkkbaedlfijlmaaGreatDoorImplNew
import Derived.Test.YtkkbaedlfijlmaaGreatDoorOpsNil
import Derived.Test.YtkkbaedlfijlmaaGreatDoorOnceP
namespace Go.Proofs.YtkkbaedlfijlmaaGreatDoor
open Go.RowKit

/-- The bounds of a log. -/
abbrev InLog (sz st sq hd us : Int) : Prop := (16 ≤ sz ∧ sz ≤ 512) ∧ (1 ≤ sq ∧ sq ≤ 4294967295) ∧ (0 ≤ st ∧ st ≤ sz) ∧ (1 ≤ hd ∧ hd ≤ sz) ∧ (0 ≤ us ∧ us ≤ sz)
/-- ValidLog. -/
def validLog (sz st sq hd us : Int) : Bool := decide (InLog sz st sq hd us) && (if st = 0 then decide (us = 0) else decide (hd = placeI sz st us))

theorem validLog_out {sz st sq hd us : Int} (h : ¬ InLog sz st sq hd us) : validLog sz st sq hd us = false := by unfold validLog; rw [decide_eq_false h]; rfl
theorem validLog_zero {sz st sq hd us : Int} (h : InLog sz st sq hd us) (h0 : st = 0) : validLog sz st sq hd us = decide (us = 0) := by unfold validLog; rw [decide_eq_true h, if_pos h0]; rfl
theorem validLog_at {sz st sq hd us : Int} (h : InLog sz st sq hd us) (h0 : ¬ st = 0) : validLog sz st sq hd us = decide (hd = placeI sz st us) := by unfold validLog; rw [decide_eq_true h, if_neg h0]; rfl

set_option maxRecDepth 20000 in
set_option maxHeartbeats 2000000 in
theorem specValidLog_calls (w : World) (sz st sq hd us : Int) :
    Calls Tryz.prog 15 #[.agg #[.int .i64 sz, .int .i64 st, .int .i64 sq, .int .i64 hd, .int .i64 us]] w fun e w' => e = .returned (.bool (validLog sz st sq hd us)) ∧ Chg 0 0 w w' := by
  have HC : Hid (Chg 0 0 w (w.alloc (.cells #[.int .i64 sz, .int .i64 st, .int .i64 sq, .int .i64 hd, .int .i64 us] 28))) := Chg.alloc (Chg.refl 0 0 w) _
  go_enter Tryz.func15, Tryz.ntmps15
  go_wp2_with fail
  refine (l3GoodSeq_calls _ sq).mono ?_
  rintro e w1 ⟨rfl, rfl⟩
  by_cases g1 : goodSeq sq = true
  case neg =>
    have hv : validLog sz st sq hd us = false := validLog_out (fun h => g1 (by unfold goodSeq; rw [decide_eq_true h.2.1.1, decide_eq_true h.2.1.2]; rfl))
    rw [Bool.not_eq_true] at g1
    rw [g1]
    go_wp2
    go_ret
    exact ⟨by rw [hv]; rfl, HC.out⟩
  have gq : 1 ≤ sq ∧ sq ≤ 4294967295 := by
    unfold goodSeq at g1; simpa using g1
  rw [g1]
  by_cases c : InLog sz st sq hd us
  case neg =>
    have hv : validLog sz st sq hd us = false := validLog_out c
    have fin : ∀ {x : Prop}, x ∨ True := fun {x} => Or.inr trivial
    by_cases c1 : sz < 16
    · go_wp2
      go_ret
      exact ⟨by rw [hv]; rfl, HC.out⟩
    by_cases c2 : 512 < sz
    · go_wp2
      go_ret
      exact ⟨by rw [hv]; rfl, HC.out⟩
    by_cases c3 : st < 0
    · go_wp2
      go_ret
      exact ⟨by rw [hv]; rfl, HC.out⟩
    by_cases c4 : sz < st
    · go_wp2
      go_ret
      exact ⟨by rw [hv]; rfl, HC.out⟩
    by_cases c5 : hd < 1
    · go_wp2
      go_ret
      exact ⟨by rw [hv]; rfl, HC.out⟩
    by_cases c6 : sz < hd
    · go_wp2
      go_ret
      exact ⟨by rw [hv]; rfl, HC.out⟩
    by_cases c7 : us < 0
    · go_wp2
      go_ret
      exact ⟨by rw [hv]; rfl, HC.out⟩
    by_cases c8 : sz < us
    · go_wp2
      go_ret
      exact ⟨by rw [hv]; rfl, HC.out⟩
    exact absurd ⟨⟨by omega, by omega⟩, gq, ⟨by omega, by omega⟩, ⟨by omega, by omega⟩, ⟨by omega, by omega⟩⟩ c
  obtain ⟨⟨a1, a2⟩, ⟨a3, a4⟩, ⟨a5, a6⟩, ⟨a7, a8⟩, ⟨a9, a10⟩⟩ := id c
  by_cases c0 : st = 0
  · subst c0
    have hv := validLog_zero c rfl
    have Hv : Hid (validLog sz 0 sq hd us = decide (us = 0)) := hv
    clear hv c
    go_wp2
    go_ret
    exact ⟨by rw [Hv.out]; rfl, HC.out⟩
  have hv := validLog_at c c0
  have Hv : Hid (validLog sz st sq hd us = decide (hd = placeI sz st us)) := hv
  clear hv c
  go_wp2_with fail
  go_quiet (first | (go_at_call 28; exact Calls.quiet_of_same (l4Place_calls _ sz st us a1 a2 (by omega) (by omega) a9 (by omega))))
  go_wp2
  go_ret
  exact ⟨by rw [Hv.out]; rfl, HC.out.drewN _⟩

set_option maxRecDepth 20000 in
set_option maxHeartbeats 2000000 in
theorem implValidLog_calls (w : World) (sz st sq hd us : Int) :
    Calls Tryz.prog 19 #[.agg #[.int .i64 sz, .int .i64 st, .int .i64 sq, .int .i64 hd, .int .i64 us]] w fun e w' => e = .returned (.bool (validLog sz st sq hd us)) ∧ Chg 0 0 w w' := by
  have HC : Hid (Chg 0 0 w (w.alloc (.cells #[.int .i64 sz, .int .i64 st, .int .i64 sq, .int .i64 hd, .int .i64 us] 28))) := Chg.alloc (Chg.refl 0 0 w) _
  go_enter Tryz.func19, Tryz.ntmps19
  go_wp2_with fail
  refine (isWithin_calls _ sz 16 512).mono ?_
  rintro e w1 ⟨rfl, rfl⟩
  by_cases c1 : 16 ≤ sz ∧ sz ≤ 512
  case neg =>
    have hv : validLog sz st sq hd us = false := validLog_out (fun h => c1 h.1)
    have hb : (decide (16 ≤ sz) && decide (sz ≤ 512)) = false := by rw [Bool.eq_false_iff]; simpa using c1
    rw [hb]
    go_wp2
    go_ret
    exact ⟨by rw [hv]; rfl, HC.out⟩
  have hb : (decide (16 ≤ sz) && decide (sz ≤ 512)) = true := by simpa using c1
  rw [hb]
  clear hb
  go_wp2_with fail
  refine (isWithin_calls _ sq 1 4294967295).mono ?_
  rintro e w1 ⟨rfl, rfl⟩
  by_cases c2 : 1 ≤ sq ∧ sq ≤ 4294967295
  case neg =>
    have hv : validLog sz st sq hd us = false := validLog_out (fun h => c2 h.2.1)
    have hb : (decide (1 ≤ sq) && decide (sq ≤ 4294967295)) = false := by rw [Bool.eq_false_iff]; simpa using c2
    rw [hb]
    go_wp2
    go_ret
    exact ⟨by rw [hv]; rfl, HC.out⟩
  have hb : (decide (1 ≤ sq) && decide (sq ≤ 4294967295)) = true := by simpa using c2
  rw [hb]
  clear hb
  go_wp2_with fail
  refine (isWithin_calls _ st 0 sz).mono ?_
  rintro e w1 ⟨rfl, rfl⟩
  by_cases c3 : 0 ≤ st ∧ st ≤ sz
  case neg =>
    have hv : validLog sz st sq hd us = false := validLog_out (fun h => c3 h.2.2.1)
    have hb : (decide (0 ≤ st) && decide (st ≤ sz)) = false := by rw [Bool.eq_false_iff]; simpa using c3
    rw [hb]
    go_wp2
    go_ret
    exact ⟨by rw [hv]; rfl, HC.out⟩
  have hb : (decide (0 ≤ st) && decide (st ≤ sz)) = true := by simpa using c3
  rw [hb]
  clear hb
  go_wp2_with fail
  refine (isWithin_calls _ hd 1 sz).mono ?_
  rintro e w1 ⟨rfl, rfl⟩
  by_cases c4 : 1 ≤ hd ∧ hd ≤ sz
  case neg =>
    have hv : validLog sz st sq hd us = false := validLog_out (fun h => c4 h.2.2.2.1)
    have hb : (decide (1 ≤ hd) && decide (hd ≤ sz)) = false := by rw [Bool.eq_false_iff]; simpa using c4
    rw [hb]
    go_wp2
    go_ret
    exact ⟨by rw [hv]; rfl, HC.out⟩
  have hb : (decide (1 ≤ hd) && decide (hd ≤ sz)) = true := by simpa using c4
  rw [hb]
  clear hb
  go_wp2_with fail
  refine (isWithin_calls _ us 0 sz).mono ?_
  rintro e w1 ⟨rfl, rfl⟩
  by_cases c5 : 0 ≤ us ∧ us ≤ sz
  case neg =>
    have hv : validLog sz st sq hd us = false := validLog_out (fun h => c5 h.2.2.2.2)
    have hb : (decide (0 ≤ us) && decide (us ≤ sz)) = false := by rw [Bool.eq_false_iff]; simpa using c5
    rw [hb]
    go_wp2
    go_ret
    exact ⟨by rw [hv]; rfl, HC.out⟩
  have hb : (decide (0 ≤ us) && decide (us ≤ sz)) = true := by simpa using c5
  rw [hb]
  clear hb
  have c : InLog sz st sq hd us := ⟨c1, c2, c3, c4, c5⟩
  obtain ⟨⟨a1, a2⟩, ⟨a3, a4⟩, ⟨a5, a6⟩, ⟨a7, a8⟩, ⟨a9, a10⟩⟩ := id c
  clear c1 c2 c3 c4 c5
  by_cases c0 : st = 0
  · subst c0
    have hv := validLog_zero c rfl
    have Hv : Hid (validLog sz 0 sq hd us = decide (us = 0)) := hv
    clear hv c
    go_wp2
    go_ret
    exact ⟨by rw [Hv.out]; rfl, HC.out⟩
  have hv := validLog_at c c0
  have Hv : Hid (validLog sz st sq hd us = decide (hd = placeI sz st us)) := hv
  clear hv c
  go_wp2_with fail
  go_quiet (first | (go_at_call 33; exact Calls.quiet_of_same (positionFrom_calls _ sz st us a1 a2 (by omega) (by omega) a9 (by omega))))
  go_wp2
  go_ret
  exact ⟨by rw [Hv.out]; rfl, HC.out.drewN _⟩

set_option maxRecDepth 20000 in
set_option maxHeartbeats 1000000 in
theorem toLog_calls (w : World) (sz st sq hd us : Int) :
    Calls Tryz.prog 6 #[.agg #[.int .i64 sz, .int .i64 st, .int .i64 sq, .int .i64 hd, .int .i64 us]] w fun e w' => e = .returned (.agg #[.int .i64 sz, .int .i64 st, .int .i64 sq, .int .i64 hd, .int .i64 us]) ∧ Chg 0 0 w w' := by
  go_enter Tryz.func6, Tryz.ntmps6
  go_wp2
  exact bodyPost_ret (v := .agg #[.int .i64 sz, .int .i64 st, .int .i64 sq, .int .i64 hd, .int .i64 us]) (by simp [results, Tryz.results6, go_sem]) rfl ⟨rfl, ((Chg.alloc (Chg.refl 0 0 w) _).alloc _).alloc _⟩

end Go.Proofs.YtkkbaedlfijlmaaGreatDoor

namespace Go.Proofs.YtkkbaedlfijlmaaGreatDoor
open Go.RowKit

theorem five_cells {w : World} {s : Nat} {a b c d e : Value} {t : TypeId} (h : w.heap[s]? = some (.cells #[a, b, c, d, e] t (0, 0))) :
    w.cell? ⟨s, 0, none⟩ = some a ∧ w.cell? ⟨s, 1, none⟩ = some b ∧ w.cell? ⟨s, 2, none⟩ = some c ∧ w.cell? ⟨s, 3, none⟩ = some d ∧ w.cell? ⟨s, 4, none⟩ = some e := by
  simp [World.cell?, h]
theorem five_all {w : World} {s : Nat} {a b c d e : Value} {t : TypeId} (h : w.heap[s]? = some (.cells #[a, b, c, d, e] t (0, 0))) :
    (w.cell? ⟨s, 0, none⟩ = some a ∧ w.cell? ⟨s, 1, none⟩ = some b ∧ w.cell? ⟨s, 2, none⟩ = some c ∧ w.cell? ⟨s, 3, none⟩ = some d ∧ w.cell? ⟨s, 4, none⟩ = some e) ∧
      w.frozen? ⟨s, 0, none⟩ = false ∧ w.frozen? ⟨s, 1, none⟩ = false ∧ w.frozen? ⟨s, 2, none⟩ = false ∧ w.frozen? ⟨s, 3, none⟩ = false ∧ w.frozen? ⟨s, 4, none⟩ = false := by
  simp [World.cell?, World.frozen?, h]

end Go.Proofs.YtkkbaedlfijlmaaGreatDoor

namespace Go.Proofs.YtkkbaedlfijlmaaGreatDoor
open Go.RowKit

theorem okS_of_valid {sz st sq hd us : Int} (h : validLog sz st sq hd us = true) : OkS sz sq hd := by
  unfold validLog at h
  rw [Bool.and_eq_true, decide_eq_true_eq] at h
  obtain ⟨⟨a1, a2⟩, ⟨a3, a4⟩, _, ⟨a5, a6⟩, _⟩ := h.1
  exact ⟨a3, a4, a1, a2, by omega, a6⟩

theorem supA_byt (it sq st : Int) : Byt (supA 106 108 111 103 1 it sq st) := by
  intro x hx
  unfold supA at hx
  simp only [List.mem_append] at hx
  rcases hx with (((hx | hx) | hx) | hx) | hx
  · simp at hx; omega
  · exact putN_byt _ _ x hx
  · exact putN_byt _ _ x hx
  · exact putN_byt _ _ x hx
  · rw [List.mem_replicate] at hx; omega

/-- The two operations. -/
abbrev twoOps (es : List Int) : List Opx := [(1, 1, es), (2, 0, [])]

/-- A list of two operations that has been written down. -/
theorem twoOps_own (w : World) (base g cp : Nat) (es : List Int) (hb : base ≤ w.heap.size) (ho : OwnB w base 5 (.slice (some ⟨g, 0, none⟩) 64 cp) es) :
    ∃ cells dvs, OwnOx (w.alloc (.cells #[.int .i64 1, .int .i64 1, .slice (some ⟨g, 0, none⟩) 64 cp, .int .i64 2, .int .i64 0, .slice none 0 0] 44)) base 44 5 (.slice (some ⟨w.heap.size, 0, none⟩) 2 2) (twoOps es) cells dvs := by
  have hrow := World.ownsRow_lit (base := base) (e := 44) (size := 3) w #[.int .i64 1, .int .i64 1, .slice (some ⟨g, 0, none⟩) 64 cp, .int .i64 2, .int .i64 0, .slice none 0 0] 2 hb (by unfold maxLen; omega) rfl
  have c1 : Chg 0 0 w (w.alloc (.cells #[.int .i64 1, .int .i64 1, .slice (some ⟨g, 0, none⟩) 64 cp, .int .i64 2, .int .i64 0, .slice none 0 0] 44)) := Chg.alloc (Chg.refl 0 0 w) _
  refine ⟨[.int .i64 1, .int .i64 1, .slice (some ⟨g, 0, none⟩) 64 cp, .int .i64 2, .int .i64 0, .slice none 0 0], fun i => if i = 0 then .slice (some ⟨g, 0, none⟩) 64 cp else .slice none 0 0, ?_, ?_, ?_, ?_, ?_, ?_⟩
  · simpa using hrow
  · intro i hi
    rcases i with _ | _ | i
    · rfl
    · rfl
    · have hi2 : i + 1 + 1 < 2 := hi
      omega
  · intro i hi
    rcases i with _ | _ | i
    · rfl
    · rfl
    · have hi2 : i + 1 + 1 < 2 := hi
      omega
  · intro i hi
    rcases i with _ | _ | i
    · rfl
    · rfl
    · have hi2 : i + 1 + 1 < 2 := hi
      omega
  · intro i hi
    rcases i with _ | _ | i
    · exact ho.chg c1 (by intro g _; omega)
    · exact ⟨rfl, Or.inl ⟨rfl, rfl⟩⟩
    · have hi2 : i + 1 + 1 < 2 := hi
      omega
  · intro i j g' hij hj
    rcases j with _ | _ | j
    · omega
    · intro _ h; simp [Value.ownBlock] at h
    · have hj2 : j + 1 + 1 < 2 := hj
      omega

set_option maxRecDepth 20000 in
set_option maxHeartbeats 2000000 in
theorem startOps_ok (w : World) (sz st sq hd us : Int) (hv : validLog sz st sq hd us = true)
    (m0 : w.cell? ⟨0, 0, none⟩ = some (.int .u8 106)) (m1 : w.cell? ⟨0, 1, none⟩ = some (.int .u8 108)) (m2 : w.cell? ⟨0, 2, none⟩ = some (.int .u8 111)) (m3 : w.cell? ⟨0, 3, none⟩ = some (.int .u8 103)) :
    Calls Tryz.prog 34 #[.agg #[.int .i64 sz, .int .i64 st, .int .i64 sq, .int .i64 hd, .int .i64 us]] w fun e w' => ∃ g, e = .returned (.slice (some ⟨g, 0, none⟩) 2 2) ∧ (∃ cells dvs, OwnOx w' w.heap.size 44 5 (.slice (some ⟨g, 0, none⟩) 2 2) (twoOps (supL 106 108 111 103 1 sz sq hd)) cells dvs) ∧ Chg 0 0 w w' := by
  have C0 : Chg 0 0 w (w.alloc (.cells #[.int .i64 sz, .int .i64 st, .int .i64 sq, .int .i64 hd, .int .i64 us] 28)) := Chg.alloc (Chg.refl 0 0 w) _
  have hN := implJSuper_ok (w.alloc (.cells #[.int .i64 sz, .int .i64 st, .int .i64 sq, .int .i64 hd, .int .i64 us] 28)) sz hd sq (okS_of_valid hv) (supA_byt _ _ _) (C0.cell m0 (by omega)) (C0.cell m1 (by omega)) (C0.cell m2 (by omega)) (C0.cell m3 (by omega))
  have HC : Hid (Chg 0 0 w (w.alloc (.cells #[.int .i64 sz, .int .i64 st, .int .i64 sq, .int .i64 hd, .int .i64 us] 28))) := C0
  clear C0 m0 m1 m2 m3 hv
  go_enter Tryz.func34, Tryz.ntmps34
  go_wp2_with fail
  generalize w.alloc (.cells #[.int .i64 sz, .int .i64 st, .int .i64 sq, .int .i64 hd, .int .i64 us] 28) = w0 at *
  refine hN.mono ?_
  rintro e w1 ⟨g, rfl, o1, h1⟩
  have HC1 : Hid (Chg 0 0 w w1) := HC.out.trans h1
  have s1 := HC1.out.size
  have HO : Hid (OwnB w1 w.heap.size 5 (.slice (some ⟨g, 0, none⟩) 64 64) (supL 106 108 111 103 1 sz sq hd)) := o1.base (fun g hg => by have := (o1.lt g hg).1; have := HC.out.size; omega)
  have HX : Hid (∃ cells dvs, OwnOx (w1.alloc (.cells #[.int .i64 1, .int .i64 1, .slice (some ⟨g, 0, none⟩) 64 64, .int .i64 2, .int .i64 0, .slice none 0 0] 44)) w.heap.size 44 5 (.slice (some ⟨w1.heap.size, 0, none⟩) 2 2) (twoOps (supL 106 108 111 103 1 sz sq hd)) cells dvs) := twoOps_own w1 w.heap.size g 64 _ s1 HO.out
  have HC2 : Hid (Chg 0 0 w (w1.alloc (.cells #[.int .i64 1, .int .i64 1, .slice (some ⟨g, 0, none⟩) 64 64, .int .i64 2, .int .i64 0, .slice none 0 0] 44))) := HC1.out.alloc _
  clear hN o1 h1
  go_wp2
  go_ret
  exact ⟨_, rfl, HX.out, HC2.out⟩

end Go.Proofs.YtkkbaedlfijlmaaGreatDoor

namespace Go.Proofs.YtkkbaedlfijlmaaGreatDoor
open Go.RowKit

/-- TailOps. -/
def tailO (sz st sq hd us : Int) : List Opx := if validLog sz st sq hd us = true ∧ us ≠ 0 then twoOps (supL 106 108 111 103 1 sz sq hd) else []

theorem OwnOx.none (w : World) (base : Nat) (eO eB : TypeId) : OwnOx w base eO eB (.slice .none 0 0) [] [] (fun _ => .slice .none 0 0) :=
  ⟨⟨rfl, Or.inl ⟨rfl, rfl⟩⟩, fun i h => absurd h (Nat.not_lt_zero i), fun i h => absurd h (Nat.not_lt_zero i), fun i h => absurd h (Nat.not_lt_zero i), fun i h => absurd h (Nat.not_lt_zero i), fun _ j _ _ h => absurd h (Nat.not_lt_zero j)⟩

set_option maxRecDepth 20000 in
set_option maxHeartbeats 2000000 in
theorem implTail_calls (w : World) (sz st sq hd us : Int)
    (m0 : w.cell? ⟨0, 0, none⟩ = some (.int .u8 106)) (m1 : w.cell? ⟨0, 1, none⟩ = some (.int .u8 108)) (m2 : w.cell? ⟨0, 2, none⟩ = some (.int .u8 111)) (m3 : w.cell? ⟨0, 3, none⟩ = some (.int .u8 103)) :
    Calls Tryz.prog 21 #[.agg #[.int .i64 sz, .int .i64 st, .int .i64 sq, .int .i64 hd, .int .i64 us]] w fun e w' => ∃ v, e = .returned v ∧ (∃ cells dvs, OwnOx w' w.heap.size 44 5 v (tailO sz st sq hd us) cells dvs) ∧ Chg 0 0 w w' := by
  have C0 : Chg 0 0 w (w.alloc (.cells #[.int .i64 sz, .int .i64 st, .int .i64 sq, .int .i64 hd, .int .i64 us] 28)) := Chg.alloc (Chg.refl 0 0 w) _
  have B0 := heap_new w (.cells #[.int .i64 sz, .int .i64 st, .int .i64 sq, .int .i64 hd, .int .i64 us] 28)
  have s0 : (w.alloc (.cells #[.int .i64 sz, .int .i64 st, .int .i64 sq, .int .i64 hd, .int .i64 us] 28)).heap.size = w.heap.size + 1 := by simp
  have HM : Hid (w.cell? ⟨0, 0, none⟩ = some (.int .u8 106) ∧ w.cell? ⟨0, 1, none⟩ = some (.int .u8 108) ∧ w.cell? ⟨0, 2, none⟩ = some (.int .u8 111) ∧ w.cell? ⟨0, 3, none⟩ = some (.int .u8 103)) := ⟨m0, m1, m2, m3⟩
  have HC : Hid (Chg 0 0 w (w.alloc (.cells #[.int .i64 sz, .int .i64 st, .int .i64 sq, .int .i64 hd, .int .i64 us] 28))) := C0
  have HB : Hid ((w.alloc (.cells #[.int .i64 sz, .int .i64 st, .int .i64 sq, .int .i64 hd, .int .i64 us] 28)).heap[w.heap.size]? = some (.cells #[.int .i64 sz, .int .i64 st, .int .i64 sq, .int .i64 hd, .int .i64 us] 28 (0, 0))) := B0
  clear C0 B0 m0 m1 m2 m3
  go_enter Tryz.func21, Tryz.ntmps21
  go_wp2_with fail
  generalize w.alloc (.cells #[.int .i64 sz, .int .i64 st, .int .i64 sq, .int .i64 hd, .int .i64 us] 28) = w0 at *
  refine (implValidLog_calls _ sz st sq hd us).mono ?_
  rintro e w1 ⟨rfl, h1⟩
  have HC1 : Hid (Chg 0 0 w w1) := HC.out.trans h1
  have HB1 : Hid (w1.heap[w.heap.size]? = some (.cells #[.int .i64 sz, .int .i64 st, .int .i64 sq, .int .i64 hd, .int .i64 us] 28 (0, 0))) := (h1.block _ (by omega) (by omega)).trans HB.out
  obtain ⟨k0, k1, k2, k3, k4⟩ := five_cells HB1.out
  have s1 := h1.size
  clear h1
  by_cases hv : validLog sz st sq hd us = true
  case neg =>
    have Ht : Hid (tailO sz st sq hd us = []) := by show _ = _; unfold tailO; rw [if_neg (fun h => hv h.1)]
    rw [Bool.not_eq_true] at hv
    rw [hv]
    clear hv
    go_wp2
    go_ret
    exact ⟨_, rfl, by rw [Ht.out]; exact ⟨_, _, OwnOx.none _ _ _ _⟩, HC1.out⟩
  by_cases hu : us = 0
  · subst hu
    have Ht : Hid (tailO sz st sq hd 0 = []) := by show _ = _; unfold tailO; rw [if_neg (fun h => h.2 rfl)]
    rw [hv]
    clear hv
    go_wp2
    go_ret
    exact ⟨_, rfl, by rw [Ht.out]; exact ⟨_, _, OwnOx.none _ _ _ _⟩, HC1.out⟩
  have Ht : Hid (tailO sz st sq hd us = twoOps (supL 106 108 111 103 1 sz sq hd)) := by show _ = _; unfold tailO; rw [if_pos ⟨hv, hu⟩]
  have hN := startOps_ok w1 sz st sq hd us hv (HC1.out.cell HM.out.1 (by omega)) (HC1.out.cell HM.out.2.1 (by omega)) (HC1.out.cell HM.out.2.2.1 (by omega)) (HC1.out.cell HM.out.2.2.2 (by omega))
  have hue : (us == 0) = false := by simpa using hu
  rw [hv]
  clear hv hu
  go_wp2_with fail
  refine hN.mono ?_
  rintro e w2 ⟨g, rfl, ⟨cells, dvs, ho⟩, h2⟩
  have HC2 : Hid (Chg 0 0 w w2) := HC1.out.trans h2
  have HO : Hid (OwnOx w2 w1.heap.size 44 5 (.slice (some ⟨g, 0, none⟩) 2 2) (twoOps (supL 106 108 111 103 1 sz sq hd)) cells dvs) := ho
  have HX : Hid (OwnOx w2 w.heap.size 44 5 (.slice (some ⟨g, 0, none⟩) 2 2) (twoOps (supL 106 108 111 103 1 sz sq hd)) cells dvs) := by
    have := HC1.out.size
    refine ⟨?_, ho.at0, ho.at1, ho.at2, fun i hi => (ho.data i hi).base (fun g hg => by have := ((ho.data i hi).lt g hg).1; omega), ho.apart⟩
    obtain ⟨r1, r2⟩ := ho.row
    refine ⟨r1, ?_⟩
    rcases r2 with r2 | ⟨g', cap, cur, e, hg, r⟩
    · exact Or.inl r2
    · exact Or.inr ⟨g', cap, cur, e, by omega, r⟩
  clear hN ho h2
  go_wp2
  go_ret
  exact ⟨_, rfl, by rw [Ht.out]; exact ⟨_, _, HX.out⟩, HC2.out⟩

end Go.Proofs.YtkkbaedlfijlmaaGreatDoor

namespace Go.Proofs.YtkkbaedlfijlmaaGreatDoor
open Go.RowKit

theorem tri3 {w : World} {s : Nat} {a b c : Value} {t : TypeId} (h : w.heap[s]? = some (.cells #[a, b, c] t (0, 0))) :
    (w.cell? ⟨s, 0, none⟩ = some a ∧ w.cell? ⟨s, 1, none⟩ = some b ∧ w.cell? ⟨s, 2, none⟩ = some c) ∧ w.frozen? ⟨s, 0, none⟩ = false ∧ w.frozen? ⟨s, 1, none⟩ = false ∧ w.frozen? ⟨s, 2, none⟩ = false := by
  simp [World.cell?, World.frozen?, h]

theorem supL_64 {sz sq hd : Int} (h : OkS sz sq hd) : (supL 106 108 111 103 1 sz sq hd).length = 64 := by
  obtain ⟨a1, a2, a3, a4, a5, a6⟩ := h
  obtain ⟨hc0, hc1⟩ := crcV_range (supA 106 108 111 103 1 sz sq hd)
  exact supL_length (pn2 (by omega) (by omega)) (pn4 (by omega) a2) (pn2 a5 (by omega)) (pn4 hc0 hc1)

set_option maxRecDepth 20000 in
set_option maxHeartbeats 2000000 in
theorem l4Super_ok (w : World) (sz st sq hd us : Int) (h : OkS sz sq hd) :
    Calls Tryz.prog 30 #[.agg #[.int .i64 sz, .int .i64 st, .int .i64 sq, .int .i64 hd, .int .i64 us], .int .i64 hd] w fun e w' => ∃ g cp, e = .returned (.agg #[.int .i64 1, .int .i64 1, .slice (some ⟨g, 0, none⟩) 64 cp]) ∧ OwnB w' w.heap.size 5 (.slice (some ⟨g, 0, none⟩) 64 cp) (supL 106 108 111 103 1 sz sq hd) ∧ Chg 0 0 w w' := by
  obtain ⟨z1, z2, z3⟩ := alloc2 w (.cells #[.int .i64 sz, .int .i64 st, .int .i64 sq, .int .i64 hd, .int .i64 us] 28) (.cells #[.int .i64 0, .int .i64 0, .slice none 0 0] 44)
  have hA : Chg 0 0 w ((w.alloc (.cells #[.int .i64 sz, .int .i64 st, .int .i64 sq, .int .i64 hd, .int .i64 us] 28)).alloc (.cells #[.int .i64 0, .int .i64 0, .slice none 0 0] 44)) := (Chg.alloc (Chg.refl 0 0 w) _).alloc _
  have hN := fun w => specJSuper_ok w sz hd sq h (supA_byt _ _ _)
  have Hl : Hid ((supL 106 108 111 103 1 sz sq hd).length = 64) := supL_64 h
  clear h
  go_enter Tryz.func30, Tryz.ntmps30
  go_wp2_with fail
  generalize (w.alloc (.cells #[.int .i64 sz, .int .i64 st, .int .i64 sq, .int .i64 hd, .int .i64 us] 28)).alloc (.cells #[.int .i64 0, .int .i64 0, .slice none 0 0] 44) = w0 at *
  refine (hN _).mono ?_
  rintro e w1 ⟨v, rfl, o1, h1⟩
  have s1 := h1.size
  obtain ⟨g, cp, rfl⟩ : ∃ g c, v = .slice (some ⟨g, 0, none⟩) 64 c := by
    rcases o1.2 with ⟨_, h0⟩ | ⟨g, gc, cur, rfl, _⟩
    · rw [Hl.out] at h0; omega
    · exact ⟨g, gc, by rw [Hl.out]⟩
  have hgl := o1.lt g rfl
  have HC1 : Hid (Chg 0 0 w w1) := hA.trans h1
  obtain ⟨⟨x0, x1, x2⟩, xf0, xf1, xf2⟩ := tri3 ((h1.block (w.heap.size + 1) (by omega) (by omega)).trans z3)
  have HO : Hid (∀ u0 u1 u2 : Value, OwnB (((w1.setCell ⟨w.heap.size + 1, 0, none⟩ u0).setCell ⟨w.heap.size + 1, 1, none⟩ u1).setCell ⟨w.heap.size + 1, 2, none⟩ u2) w.heap.size 5 (.slice (some ⟨g, 0, none⟩) 64 cp) (supL 106 108 111 103 1 sz sq hd) ∧ Chg 0 0 w (((w1.setCell ⟨w.heap.size + 1, 0, none⟩ u0).setCell ⟨w.heap.size + 1, 1, none⟩ u1).setCell ⟨w.heap.size + 1, 2, none⟩ u2)) := by
    intro u0 u1 u2
    have c1 : Chg (w.heap.size + 1) (w.heap.size + 1 + 1) w1 (((w1.setCell ⟨w.heap.size + 1, 0, none⟩ u0).setCell ⟨w.heap.size + 1, 1, none⟩ u1).setCell ⟨w.heap.size + 1, 2, none⟩ u2) := by
      refine Chg.setCell (Chg.setCell (Chg.setCell (Chg.refl _ _ _) ?_ _) ?_ _) ?_ _ <;> exact Or.inl ⟨Nat.le_refl _, Nat.lt_succ_self _⟩
    exact ⟨(o1.base (fun g hg => by have := (o1.lt g hg).1; omega)).chg c1 (fun g' hg' => by cases hg'; show g < w.heap.size + 1 ∨ w.heap.size + 1 + 1 ≤ g; omega), HC1.out.step c1 (by omega)⟩
  clear o1 h1 hN z2 z3 hA
  go_wp2
  exact bodyPost_ret (v := .agg #[.int .i64 1, .int .i64 1, .slice (some ⟨g, 0, none⟩) 64 cp]) (by simp [results, Tryz.results30, go_sem, *]) rfl ⟨g, cp, rfl, (HO.out _ _ _).1, (HO.out _ _ _).2⟩

end Go.Proofs.YtkkbaedlfijlmaaGreatDoor
