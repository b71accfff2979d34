/- ValidLog of the model and of the program. -/
import Derived.Test.YtlpgghooikedoaaLogPlace
import Derived.Test.YtlpgghooikedoaaGoodSeq
namespace Go.Proofs.Ytlpgghooikedoaa
open Go.RowKit

/-- The bounds of a log. -/
abbrev InLog (sz st sq hd us : Int) : Prop := (16 ≤ sz ∧ sz ≤ 512) ∧ (1 ≤ sq ∧ sq ≤ 4294967295) ∧ (0 ≤ st ∧ st ≤ sz) ∧ (1 ≤ hd ∧ hd ≤ sz) ∧ (0 ≤ us ∧ us ≤ sz)
/-- ValidLog. -/
def validLog (sz st sq hd us : Int) : Bool := decide (InLog sz st sq hd us) && (if st = 0 then decide (us = 0) else decide (hd = placeI sz st us))

theorem validLog_out {sz st sq hd us : Int} (h : ¬ InLog sz st sq hd us) : validLog sz st sq hd us = false := by unfold validLog; rw [decide_eq_false h]; rfl
theorem validLog_zero {sz st sq hd us : Int} (h : InLog sz st sq hd us) (h0 : st = 0) : validLog sz st sq hd us = decide (us = 0) := by unfold validLog; rw [decide_eq_true h, if_pos h0]; rfl
theorem validLog_at {sz st sq hd us : Int} (h : InLog sz st sq hd us) (h0 : ¬ st = 0) : validLog sz st sq hd us = decide (hd = placeI sz st us) := by unfold validLog; rw [decide_eq_true h, if_neg h0]; rfl

set_option maxRecDepth 20000 in
set_option maxHeartbeats 2000000 in
theorem specValidLog_calls (w : World) (sz st sq hd us : Int) :
    Calls Try.prog 8 #[.agg #[.int .i64 sz, .int .i64 st, .int .i64 sq, .int .i64 hd, .int .i64 us]] w fun e w' => e = .returned (.bool (validLog sz st sq hd us)) ∧ Chg 0 0 w w' := by
  have HC : Hid (Chg 0 0 w (w.alloc (.cells #[.int .i64 sz, .int .i64 st, .int .i64 sq, .int .i64 hd, .int .i64 us] 24))) := Chg.alloc (Chg.refl 0 0 w) _
  go_enter Try.func8, Try.ntmps8
  go_wp2_with fail
  refine (l3GoodSeq_calls _ sq).mono ?_
  rintro e w1 ⟨rfl, rfl⟩
  by_cases g1 : goodSeq sq = true
  case neg =>
    have hv : validLog sz st sq hd us = false := validLog_out (fun h => g1 (by unfold goodSeq; rw [decide_eq_true h.2.1.1, decide_eq_true h.2.1.2]; rfl))
    rw [Bool.not_eq_true] at g1
    rw [g1]
    go_wp2
    go_ret
    exact ⟨by rw [hv]; rfl, HC.out⟩
  have gq : 1 ≤ sq ∧ sq ≤ 4294967295 := by
    unfold goodSeq at g1; simpa using g1
  rw [g1]
  by_cases c : InLog sz st sq hd us
  case neg =>
    have hv : validLog sz st sq hd us = false := validLog_out c
    have fin : ∀ {x : Prop}, x ∨ True := fun {x} => Or.inr trivial
    by_cases c1 : sz < 16
    · go_wp2
      go_ret
      exact ⟨by rw [hv]; rfl, HC.out⟩
    by_cases c2 : 512 < sz
    · go_wp2
      go_ret
      exact ⟨by rw [hv]; rfl, HC.out⟩
    by_cases c3 : st < 0
    · go_wp2
      go_ret
      exact ⟨by rw [hv]; rfl, HC.out⟩
    by_cases c4 : sz < st
    · go_wp2
      go_ret
      exact ⟨by rw [hv]; rfl, HC.out⟩
    by_cases c5 : hd < 1
    · go_wp2
      go_ret
      exact ⟨by rw [hv]; rfl, HC.out⟩
    by_cases c6 : sz < hd
    · go_wp2
      go_ret
      exact ⟨by rw [hv]; rfl, HC.out⟩
    by_cases c7 : us < 0
    · go_wp2
      go_ret
      exact ⟨by rw [hv]; rfl, HC.out⟩
    by_cases c8 : sz < us
    · go_wp2
      go_ret
      exact ⟨by rw [hv]; rfl, HC.out⟩
    exact absurd ⟨⟨by omega, by omega⟩, gq, ⟨by omega, by omega⟩, ⟨by omega, by omega⟩, ⟨by omega, by omega⟩⟩ c
  obtain ⟨⟨a1, a2⟩, ⟨a3, a4⟩, ⟨a5, a6⟩, ⟨a7, a8⟩, ⟨a9, a10⟩⟩ := id c
  by_cases c0 : st = 0
  · subst c0
    have hv := validLog_zero c rfl
    have Hv : Hid (validLog sz 0 sq hd us = decide (us = 0)) := hv
    clear hv c
    go_wp2
    go_ret
    exact ⟨by rw [Hv.out]; rfl, HC.out⟩
  have hv := validLog_at c c0
  have Hv : Hid (validLog sz st sq hd us = decide (hd = placeI sz st us)) := hv
  clear hv c
  go_wp2_with fail
  go_quiet (first | (go_at_call 11; exact Calls.quiet_of_same (l4Place_calls _ sz st us a1 a2 (by omega) (by omega) a9 (by omega))))
  go_wp2
  go_ret
  exact ⟨by rw [Hv.out]; rfl, HC.out.drewN _⟩

set_option maxRecDepth 20000 in
set_option maxHeartbeats 2000000 in
theorem implValidLog_calls (w : World) (sz st sq hd us : Int) :
    Calls Try.prog 9 #[.agg #[.int .i64 sz, .int .i64 st, .int .i64 sq, .int .i64 hd, .int .i64 us]] w fun e w' => e = .returned (.bool (validLog sz st sq hd us)) ∧ Chg 0 0 w w' := by
  have HC : Hid (Chg 0 0 w (w.alloc (.cells #[.int .i64 sz, .int .i64 st, .int .i64 sq, .int .i64 hd, .int .i64 us] 24))) := Chg.alloc (Chg.refl 0 0 w) _
  go_enter Try.func9, Try.ntmps9
  go_wp2_with fail
  refine (isWithin_calls _ sz 16 512).mono ?_
  rintro e w1 ⟨rfl, rfl⟩
  by_cases c1 : 16 ≤ sz ∧ sz ≤ 512
  case neg =>
    have hv : validLog sz st sq hd us = false := validLog_out (fun h => c1 h.1)
    have hb : (decide (16 ≤ sz) && decide (sz ≤ 512)) = false := by rw [Bool.eq_false_iff]; simpa using c1
    rw [hb]
    go_wp2
    go_ret
    exact ⟨by rw [hv]; rfl, HC.out⟩
  have hb : (decide (16 ≤ sz) && decide (sz ≤ 512)) = true := by simpa using c1
  rw [hb]
  clear hb
  go_wp2_with fail
  refine (isWithin_calls _ sq 1 4294967295).mono ?_
  rintro e w1 ⟨rfl, rfl⟩
  by_cases c2 : 1 ≤ sq ∧ sq ≤ 4294967295
  case neg =>
    have hv : validLog sz st sq hd us = false := validLog_out (fun h => c2 h.2.1)
    have hb : (decide (1 ≤ sq) && decide (sq ≤ 4294967295)) = false := by rw [Bool.eq_false_iff]; simpa using c2
    rw [hb]
    go_wp2
    go_ret
    exact ⟨by rw [hv]; rfl, HC.out⟩
  have hb : (decide (1 ≤ sq) && decide (sq ≤ 4294967295)) = true := by simpa using c2
  rw [hb]
  clear hb
  go_wp2_with fail
  refine (isWithin_calls _ st 0 sz).mono ?_
  rintro e w1 ⟨rfl, rfl⟩
  by_cases c3 : 0 ≤ st ∧ st ≤ sz
  case neg =>
    have hv : validLog sz st sq hd us = false := validLog_out (fun h => c3 h.2.2.1)
    have hb : (decide (0 ≤ st) && decide (st ≤ sz)) = false := by rw [Bool.eq_false_iff]; simpa using c3
    rw [hb]
    go_wp2
    go_ret
    exact ⟨by rw [hv]; rfl, HC.out⟩
  have hb : (decide (0 ≤ st) && decide (st ≤ sz)) = true := by simpa using c3
  rw [hb]
  clear hb
  go_wp2_with fail
  refine (isWithin_calls _ hd 1 sz).mono ?_
  rintro e w1 ⟨rfl, rfl⟩
  by_cases c4 : 1 ≤ hd ∧ hd ≤ sz
  case neg =>
    have hv : validLog sz st sq hd us = false := validLog_out (fun h => c4 h.2.2.2.1)
    have hb : (decide (1 ≤ hd) && decide (hd ≤ sz)) = false := by rw [Bool.eq_false_iff]; simpa using c4
    rw [hb]
    go_wp2
    go_ret
    exact ⟨by rw [hv]; rfl, HC.out⟩
  have hb : (decide (1 ≤ hd) && decide (hd ≤ sz)) = true := by simpa using c4
  rw [hb]
  clear hb
  go_wp2_with fail
  refine (isWithin_calls _ us 0 sz).mono ?_
  rintro e w1 ⟨rfl, rfl⟩
  by_cases c5 : 0 ≤ us ∧ us ≤ sz
  case neg =>
    have hv : validLog sz st sq hd us = false := validLog_out (fun h => c5 h.2.2.2.2)
    have hb : (decide (0 ≤ us) && decide (us ≤ sz)) = false := by rw [Bool.eq_false_iff]; simpa using c5
    rw [hb]
    go_wp2
    go_ret
    exact ⟨by rw [hv]; rfl, HC.out⟩
  have hb : (decide (0 ≤ us) && decide (us ≤ sz)) = true := by simpa using c5
  rw [hb]
  clear hb
  have c : InLog sz st sq hd us := ⟨c1, c2, c3, c4, c5⟩
  obtain ⟨⟨a1, a2⟩, ⟨a3, a4⟩, ⟨a5, a6⟩, ⟨a7, a8⟩, ⟨a9, a10⟩⟩ := id c
  clear c1 c2 c3 c4 c5
  by_cases c0 : st = 0
  · subst c0
    have hv := validLog_zero c rfl
    have Hv : Hid (validLog sz 0 sq hd us = decide (us = 0)) := hv
    clear hv c
    go_wp2
    go_ret
    exact ⟨by rw [Hv.out]; rfl, HC.out⟩
  have hv := validLog_at c c0
  have Hv : Hid (validLog sz st sq hd us = decide (hd = placeI sz st us)) := hv
  clear hv c
  go_wp2_with fail
  go_quiet (first | (go_at_call 13; exact Calls.quiet_of_same (positionFrom_calls _ sz st us a1 a2 (by omega) (by omega) a9 (by omega))))
  go_wp2
  go_ret
  exact ⟨by rw [Hv.out]; rfl, HC.out.drewN _⟩

set_option maxRecDepth 20000 in
set_option maxHeartbeats 1000000 in
theorem toLog_calls (w : World) (sz st sq hd us : Int) :
    Calls Try.prog 5 #[.agg #[.int .i64 sz, .int .i64 st, .int .i64 sq, .int .i64 hd, .int .i64 us]] w fun e w' => e = .returned (.agg #[.int .i64 sz, .int .i64 st, .int .i64 sq, .int .i64 hd, .int .i64 us]) ∧ Chg 0 0 w w' := by
  go_enter Try.func5, Try.ntmps5
  go_wp2
  exact bodyPost_ret (v := .agg #[.int .i64 sz, .int .i64 st, .int .i64 sq, .int .i64 hd, .int .i64 us]) (by simp [results, Try.results5, go_sem]) rfl ⟨rfl, ((Chg.alloc (Chg.refl 0 0 w) _).alloc _).alloc _⟩

end Go.Proofs.Ytlpgghooikedoaa
