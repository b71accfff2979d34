/- The law's helpers that look for the marks of a disk: heldWriteS, heldDisk. -/
import Derived.Test.YtplfehjaakkldaaMarkD
namespace Go.Proofs.Ytplfehjaakkldaa
open Go.RowKit

set_option maxRecDepth 20000 in
set_option maxHeartbeats 1000000 in
theorem heldWriteS_some (w : World) (ps : List Wr) (k0 lo hi b off cap : Nat) (hl : ps.length ≤ 140737488355328) (hk0 : k0 + cnt ps ≤ 140737488355328)
    (h1 : ∀ i, i < ps.length → ∃ dv, w.cell? ⟨b, off + i * 2, none⟩ = some (.int .i64 ((mkTo k0 ps ps.length).getD i (0, [])).1) ∧ w.cell? ⟨b, off + i * 2 + 1, none⟩ = some dv ∧ View w lo hi .u8 dv ((mkTo k0 ps ps.length).getD i (0, [])).2) :
    Calls Try.prog 55 #[.slice (some ⟨b, off, none⟩) ps.length cap, .int .i64 k0] w fun e w' => e = .returned (.int .i64 ((k0 + cnt ps : Nat) : Int)) ∧ Same w w' := by
  go_enter Try.func55, Try.ntmps55
  go_wp2
  go_loopw [1, 5] (fun q i wr => Same w wr ∧ ∃ k : Nat, k ≤ ps.length ∧ i = .int .i64 k ∧ q = .int .i64 ((k0 + cnt (ps.take k) : Nat) : Int)) (fun _ i _ => ps.length - (intOf i).toNat)
  case atStart => exact ⟨Same.refl _, 0, Nat.zero_le _, rfl, rfl⟩
  case round =>
    obtain ⟨hal, k, hk, rfl, rfl⟩ := hrel
    by_cases hlt : k < ps.length
    · obtain ⟨d1, c1, c2, v1⟩ := h1 k hlt
      clear h1
      rw [mkTo_getD _ _ _ _ hlt, if_pos hlt] at c1 v1
      unfold mkW at c1 v1
      have hcs := cnt_take_succ ps k hlt
      have hcl := cnt_take_le ps (k + 1)
      have c1 := (hal.cell _).trans c1
      have c2 := (hal.cell _).trans c2
      have v1 := v1.same hal
      have hik : (k : Int) < (ps.length : Int) := by omega
      generalize cnt (ps.take k) = c at *
      generalize (ps.getD k (0, [])).2.length = n at *
      have hbd : k0 + c + 1 + n ≤ 140737488355328 := by omega
      have Hcs : Hid (cnt (ps.take (k + 1)) = c + (n + 1)) := hcs
      clear hcs hcl
      go_wp2_with fail
      rw [show (k0 : Int) + (c : Int) + 1 = ((k0 + c + 1 : Nat) : Int) from by omega]
      refine (heldByteS_calls _ (k0 + c + 1) n (by omega) v1).mono ?_
      rintro e w1 ⟨rfl, hs⟩
      have hs' := hal.trans hs
      clear hs hal v1 c1 c2
      go_wp2
      go_roundw
      case rel => exact ⟨hs', k + 1, by omega, by go_num, by rw [Hcs.out]; go_num⟩
      case measure => simp [intOf]; omega
    · obtain rfl : k = ps.length := by omega
      clear h1
      rw [List.take_length]
      go_wp2
      go_ret
      exact ⟨rfl, hal⟩

set_option maxRecDepth 20000 in
set_option maxHeartbeats 400000 in
theorem heldWriteS_none (w : World) (ao : Option Addr) (k0 cap : Nat) :
    Calls Try.prog 55 #[.slice ao 0 cap, .int .i64 k0] w fun e w' => e = .returned (.int .i64 (k0 : Int)) ∧ Same w w' := by
  go_enter Try.func55, Try.ntmps55
  go_wp2
  refine wp_loop_rounds 1 ?_; rw [rounds_succ]
  go_wp2
  go_ret
  exact ⟨rfl, Same.refl _⟩

theorem heldWriteS_calls (w : World) {lo hi : Nat} {a : Value} (ps : List Wr) (k0 : Nat) (hk0 : k0 + cnt ps ≤ 140737488355328) (h1 : PView w lo hi a (mkTo k0 ps ps.length)) :
    Calls Try.prog 55 #[a, .int .i64 k0] w fun e w' => e = .returned (.int .i64 ((k0 + cnt ps : Nat) : Int)) ∧ Same w w' := by
  obtain ⟨ao, cap, rfl, hl, _, h1⟩ := h1
  rw [mkTo_length] at *
  rcases h1 with h1 | ⟨x, off, rfl, _, _, h1⟩
  · obtain rfl : ps = [] := by have := congrArg List.length h1; rw [mkTo_length] at this; exact List.eq_nil_of_length_eq_zero this
    exact heldWriteS_none w ao k0 cap
  · exact heldWriteS_some w ps k0 lo hi x off cap (by have := cnt_ge ps; omega) hk0 h1

set_option maxRecDepth 20000 in
set_option maxHeartbeats 1000000 in
theorem heldDisk_calls (w : World) {v : Value} (d : Dsk) (k0 : Nat) {lo hi : Nat} (hk0 : k0 + cntD d ≤ 140737488355328) (h1 : DView w lo hi v (mkD k0 d)) :
    Calls Try.prog 18 #[v, .int .i64 k0] w fun r w' => r = .returned (.int .i64 ((k0 + cntD d : Nat) : Int)) ∧ Chg 0 0 w w' := by
  obtain ⟨dv, pv, rfl, v1, p1⟩ := h1
  unfold cntD at hk0
  go_enter Try.func18, Try.ntmps18
  go_wp2_with fail
  refine (heldByteS_calls _ k0 d.dur.length (by omega) (v1.chg (Chg.alloc (Chg.refl 0 0 w) _) (by omega))).mono ?_
  rintro e w1 ⟨rfl, hs⟩
  have hc : Chg 0 0 w w1 := (Chg.alloc (Chg.refl 0 0 w) _).trans (hs.chg 0 0)
  have p1 := p1.chg hc (by omega)
  have cc := fun p => hs.cell p
  clear hs v1
  go_wp2_with fail
  refine (heldWriteS_calls _ d.pend (k0 + d.dur.length) (by omega) p1).mono ?_
  rintro e w2 ⟨rfl, hs⟩
  have hc2 := hc.trans (hs.chg 0 0)
  clear hs hc p1 cc
  go_wp2
  go_ret
  exact ⟨ret_int (by unfold cntD; omega), hc2⟩

end Go.Proofs.Ytplfehjaakkldaa
