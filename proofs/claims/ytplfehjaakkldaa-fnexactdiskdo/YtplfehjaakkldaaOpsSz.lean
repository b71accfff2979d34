/- The law's helpers that count and compare operations: szOp, szOpS, eqOp, eqOpS. -/
import Derived.Test.YtplfehjaakkldaaOps
import Derived.Test.YtplfehjaakkldaaSz
import Derived.Test.YtplfehjaakkldaaEq
namespace Go.Proofs.Ytplfehjaakkldaa
open Go.RowKit

set_option maxRecDepth 20000 in
set_option maxHeartbeats 400000 in
theorem szOp_calls (w : World) (q a : Int) (ao : Option Addr) (n cap left : Nat) (hl : n ≤ 9223372036854775807) (hb : left ≤ 1048576) :
    Calls Try.prog 71 #[.agg #[.int .i64 q, .int .i64 a, .slice ao n cap], .int .i64 left] w fun e w' => e = .returned (.int .i64 (lft left n)) ∧ Chg 0 0 w w' := by
  by_cases h : n ≤ left
  · go_enter Try.func71, Try.ntmps71
    go_wp2_with fail
    refine (szByteS_calls _ ao n cap left hl hb).mono ?_
    rintro e w1 ⟨rfl, rfl⟩
    rw [lft_pos h]
    go_wp2
    go_ret
    exact ⟨by rw [lft_pos h]; rfl, Chg.alloc (Chg.refl 0 0 w) _⟩
  · go_enter Try.func71, Try.ntmps71
    go_wp2_with fail
    refine (szByteS_calls _ ao n cap left hl hb).mono ?_
    rintro e w1 ⟨rfl, rfl⟩
    rw [lft_neg h]
    go_wp2
    go_ret
    exact ⟨by rw [lft_neg h]; rfl, Chg.alloc (Chg.refl 0 0 w) _⟩

set_option maxRecDepth 20000 in
set_option maxHeartbeats 1000000 in
theorem szOpS_some (w : World) (ps : List Opx) (lo hi b off cap left : Nat) (hl : ps.length ≤ 9223372036854775807) (hb : left ≤ 1048576)
    (h1 : ∀ i, i < ps.length → ∃ dv, w.cell? ⟨b, off + i * 3, none⟩ = some (.int .i64 (ps.getD i Opx.zero).1) ∧ w.cell? ⟨b, off + i * 3 + 1, none⟩ = some (.int .i64 (ps.getD i Opx.zero).2.1) ∧ w.cell? ⟨b, off + i * 3 + 2, none⟩ = some dv ∧ View w lo hi .u8 dv (ps.getD i Opx.zero).2.2) :
    Calls Try.prog 39 #[.slice (some ⟨b, off, none⟩) ps.length cap, .int .i64 left] w fun e w' => e = .returned (.int .i64 (lft left (cntO ps))) ∧ Chg 0 0 w w' := by
  have hcg := cntO_ge ps
  by_cases h0 : ps.length ≤ left
  · go_enter Try.func39, Try.ntmps39
    go_wp2
    go_loopw [1, 5] (fun q i wr => Chg 0 0 w wr ∧ ∃ k : Nat, k ≤ ps.length ∧ i = .int .i64 k ∧ ps.length + cntO (ps.take k) - k ≤ left ∧ q = .int .i64 ((left - (ps.length + cntO (ps.take k) - k) : Nat) : Int)) (fun _ i _ => ps.length - (intOf i).toNat)
    case atStart => exact ⟨Chg.refl _ _ _, 0, Nat.zero_le _, rfl, by simp [cntO]; exact h0, by simp [cntO]; omega⟩
    case round =>
      obtain ⟨hch, k, hk, rfl, hle, rfl⟩ := hrel
      by_cases hlt : k < ps.length
      · obtain ⟨d1, c1, c2, c3, v1⟩ := h1 k hlt
        clear h1
        have hcs := cntO_take_succ ps k hlt
        have hcl := cntO_rest ps (k + 1)
        have hcg2 := cntO_ge (ps.take k)
        rw [List.length_take, Nat.min_eq_left hk] at hcg2
        obtain ⟨ao, cap', rfl, hl', _, _⟩ := v1
        generalize (ps.getD k Opx.zero).1 = q at *
        generalize (ps.getD k Opx.zero).2.1 = a at *
        generalize (ps.getD k Opx.zero).2.2.length = n at *
        have c1 := hch.cell c1 (by omega)
        have c2 := hch.cell c2 (by omega)
        have c3 := hch.cell c3 (by omega)
        have hi : (k : Int) < (ps.length : Int) := by omega
        generalize cntO (ps.take k) = c at *
        have Hcs : Hid (cntO (ps.take (k + 1)) = c + (n + 1)) := hcs
        clear hcs
        generalize hL : left - (ps.length + c - k) = L at *
        have HL : Hid (left - (ps.length + c - k) = L) := hL
        have hLb : L ≤ 1048576 := by omega
        clear hL
        go_wp2_with fail
        refine (szOp_calls _ q a ao n cap' L hl' hLb).mono ?_
        rintro e w1 ⟨rfl, hs⟩
        have hch' := hch.trans hs
        clear hs hch c1 c2 c3
        by_cases hn : n ≤ L
        · rw [lft_pos hn]
          go_wp2
          go_roundw
          case rel => exact ⟨hch', k + 1, by omega, by go_num, by have := HL.out; have := Hcs.out; omega, by have := HL.out; have := Hcs.out; congr 1; omega⟩
          case measure => simp [intOf]; omega
        · rw [lft_neg hn]
          have hfin : ¬ cntO ps ≤ left := by have := HL.out; have := Hcs.out; omega
          go_wp2
          go_ret
          exact ⟨by rw [lft_neg hfin]; rfl, hch'⟩
      · obtain rfl : k = ps.length := by omega
        clear h1
        rw [List.take_length] at *
        have hfin : cntO ps ≤ left := by omega
        go_wp2
        go_ret
        exact ⟨by rw [lft_pos hfin]; exact ret_int (by omega), hch⟩
  · have h' : (left : Int) - ps.length < 0 := by omega
    have hfin : ¬ cntO ps ≤ left := by omega
    clear h1
    go_enter Try.func39, Try.ntmps39
    go_wp2
    go_ret
    exact ⟨by rw [lft_neg hfin]; rfl, Chg.refl _ _ _⟩

set_option maxRecDepth 20000 in
set_option maxHeartbeats 400000 in
theorem szOpS_none (w : World) (ao : Option Addr) (cap left : Nat) (hb : left ≤ 1048576) :
    Calls Try.prog 39 #[.slice ao 0 cap, .int .i64 left] w fun e w' => e = .returned (.int .i64 (left : Int)) ∧ Chg 0 0 w w' := by
  go_enter Try.func39, Try.ntmps39
  go_wp2
  refine wp_loop_rounds 1 ?_; rw [rounds_succ]
  go_wp2
  go_ret
  exact ⟨rfl, Chg.refl _ _ _⟩

theorem szOpS_calls (w : World) {lo hi : Nat} {a : Value} (ps : List Opx) (left : Nat) (hb : left ≤ 1048576) (h1 : OView w lo hi a ps) :
    Calls Try.prog 39 #[a, .int .i64 left] w fun e w' => e = .returned (.int .i64 (lft left (cntO ps))) ∧ Chg 0 0 w w' := by
  obtain ⟨ao, cap, rfl, hl, _, h1⟩ := h1
  rcases h1 with rfl | ⟨x, off, rfl, _, _, h1⟩
  · exact szOpS_none w ao cap left hb
  · exact szOpS_some w ps lo hi x off cap left hl hb h1

set_option maxRecDepth 20000 in
set_option maxHeartbeats 400000 in
theorem eqOp_calls (w : World) {lo hi lo' hi' : Nat} (q p : Int) {a b : Value} {xs : List Int} (h1 : View w lo hi .u8 a xs) (h2 : View w lo' hi' .u8 b xs) :
    Calls Try.prog 73 #[.agg #[.int .i64 q, .int .i64 p, a], .agg #[.int .i64 q, .int .i64 p, b]] w fun e w' => e = .returned (.bool true) ∧ Chg 0 0 w w' := by
  have hne : (q != q) = false := by simp
  have hne2 : (p != p) = false := by simp
  go_enter Try.func73, Try.ntmps73
  go_wp2_with fail
  refine (eqByteS_calls _ (h1.chg ((Chg.alloc (Chg.refl 0 0 w) _).alloc _) (by omega)) (h2.chg ((Chg.alloc (Chg.refl 0 0 w) _).alloc _) (by omega))).mono ?_
  rintro e w1 ⟨rfl, hs⟩
  have hc : Chg 0 0 w w1 := ((Chg.alloc (Chg.refl 0 0 w) _).alloc _).trans (hs.chg 0 0)
  clear hs
  go_wp2
  go_ret
  exact ⟨rfl, hc⟩

set_option maxRecDepth 20000 in
set_option maxHeartbeats 1000000 in
theorem eqOpS_some (w : World) (ps : List Opx) (lo hi lo' hi' b off b' off' cap cap' : Nat) (hl : ps.length ≤ 9223372036854775807)
    (h1 : ∀ i, i < ps.length → ∃ dv, w.cell? ⟨b, off + i * 3, none⟩ = some (.int .i64 (ps.getD i Opx.zero).1) ∧ w.cell? ⟨b, off + i * 3 + 1, none⟩ = some (.int .i64 (ps.getD i Opx.zero).2.1) ∧ w.cell? ⟨b, off + i * 3 + 2, none⟩ = some dv ∧ View w lo hi .u8 dv (ps.getD i Opx.zero).2.2)
    (h2 : ∀ i, i < ps.length → ∃ dv, w.cell? ⟨b', off' + i * 3, none⟩ = some (.int .i64 (ps.getD i Opx.zero).1) ∧ w.cell? ⟨b', off' + i * 3 + 1, none⟩ = some (.int .i64 (ps.getD i Opx.zero).2.1) ∧ w.cell? ⟨b', off' + i * 3 + 2, none⟩ = some dv ∧ View w lo' hi' .u8 dv (ps.getD i Opx.zero).2.2) :
    Calls Try.prog 41 #[.slice (some ⟨b, off, none⟩) ps.length cap, .slice (some ⟨b', off', none⟩) ps.length cap'] w fun e w' => e = .returned (.bool true) ∧ Chg 0 0 w w' := by
  have hne : ((ps.length : Int) != (ps.length : Int)) = false := by simp
  go_enter Try.func41, Try.ntmps41
  go_wp2
  go_loopw [5] (fun i wr => Chg 0 0 w wr ∧ ∃ k : Nat, k ≤ ps.length ∧ i = .int .i64 k) (fun i _ => ps.length - (intOf i).toNat)
  case atStart => exact ⟨Chg.refl _ _ _, 0, Nat.zero_le _, rfl⟩
  case round =>
    obtain ⟨hch, k, hk, rfl⟩ := hrel
    by_cases hlt : k < ps.length
    · obtain ⟨d1, c1, c2, c3, v1⟩ := h1 k hlt
      obtain ⟨d2, c4, c5, c6, v2⟩ := h2 k hlt
      clear h1 h2
      generalize (ps.getD k Opx.zero).1 = q at *
      generalize (ps.getD k Opx.zero).2.1 = p at *
      generalize (ps.getD k Opx.zero).2.2 = xs at *
      have c1 := hch.cell c1 (by omega)
      have c2 := hch.cell c2 (by omega)
      have c3 := hch.cell c3 (by omega)
      have c4 := hch.cell c4 (by omega)
      have c5 := hch.cell c5 (by omega)
      have c6 := hch.cell c6 (by omega)
      have v1 := v1.chg hch (by omega)
      have v2 := v2.chg hch (by omega)
      have hi : (k : Int) < (ps.length : Int) := by omega
      go_wp2
      go_region_with (go_at_call 73; refine (eqOp_calls _ q p (v1.chg (Chg.drew (Chg.refl 0 0 _)) (by omega)) (v2.chg (Chg.drew (Chg.refl 0 0 _)) (by omega))).mono ?_; rintro e w1 ⟨rfl, hs⟩)
      all_goals
        have hch' : Chg 0 0 w w1 := hch.drew.trans hs
        clear hs hch
        go_wp2
        go_roundw
        case rel => exact ⟨hch', k + 1, by omega, by go_num⟩
        case measure => simp [intOf]; omega
    · clear h1 h2
      go_wp2
      go_ret
      exact ⟨rfl, hch⟩

set_option maxRecDepth 20000 in
set_option maxHeartbeats 400000 in
theorem eqOpS_none (w : World) (ao bo : Option Addr) (cap cap' : Nat) :
    Calls Try.prog 41 #[.slice ao 0 cap, .slice bo 0 cap'] w fun e w' => e = .returned (.bool true) ∧ Chg 0 0 w w' := by
  go_enter Try.func41, Try.ntmps41
  go_wp2
  refine wp_loop_rounds 1 ?_; rw [rounds_succ]
  go_wp2
  go_ret
  exact ⟨rfl, Chg.refl _ _ _⟩

theorem eqOpS_calls (w : World) {lo hi lo' hi' : Nat} {a b : Value} {ps : List Opx} (h1 : OView w lo hi a ps) (h2 : OView w lo' hi' b ps) :
    Calls Try.prog 41 #[a, b] w fun e w' => e = .returned (.bool true) ∧ Chg 0 0 w w' := by
  obtain ⟨ao, cap, rfl, hl, _, h1⟩ := h1
  obtain ⟨bo, cap', rfl, _, _, h2⟩ := h2
  rcases h1 with rfl | ⟨x, off, rfl, _, _, h1⟩
  · exact eqOpS_none w ao bo cap cap'
  · rcases h2 with rfl | ⟨y, off', rfl, _, _, h2⟩
    · exact eqOpS_none w _ bo cap cap'
    · exact eqOpS_some w ps lo hi lo' hi' x off y off' cap cap' hl h1 h2

end Go.Proofs.Ytplfehjaakkldaa
