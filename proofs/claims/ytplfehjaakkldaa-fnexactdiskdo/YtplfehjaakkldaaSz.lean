/- The law's helpers that count what came in: szByteS, szWrite, szWriteS, szDisk. -/
import Derived.Test.YtplfehjaakkldaaRows
import Derived.Test.YtplfehjaakkldaaMem
namespace Go.Proofs.Ytplfehjaakkldaa
open Go.RowKit

/-- What is left of a count of at most left where n are taken: -1 if there are not so many. -/
def lft (left n : Nat) : Int := if n ≤ left then ((left - n : Nat) : Int) else -1

theorem lft_pos {left n : Nat} (h : n ≤ left) : lft left n = ((left - n : Nat) : Int) := by unfold lft; rw [if_pos h]
theorem lft_neg {left n : Nat} (h : ¬ n ≤ left) : lft left n = -1 := by unfold lft; rw [if_neg h]

set_option maxRecDepth 20000 in
set_option maxHeartbeats 400000 in
theorem szByteS_calls (w : World) (ao : Option Addr) (n cap left : Nat) (hl : n ≤ 9223372036854775807) (hb : left ≤ 1048576) :
    Calls Try.prog 43 #[.slice ao n cap, .int .i64 left] w fun e w' => e = .returned (.int .i64 (lft left n)) ∧ w' = w := by
  by_cases h : n ≤ left
  · rw [lft_pos h]
    go_enter Try.func43, Try.ntmps43
    go_wp2
    go_ret
    exact ⟨ret_int (by omega), rfl⟩
  · rw [lft_neg h]
    have h' : (left : Int) - n < 0 := by omega
    go_enter Try.func43, Try.ntmps43
    go_wp2
    go_ret
    exact ⟨rfl, rfl⟩

set_option maxRecDepth 20000 in
set_option maxHeartbeats 400000 in
theorem szWrite_calls (w : World) (q : Int) (ao : Option Addr) (n cap left : Nat) (hl : n ≤ 9223372036854775807) (hb : left ≤ 1048576) :
    Calls Try.prog 74 #[.agg #[.int .i64 q, .slice ao n cap], .int .i64 left] w fun e w' => e = .returned (.int .i64 (lft left n)) ∧ Chg 0 0 w w' := by
  by_cases h : n ≤ left
  · go_enter Try.func74, Try.ntmps74
    go_wp2_with fail
    refine (szByteS_calls _ ao n cap left hl hb).mono ?_
    rintro e w1 ⟨rfl, rfl⟩
    rw [lft_pos h]
    go_wp2
    go_ret
    exact ⟨by rw [lft_pos h]; rfl, Chg.alloc (Chg.refl 0 0 w) _⟩
  · go_enter Try.func74, Try.ntmps74
    go_wp2_with fail
    refine (szByteS_calls _ ao n cap left hl hb).mono ?_
    rintro e w1 ⟨rfl, rfl⟩
    rw [lft_neg h]
    go_wp2
    go_ret
    exact ⟨by rw [lft_neg h]; rfl, Chg.alloc (Chg.refl 0 0 w) _⟩

theorem cnt_rest (ps : List Wr) (k : Nat) : cnt (ps.take k) + (ps.length - k) ≤ cnt ps := by
  have h1 : cnt ps = cnt (ps.take k) + cnt (ps.drop k) := by
    unfold cnt; rw [← List.sum_append_nat, ← List.map_append, List.take_append_drop]
  have h2 := cnt_ge (ps.drop k)
  rw [List.length_drop] at h2
  omega

set_option maxRecDepth 20000 in
set_option maxHeartbeats 1000000 in
theorem szWriteS_some (w : World) (ps : List Wr) (lo hi b off cap left : Nat) (hl : ps.length ≤ 9223372036854775807) (hb : left ≤ 1048576)
    (h1 : ∀ i, i < ps.length → ∃ dv, w.cell? ⟨b, off + i * 2, none⟩ = some (.int .i64 (ps.getD i (0, [])).1) ∧ w.cell? ⟨b, off + i * 2 + 1, none⟩ = some dv ∧ View w lo hi .u8 dv (ps.getD i (0, [])).2) :
    Calls Try.prog 44 #[.slice (some ⟨b, off, none⟩) ps.length cap, .int .i64 left] w fun e w' => e = .returned (.int .i64 (lft left (cnt ps))) ∧ Chg 0 0 w w' := by
  have hcg := cnt_ge ps
  by_cases h0 : ps.length ≤ left
  · go_enter Try.func44, Try.ntmps44
    go_wp2
    go_loopw [1, 5] (fun q i wr => Chg 0 0 w wr ∧ ∃ k : Nat, k ≤ ps.length ∧ i = .int .i64 k ∧ ps.length + cnt (ps.take k) - k ≤ left ∧ q = .int .i64 ((left - (ps.length + cnt (ps.take k) - k) : Nat) : Int)) (fun _ i _ => ps.length - (intOf i).toNat)
    case atStart => exact ⟨Chg.refl _ _ _, 0, Nat.zero_le _, rfl, by simp [cnt]; exact h0, by simp [cnt]; omega⟩
    case round =>
      obtain ⟨hch, k, hk, rfl, hle, rfl⟩ := hrel
      by_cases hlt : k < ps.length
      · obtain ⟨d1, c1, c2, v1⟩ := h1 k hlt
        clear h1
        have hcs := cnt_take_succ ps k hlt
        have hcl := cnt_rest ps (k + 1)
        have hcg2 := cnt_ge (ps.take k)
        rw [List.length_take, Nat.min_eq_left hk] at hcg2
        obtain ⟨ao, cap', rfl, hl', _, _⟩ := v1
        generalize (ps.getD k (0, [])).1 = q at *
        generalize (ps.getD k (0, [])).2.length = n at *
        have c1 := hch.cell c1 (by omega)
        have c2 := hch.cell c2 (by omega)
        have hi : (k : Int) < (ps.length : Int) := by omega
        generalize cnt (ps.take k) = c at *
        have Hcs : Hid (cnt (ps.take (k + 1)) = c + (n + 1)) := hcs
        clear hcs
        generalize hL : left - (ps.length + c - k) = L at *
        have HL : Hid (left - (ps.length + c - k) = L) := hL
        have hLb : L ≤ 1048576 := by omega
        clear hL
        go_wp2_with fail
        refine (szWrite_calls _ q ao n cap' L hl' hLb).mono ?_
        rintro e w1 ⟨rfl, hs⟩
        have hch' := hch.trans hs
        clear hs hch c1 c2
        by_cases hn : n ≤ L
        · rw [lft_pos hn]
          go_wp2
          go_roundw
          case rel => exact ⟨hch', k + 1, by omega, by go_num, by have := HL.out; have := Hcs.out; omega, by have := HL.out; have := Hcs.out; congr 1; omega⟩
          case measure => simp [intOf]; omega
        · rw [lft_neg hn]
          have hfin : ¬ cnt ps ≤ left := by have := HL.out; have := Hcs.out; omega
          go_wp2
          go_ret
          exact ⟨by rw [lft_neg hfin]; rfl, hch'⟩
      · obtain rfl : k = ps.length := by omega
        clear h1
        rw [List.take_length] at *
        have hfin : cnt ps ≤ left := by omega
        go_wp2
        go_ret
        exact ⟨by rw [lft_pos hfin]; exact ret_int (by omega), hch⟩
  · have h' : (left : Int) - ps.length < 0 := by omega
    have hfin : ¬ cnt ps ≤ left := by omega
    clear h1
    go_enter Try.func44, Try.ntmps44
    go_wp2
    go_ret
    exact ⟨by rw [lft_neg hfin]; rfl, Chg.refl _ _ _⟩

set_option maxRecDepth 20000 in
set_option maxHeartbeats 400000 in
theorem szWriteS_none (w : World) (ao : Option Addr) (cap left : Nat) (hb : left ≤ 1048576) :
    Calls Try.prog 44 #[.slice ao 0 cap, .int .i64 left] w fun e w' => e = .returned (.int .i64 (left : Int)) ∧ Chg 0 0 w w' := by
  go_enter Try.func44, Try.ntmps44
  go_wp2
  refine wp_loop_rounds 1 ?_; rw [rounds_succ]
  go_wp2
  go_ret
  exact ⟨rfl, Chg.refl _ _ _⟩

theorem szWriteS_calls (w : World) {lo hi : Nat} {a : Value} (ps : List Wr) (left : Nat) (hb : left ≤ 1048576) (h1 : PView w lo hi a ps) :
    Calls Try.prog 44 #[a, .int .i64 left] w fun e w' => e = .returned (.int .i64 (lft left (cnt ps))) ∧ Chg 0 0 w w' := by
  obtain ⟨ao, cap, rfl, hl, _, h1⟩ := h1
  rcases h1 with rfl | ⟨x, off, rfl, _, _, h1⟩
  · exact szWriteS_none w ao cap left hb
  · exact szWriteS_some w ps lo hi x off cap left hl hb h1

set_option maxRecDepth 20000 in
set_option maxHeartbeats 400000 in
theorem szDisk_calls (w : World) {lo hi : Nat} {a : Value} (d : Dsk) (left : Nat) (hb : left ≤ 1048576) (h1 : DView w lo hi a d) :
    Calls Try.prog 9 #[a, .int .i64 left] w fun e w' => e = .returned (.int .i64 (lft left (cntD d))) ∧ Chg 0 0 w w' := by
  obtain ⟨dv, pv, rfl, v1, p1⟩ := h1
  have p0 := p1
  obtain ⟨ao, cap, rfl, hl, _, _⟩ := v1
  obtain ⟨po, pcap, rfl, _, _, _⟩ := p1
  by_cases hn : d.dur.length ≤ left
  · go_enter Try.func9, Try.ntmps9
    go_wp2_with fail
    refine (szByteS_calls _ ao _ cap left hl hb).mono ?_
    rintro e w1 ⟨rfl, rfl⟩
    rw [lft_pos hn]
    go_wp2_with fail
    refine (szWriteS_calls _ d.pend (left - d.dur.length) (by omega) (p0.chg (Chg.alloc (Chg.refl 0 0 w) _) (by omega))).mono ?_
    rintro e w1 ⟨rfl, hs⟩
    have hch : Chg 0 0 w w1 := (Chg.alloc (Chg.refl 0 0 w) _).trans hs
    clear hs p0
    by_cases hm : cnt d.pend ≤ left - d.dur.length
    · rw [lft_pos hm]
      have hfin : cntD d ≤ left := by unfold cntD; omega
      go_wp2
      go_ret
      exact ⟨by rw [lft_pos hfin]; exact ret_int (by unfold cntD; omega), hch⟩
    · rw [lft_neg hm]
      have hfin : ¬ cntD d ≤ left := by unfold cntD; omega
      go_wp2
      go_ret
      exact ⟨by rw [lft_neg hfin]; rfl, hch⟩
  · have hfin : ¬ cntD d ≤ left := by unfold cntD; omega
    go_enter Try.func9, Try.ntmps9
    go_wp2_with fail
    refine (szByteS_calls _ ao _ cap left hl hb).mono ?_
    rintro e w1 ⟨rfl, rfl⟩
    rw [lft_neg hn]
    go_wp2
    go_ret
    exact ⟨by rw [lft_neg hfin]; rfl, Chg.alloc (Chg.refl 0 0 w) _⟩

end Go.Proofs.Ytplfehjaakkldaa
