/- NewDisk of the model. -/
import Derived.Test.YtplfehjaakkldaaRows
import Derived.Test.YtplfehjaakkldaaMem
namespace Go.Proofs.Ytplfehjaakkldaa
open Go.RowKit

theorem Try.infoByte : (Try.prog.info? 5).map (fun i => (i.zero, i.size, i.bytes)) = some (some (.int .u8 0), 1, 1) := by kernel_rfl

def newD (n : Int) : Dsk := if n < 1 ∨ 2048 < n then Dsk.none else ⟨List.replicate (n.toNat * 64) 0, []⟩

set_option maxRecDepth 20000 in
set_option maxHeartbeats 400000 in
theorem specNewDisk_no (w : World) (n : Int) (h : n < 1 ∨ 2048 < n) :
    Calls Try.prog 81 #[.int .i64 n] w fun e w' => e = .returned (.agg #[.slice Option.none 0 0, .slice Option.none 0 0]) ∧ Chg 0 0 w w' := by
  by_cases h1 : n < 1
  · go_enter Try.func81, Try.ntmps81
    go_wp2
    exact bodyPost_ret (v := .agg #[.slice Option.none 0 0, .slice Option.none 0 0]) (by simp [results, Try.results81, go_sem]) rfl ⟨rfl, Chg.alloc (Chg.refl 0 0 w) _⟩
  · have h2 : 2048 < n := by omega
    go_enter Try.func81, Try.ntmps81
    go_wp2
    exact bodyPost_ret (v := .agg #[.slice Option.none 0 0, .slice Option.none 0 0]) (by simp [results, Try.results81, go_sem]) rfl ⟨rfl, Chg.alloc (Chg.refl 0 0 w) _⟩

set_option maxRecDepth 20000 in
set_option maxHeartbeats 400000 in
theorem specNewDisk_yes (w : World) (n : Nat) (h1 : 1 ≤ n) (h2 : n ≤ 2048) :
    Calls Try.prog 81 #[.int .i64 (n : Int)] w fun e w' => ∃ dv, e = .returned (.agg #[dv, .slice Option.none 0 0]) ∧ OwnB w' w.heap.size 5 dv (List.replicate (n * 64) 0) ∧ Chg 0 0 w w' := by
  obtain ⟨i, hi, hz0, hz1, hz2⟩ := info_parts Try.infoByte
  go_enter Try.func81, Try.ntmps81
  go_wp2_with (at_make; refine wpList_make_full _ rfl _ _ 22 rfl w.heap.size 5 i (.int .u8 0) 1 Try.underlying22 hi hz0 hz1 _ _ _ _ (n * 64) rfl rfl (by omega) (by omega) (by rw [hz2]; omega) (by unfold maxLen; omega) (by simp) ?_)
  intro w1 hown hgrow
  have hb : w1.heap[w.heap.size]? = some (.cells #[.slice Option.none 0 0, .slice Option.none 0 0] 29 (0, 0)) :=
    (hgrow.block w.heap.size (by simp) (by simp)).trans (heap_new _ _)
  obtain ⟨c0, c1, f0, f1⟩ := two_cells hb
  have hch : Chg 0 0 w w1 := (Chg.alloc (Chg.refl 0 0 w) _).trans (Chg.ofGrown hgrow (by simp))
  have hO : OwnB w1 w.heap.size 5 (.slice (some ⟨w.heap.size + 1, 0, none⟩) (n * 64) (n * 64)) (List.replicate (n * 64) 0) := by
    have := hown
    unfold OwnB
    simpa [toList_madeCells_one] using this
  clear hown hgrow hb
  go_wp2
  refine bodyPost_ret (v := .agg #[.slice (some ⟨w.heap.size + 1, 0, none⟩) (n * 64) (n * 64), .slice Option.none 0 0]) (by simp [results, Try.results81, go_sem, c0, c1]) rfl ⟨_, rfl, ?_, ?_⟩
  · refine hO.chg (Chg.set2 _ _ _ _) ?_
    intro g hg; cases hg; right; exact Nat.le_refl _
  · exact hch.step (Chg.set2 _ _ _ _) (Or.inr (Or.inl (Nat.le_refl _)))

/-- A new disk, as both answer it. -/
theorem newDisk_any (f : FuncId) (hno : ∀ (w : World) (n : Int), n < 1 ∨ 2048 < n → Calls Try.prog f #[.int .i64 n] w fun e w' => e = .returned (.agg #[.slice Option.none 0 0, .slice Option.none 0 0]) ∧ Chg 0 0 w w')
    (hyes : ∀ (w : World) (n : Nat), 1 ≤ n → n ≤ 2048 → Calls Try.prog f #[.int .i64 (n : Int)] w fun e w' => ∃ dv, e = .returned (.agg #[dv, .slice Option.none 0 0]) ∧ OwnB w' w.heap.size 5 dv (List.replicate (n * 64) 0) ∧ Chg 0 0 w w')
    (w : World) (n : Int) : Calls Try.prog f #[.int .i64 n] w fun e w' => ∃ v, e = .returned v ∧ OwnD w' w.heap.size w'.heap.size 55 5 v (newD n) ∧ Chg 0 0 w w' := by
  by_cases h : n < 1 ∨ 2048 < n
  · refine (hno w n h).mono ?_
    rintro e w' ⟨rfl, hc⟩
    refine ⟨_, rfl, ?_, hc⟩
    unfold newD; rw [if_pos h]; exact OwnD.none _ _ _ _ _
  · obtain ⟨m, rfl⟩ := Int.eq_ofNat_of_zero_le (show 0 ≤ n by omega)
    refine (hyes w m (by omega) (by omega)).mono ?_
    rintro e w' ⟨dv, rfl, ho, hc⟩
    refine ⟨_, rfl, ?_, hc⟩
    unfold newD; rw [if_neg h]
    simp only [Int.toNat_natCast]
    exact ⟨dv, _, [], _, rfl, ho, OwnPx.nil _ _ _ _, by simp, fun g hg => (ho.lt g hg).2, by simp [Value.ownBlock], by simp⟩

theorem specNewDisk_calls (w : World) (n : Int) : Calls Try.prog 81 #[.int .i64 n] w fun e w' => ∃ v, e = .returned v ∧ OwnD w' w.heap.size w'.heap.size 55 5 v (newD n) ∧ Chg 0 0 w w' :=
  newDisk_any 81 specNewDisk_no specNewDisk_yes w n

theorem newD_fits (n : Int) : (newD n).Fits := by
  unfold newD
  split
  · exact ⟨by simp [Dsk.none], by simp [Dsk.none], by simp [Dsk.none]⟩
  · exact ⟨by simp; omega, by simp, by simp⟩
theorem newD_cnt (n : Int) : cntD (newD n) ≤ 131072 := by
  unfold newD
  split
  · simp [Dsk.none, cntD, cnt]
  · simp [cntD, cnt]; omega
end Go.Proofs.Ytplfehjaakkldaa
