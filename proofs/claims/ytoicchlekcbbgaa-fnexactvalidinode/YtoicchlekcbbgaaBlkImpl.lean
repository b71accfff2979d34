/- isBlock, areBlocks of the program. -/
import Derived.Test.YtoicchlekcbbgaaIsWithin
namespace Go.Proofs.Ytoicchlekcbbgaa
open Go.RowKit

/-- A number that a block of some disk has. -/
def blkB (x : Int) : Bool := decide (0 ≤ x) && decide (x ≤ 2047)
theorem blkB_iff {x : Int} : blkB x = true ↔ 0 ≤ x ∧ x < 2048 := by unfold blkB; simp; omega

set_option maxHeartbeats 400000 in
theorem isBlock_calls (w : World) (x : Int) : Calls Try.prog 16 #[.int .i64 x] w fun e w' => e = .returned (.bool (blkB x)) ∧ w' = w := by
  have hN := isWithin_calls w x 0 2047
  go_enter Try.func16, Try.ntmps16
  go_wp2_with (go_at_call 17; refine hN.mono ?_; rintro e w' ⟨rfl, rfl⟩)
  go_ret
  exact ⟨rfl, rfl⟩

set_option maxRecDepth 20000 in
set_option maxHeartbeats 1000000 in
theorem areBlocks_calls (w : World) (xs : List Int) (b off cap : Nat) (hl : xs.length ≤ 1048576)
    (h1 : ∀ i, i < xs.length → w.cell? ⟨b, off + i, none⟩ = some (.int .i64 (xs.getD i 0))) :
    Calls Try.prog 15 #[.slice (some ⟨b, off, none⟩) xs.length cap] w fun e w' => e = .returned (.bool (xs.all blkB)) ∧ w' = w := by
  go_enter Try.func15, Try.ntmps15
  go_wp2
  go_loopw [7] (fun x wr => wr = w ∧ ∃ k : Nat, k ≤ xs.length ∧ x = .int .i64 k ∧ (xs.take k).all blkB = true) (fun x _ => xs.length - (intOf x).toNat)
  case atStart => exact ⟨rfl, 0, Nat.zero_le _, rfl, rfl⟩
  case round =>
    obtain ⟨rfl, k, hk, rfl, hin⟩ := hrel
    by_cases hlt : k < xs.length
    · have c1 := h1 k hlt
      have hx : xs.getD k 0 = xs[k] := by simp [List.getD_eq_getElem?_getD, hlt]
      have hi : (k : Int) < (xs.length : Int) := by omega
      have hN := isBlock_calls wr (xs.getD k 0)
      have hs : (xs.take (k + 1)).all blkB = blkB (xs.getD k 0) := by
        rw [List.take_succ_eq_append_getElem hlt, List.all_append, hin, hx]; simp
      have HS : Hid ((xs.take (k + 1)).all blkB = blkB (xs.getD k 0)) := hs
      have HF : Hid (blkB (xs.getD k 0) = false → xs.all blkB = false) := fun h => by
        rw [List.all_eq_false]
        exact ⟨xs[k], List.getElem_mem hlt, by rw [← hx, h]; simp⟩
      clear hs hx hin h1
      generalize xs.getD k 0 = x at *
      cases hb : blkB x with
      | true =>
        rw [hb] at hN HS
        clear HF
        go_wp2_with (go_at_call 16; refine hN.mono ?_; rintro e w' ⟨rfl, rfl⟩)
        go_roundw
        case rel => exact ⟨trivial, k + 1, by omega, by go_num, HS.out⟩
        case measure => simp [intOf]; omega
      | false =>
        rw [hb] at hN
        have HF2 : Hid (xs.all blkB = false) := HF.out hb
        clear HF HS
        go_wp2_with (go_at_call 16; refine hN.mono ?_; rintro e w' ⟨rfl, rfl⟩)
        go_ret
        exact ⟨by rw [HF2.out]; rfl, rfl⟩
    · obtain rfl : k = xs.length := by omega
      rw [List.take_length] at hin
      have HF2 : Hid (xs.all blkB = true) := hin
      clear hin h1
      go_wp2
      go_ret
      exact ⟨by rw [HF2.out]; rfl, rfl⟩

end Go.Proofs.Ytoicchlekcbbgaa
