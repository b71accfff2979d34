/- The law's helper that copies bytes that came in: toByteS. -/
import Derived.Test.YtnpdninkiadodaaRows
import Derived.Test.YtnpdninkiadodaaMem
namespace Go.Proofs.Ytnpdninkiadodaa
open Go.RowKit

theorem Try.infoB : (Try.prog.info? 5).map (fun i => (i.zero, i.size, i.bytes)) = some (some (.int .u8 0), 1, 1) := by kernel_rfl

theorem take_set_drop (xs : List Int) (k : Nat) (h : k < xs.length) :
    ((xs.take k ++ List.replicate (xs.length - k) 0).map (Value.int .u8)).set k (.int .u8 (xs.getD k 0)) = (xs.take (k + 1) ++ List.replicate (xs.length - (k + 1)) 0).map (Value.int .u8) := by
  have e : xs.length - k = (xs.length - (k + 1)) + 1 := by omega
  rw [e, List.replicate_succ, List.map_append, List.map_cons, List.set_append]
  simp only [List.length_map, List.length_take, Nat.min_eq_left (Nat.le_of_lt h), Nat.lt_irrefl, if_false, Nat.sub_self, List.set_cons_zero]
  rw [List.take_succ_eq_append_getElem h, List.map_append, List.map_append]
  simp [List.getD_eq_getElem?_getD, h]

set_option maxHeartbeats 400000 in
theorem toByteS_some (w : World) (xs : List Int) (b off cap : Nat) (hl : xs.length ≤ 140737488355328)
    (h1 : ∀ i, i < xs.length → w.cell? ⟨b, off + i, none⟩ = some (.int .u8 (xs.getD i 0))) :
    Calls Try.prog 5 #[.slice (some ⟨b, off, none⟩) xs.length cap] w fun e w' => e = .returned (.slice (some ⟨w.heap.size, 0, none⟩) xs.length xs.length) ∧
      OwnB w' w.heap.size 5 (.slice (some ⟨w.heap.size, 0, none⟩) xs.length xs.length) xs ∧ Chg 0 0 w w' := by
  obtain ⟨i, hi, hz0, hz1, hz2⟩ := info_parts Try.infoB
  go_enter Try.func5, Try.ntmps5
  go_wp2_with (at_make; refine wpList_make_full _ rfl _ _ 22 rfl w.heap.size 5 i (.int .u8 0) 1 Try.underlying22 hi hz0 hz1 _ _ _ _ xs.length rfl rfl rfl rfl (by rw [hz2]; omega) (by unfold maxLen; omega) (by simp) ?_)
  intro w1 hown hgrow
  have hch : Chg 0 0 w w1 := Chg.ofGrown hgrow (by simp)
  have hO : OwnB w1 w.heap.size 5 (.slice (some ⟨w.heap.size, 0, none⟩) xs.length xs.length) (xs.take 0 ++ List.replicate (xs.length - 0) 0) := by
    unfold OwnB
    simpa [toList_madeCells_one] using hown
  have hlt0 : w.heap.size < w1.heap.size := by
    have := World.ownsRow.lt hown w.heap.size rfl; omega
  clear hown hgrow
  go_wp2
  go_loopw [4] (fun i wr => ∃ k : Nat, k ≤ xs.length ∧ i = .int .i64 k ∧ OwnB wr w.heap.size 5 (.slice (some ⟨w.heap.size, 0, none⟩) xs.length xs.length) (xs.take k ++ List.replicate (xs.length - k) 0) ∧ Chg 0 0 w wr) (fun i _ => xs.length - (intOf i).toNat)
  case atStart => exact ⟨0, Nat.zero_le _, rfl, hO, hch⟩
  case round =>
    obtain ⟨k, hk, rfl, hown, hc⟩ := hrel
    clear hO hch
    have hlen : (xs.take k ++ List.replicate (xs.length - k) 0).length = xs.length := by simp; omega
    have hown' : wr.ownsRow w.heap.size 5 1 (.slice (some ⟨w.heap.size, 0, none⟩) xs.length xs.length) xs.length ((xs.take k ++ List.replicate (xs.length - k) 0).map (Value.int .u8)) := by
      have := hown; unfold OwnB at this; rw [hlen] at this; exact this
    by_cases hlt : k < xs.length
    · have c1 : ∃ u, wr.cell? ⟨w.heap.size, k, none⟩ = some u := by
        have := World.ownsRow.cellAt hown' k (by omega)
        rw [this]
        exact ⟨_, List.getElem?_eq_getElem (by rw [List.length_map, hlen]; exact hlt)⟩
      obtain ⟨u, c1⟩ := c1
      have f1 : wr.frozen? ⟨w.heap.size, k, none⟩ = false := World.ownsRow.frozenAt hown' k
      have c2 := hc.cell (h1 k hlt) (by omega)
      have hst := (World.ownsRow.stored hown' k (.int .u8 (xs.getD k 0))).1
      rw [take_set_drop _ _ hlt] at hst
      have hlen2 : (xs.take (k + 1) ++ List.replicate (xs.length - (k + 1)) 0).length = xs.length := by simp; omega
      have hik : (k : Int) < (xs.length : Int) := by omega
      have R2 : Chg 0 0 w (wr.setCell ⟨w.heap.size, k, none⟩ (.int .u8 (xs.getD k 0))) := hc.setCell (Or.inr (Nat.le_refl _)) _
      have HR : Hid (OwnB (wr.setCell ⟨w.heap.size, k, none⟩ (.int .u8 (xs.getD k 0))) w.heap.size 5 (.slice (some ⟨w.heap.size, 0, none⟩) xs.length xs.length) (xs.take (k + 1) ++ List.replicate (xs.length - (k + 1)) 0)) := by
        show OwnB _ _ _ _ _
        unfold OwnB; rw [hlen2]; exact hst
      have HR2 : Hid (Chg 0 0 w (wr.setCell ⟨w.heap.size, k, none⟩ (.int .u8 (xs.getD k 0)))) := R2
      generalize xs.getD k 0 = x at *
      clear hst hown hown' hlen hlen2 R2 hc h1
      go_wp2
      go_roundw
      case rel => exact ⟨k + 1, by omega, by go_num, HR.out, HR2.out⟩
      case measure => simp [intOf]; omega
    · obtain rfl : k = xs.length := by omega
      have HR : Hid (OwnB wr w.heap.size 5 (.slice (some ⟨w.heap.size, 0, none⟩) xs.length xs.length) xs) := by
        show OwnB _ _ _ _ _
        have := hown; rw [List.take_length, Nat.sub_self, List.replicate_zero, List.append_nil] at this; exact this
      clear hown hown' hlen h1
      go_wp2
      go_ret
      exact ⟨rfl, HR.out, hc⟩

set_option maxHeartbeats 400000 in
theorem toByteS_none (w : World) (ao : Option Addr) (cap : Nat) :
    Calls Try.prog 5 #[.slice ao 0 cap] w fun e w' => e = .returned (.slice (some ⟨w.heap.size, 0, none⟩) 0 0) ∧
      OwnB w' w.heap.size 5 (.slice (some ⟨w.heap.size, 0, none⟩) 0 0) [] ∧ Chg 0 0 w w' := by
  obtain ⟨i, hi, hz0, hz1, hz2⟩ := info_parts Try.infoB
  go_enter Try.func5, Try.ntmps5
  go_wp2_with (at_make; refine wpList_make_full _ rfl _ _ 22 rfl w.heap.size 5 i (.int .u8 0) 1 Try.underlying22 hi hz0 hz1 _ _ _ _ 0 rfl rfl rfl rfl (by omega) (by unfold maxLen; omega) (by simp) ?_)
  intro w1 hown hgrow
  have hch : Chg 0 0 w w1 := Chg.ofGrown hgrow (by simp)
  have hO : OwnB w1 w.heap.size 5 (.slice (some ⟨w.heap.size, 0, none⟩) 0 0) [] := by
    unfold OwnB
    simpa [toList_madeCells_one] using hown
  clear hown hgrow
  go_wp2
  refine wp_loop_rounds 1 ?_; rw [rounds_succ]
  go_wp2
  go_ret
  exact ⟨rfl, hO, hch⟩

/-- A copy of one's own. -/
theorem toByteS_calls (w : World) {lo hi : Nat} {a : Value} {xs : List Int} (hl : xs.length ≤ 1048576) (h1 : View w lo hi .u8 a xs) :
    Calls Try.prog 5 #[a] w fun e w' => ∃ g, e = .returned (.slice (some ⟨g, 0, none⟩) xs.length xs.length) ∧
      OwnB w' w.heap.size 5 (.slice (some ⟨g, 0, none⟩) xs.length xs.length) xs ∧ Chg 0 0 w w' := by
  obtain ⟨ao, cap, rfl, _, _, h1⟩ := h1
  rcases h1 with rfl | ⟨x, off, rfl, _, _, h1⟩
  · exact (toByteS_none w ao cap).mono fun e w' h => ⟨_, h⟩
  · exact (toByteS_some w xs x off cap (by omega) h1).mono fun e w' h => ⟨_, h⟩

end Go.Proofs.Ytnpdninkiadodaa
