/- The law's helpers over slices of numbers: toInt64S, eqInt64S, markInt64S. -/
import Derived.Test.YtplfehjaakkldaaRows
import Derived.Test.YtplfehjaakkldaaIntsP
namespace Go.Proofs.Ytplfehjaakkldaa
open Go.RowKit

set_option maxRecDepth 20000 in
set_option maxHeartbeats 400000 in
theorem eqInt64S_some (w : World) (xs : List Int) (b off b' off' cap cap' : Nat) (hl : xs.length ≤ 9223372036854775807)
    (h1 : ∀ i, i < xs.length → w.cell? ⟨b, off + i, none⟩ = some (.int .i64 (xs.getD i 0)))
    (h2 : ∀ i, i < xs.length → w.cell? ⟨b', off' + i, none⟩ = some (.int .i64 (xs.getD i 0))) :
    Calls Try.prog 27 #[.slice (some ⟨b, off, none⟩) xs.length cap, .slice (some ⟨b', off', none⟩) xs.length cap'] w fun e w' => e = .returned (.bool true) ∧ Same w w' := by
  have hne : ((xs.length : Int) != (xs.length : Int)) = false := by simp
  go_enter Try.func27, Try.ntmps27
  go_wp2
  go_loopw [5] (fun i wr => Same w wr ∧ ∃ k : Nat, k ≤ xs.length ∧ i = .int .i64 k) (fun i _ => xs.length - (intOf i).toNat)
  case atStart => exact ⟨Same.refl _, 0, Nat.zero_le _, rfl⟩
  case round =>
    obtain ⟨hal, k, hk, rfl⟩ := hrel
    have e1 : ∀ a, wr.cell? a = w.cell? a := fun a => hal.cell a
    by_cases hlt : k < xs.length
    · have c1 : wr.cell? ⟨b, off + k, none⟩ = some (.int .i64 (xs.getD k 0)) := (e1 _).trans (h1 k hlt)
      have c2 : wr.cell? ⟨b', off' + k, none⟩ = some (.int .i64 (xs.getD k 0)) := (e1 _).trans (h2 k hlt)
      clear e1
      have hi : (k : Int) < (xs.length : Int) := by omega
      go_wp2
      go_quiet (fail)
      go_wp2
      go_roundw
      case rel => exact ⟨hal.drewN _, k + 1, by omega, by go_num⟩
      case measure => simp [intOf]; omega
    · clear e1
      go_wp2
      go_ret
      exact ⟨rfl, hal⟩

set_option maxRecDepth 20000 in
set_option maxHeartbeats 400000 in
theorem eqInt64S_none (w : World) (ao bo : Option Addr) (cap cap' : Nat) :
    Calls Try.prog 27 #[.slice ao 0 cap, .slice bo 0 cap'] w fun e w' => e = .returned (.bool true) ∧ Same w w' := by
  go_enter Try.func27, Try.ntmps27
  go_wp2
  refine wp_loop_rounds 1 ?_; rw [rounds_succ]
  go_wp2
  go_ret
  exact ⟨rfl, Same.refl _⟩

theorem eqInt64S_calls (w : World) {lo hi lo' hi' : Nat} {a b : Value} {xs : List Int} (h1 : View w lo hi .i64 a xs) (h2 : View w lo' hi' .i64 b xs) :
    Calls Try.prog 27 #[a, b] w fun e w' => e = .returned (.bool true) ∧ Same w w' := by
  obtain ⟨ao, cap, rfl, hl, _, h1⟩ := h1
  obtain ⟨bo, cap', rfl, _, _, h2⟩ := h2
  rcases h1 with rfl | ⟨x, off, rfl, _, _, h1⟩
  · exact eqInt64S_none w ao bo cap cap'
  · rcases h2 with rfl | ⟨y, off', rfl, _, _, h2⟩
    · exact eqInt64S_none w _ bo cap cap'
    · exact eqInt64S_some w xs x off y off' cap cap' hl h1 h2

theorem take_set_dropI (xs : List Int) (k : Nat) (h : k < xs.length) :
    ((xs.take k ++ List.replicate (xs.length - k) 0).map (Value.int .i64)).set k (.int .i64 (xs.getD k 0)) = (xs.take (k + 1) ++ List.replicate (xs.length - (k + 1)) 0).map (Value.int .i64) := by
  have e : xs.length - k = (xs.length - (k + 1)) + 1 := by omega
  rw [e, List.replicate_succ, List.map_append, List.map_cons, List.set_append]
  simp only [List.length_map, List.length_take, Nat.min_eq_left (Nat.le_of_lt h), Nat.lt_irrefl, if_false, Nat.sub_self, List.set_cons_zero]
  rw [List.take_succ_eq_append_getElem h, List.map_append, List.map_append]
  simp [List.getD_eq_getElem?_getD, h]

set_option maxRecDepth 20000 in
set_option maxHeartbeats 400000 in
theorem toInt64S_some (w : World) (xs : List Int) (b off cap : Nat) (hl : xs.length ≤ 1048576)
    (h1 : ∀ i, i < xs.length → w.cell? ⟨b, off + i, none⟩ = some (.int .i64 (xs.getD i 0))) :
    Calls Try.prog 25 #[.slice (some ⟨b, off, none⟩) xs.length cap] w fun e w' => e = .returned (.slice (some ⟨w.heap.size, 0, none⟩) xs.length xs.length) ∧
      OwnI w' w.heap.size 2 (.slice (some ⟨w.heap.size, 0, none⟩) xs.length xs.length) xs ∧ Chg 0 0 w w' := by
  obtain ⟨i, hi, hz0, hz1, hz2⟩ := info_parts Try.infoI
  go_enter Try.func25, Try.ntmps25
  go_wp2_with (at_make; refine wpList_make_full _ rfl _ _ 41 rfl w.heap.size 2 i (.int .i64 0) 1 Try.underlying41 hi hz0 hz1 _ _ _ _ xs.length rfl rfl rfl rfl (by rw [hz2]; omega) (by unfold maxLen; omega) (by simp) ?_)
  intro w1 hown hgrow
  have hch : Chg 0 0 w w1 := Chg.ofGrown hgrow (by simp)
  have hO : OwnI w1 w.heap.size 2 (.slice (some ⟨w.heap.size, 0, none⟩) xs.length xs.length) (xs.take 0 ++ List.replicate (xs.length - 0) 0) := by
    unfold OwnI
    simpa [toList_madeCells_one] using hown
  have hlt0 : w.heap.size < w1.heap.size := by
    have := World.ownsRow.lt hown w.heap.size rfl; omega
  clear hown hgrow
  go_wp2
  go_loopw [4] (fun i wr => ∃ k : Nat, k ≤ xs.length ∧ i = .int .i64 k ∧ OwnI wr w.heap.size 2 (.slice (some ⟨w.heap.size, 0, none⟩) xs.length xs.length) (xs.take k ++ List.replicate (xs.length - k) 0) ∧ Chg 0 0 w wr) (fun i _ => xs.length - (intOf i).toNat)
  case atStart => exact ⟨0, Nat.zero_le _, rfl, hO, hch⟩
  case round =>
    obtain ⟨k, hk, rfl, hown, hc⟩ := hrel
    clear hO hch
    have hlen : (xs.take k ++ List.replicate (xs.length - k) 0).length = xs.length := by simp; omega
    have hown' : wr.ownsRow w.heap.size 2 1 (.slice (some ⟨w.heap.size, 0, none⟩) xs.length xs.length) xs.length ((xs.take k ++ List.replicate (xs.length - k) 0).map (Value.int .i64)) := by
      have := hown; unfold OwnI at this; rw [hlen] at this; exact this
    by_cases hlt : k < xs.length
    · have c1 : ∃ u, wr.cell? ⟨w.heap.size, k, none⟩ = some u := by
        have := World.ownsRow.cellAt hown' k (by omega)
        rw [this]
        exact ⟨_, List.getElem?_eq_getElem (by rw [List.length_map, hlen]; exact hlt)⟩
      obtain ⟨u, c1⟩ := c1
      have f1 : wr.frozen? ⟨w.heap.size, k, none⟩ = false := World.ownsRow.frozenAt hown' k
      have c2 := hc.cell (h1 k hlt) (by omega)
      have hst := (World.ownsRow.stored hown' k (.int .i64 (xs.getD k 0))).1
      rw [take_set_dropI _ _ hlt] at hst
      have hlen2 : (xs.take (k + 1) ++ List.replicate (xs.length - (k + 1)) 0).length = xs.length := by simp; omega
      have hik : (k : Int) < (xs.length : Int) := by omega
      have R2 : Chg 0 0 w (wr.setCell ⟨w.heap.size, k, none⟩ (.int .i64 (xs.getD k 0))) := hc.setCell (Or.inr (Nat.le_refl _)) _
      have HR : Hid (OwnI (wr.setCell ⟨w.heap.size, k, none⟩ (.int .i64 (xs.getD k 0))) w.heap.size 2 (.slice (some ⟨w.heap.size, 0, none⟩) xs.length xs.length) (xs.take (k + 1) ++ List.replicate (xs.length - (k + 1)) 0)) := by
        show OwnI _ _ _ _ _
        unfold OwnI; rw [hlen2]; exact hst
      have HR2 : Hid (Chg 0 0 w (wr.setCell ⟨w.heap.size, k, none⟩ (.int .i64 (xs.getD k 0)))) := R2
      generalize xs.getD k 0 = x at *
      clear hst hown hown' hlen hlen2 R2 hc h1
      go_wp2
      go_roundw
      case rel => exact ⟨k + 1, by omega, by go_num, HR.out, HR2.out⟩
      case measure => simp [intOf]; omega
    · obtain rfl : k = xs.length := by omega
      have HR : Hid (OwnI wr w.heap.size 2 (.slice (some ⟨w.heap.size, 0, none⟩) xs.length xs.length) xs) := by
        show OwnI _ _ _ _ _
        have := hown; rw [List.take_length, Nat.sub_self, List.replicate_zero, List.append_nil] at this; exact this
      clear hown hown' hlen h1
      go_wp2
      go_ret
      exact ⟨rfl, HR.out, hc⟩

set_option maxRecDepth 20000 in
set_option maxHeartbeats 400000 in
theorem toInt64S_none (w : World) (ao : Option Addr) (cap : Nat) :
    Calls Try.prog 25 #[.slice ao 0 cap] w fun e w' => e = .returned (.slice (some ⟨w.heap.size, 0, none⟩) 0 0) ∧
      OwnI w' w.heap.size 2 (.slice (some ⟨w.heap.size, 0, none⟩) 0 0) [] ∧ Chg 0 0 w w' := by
  obtain ⟨i, hi, hz0, hz1, hz2⟩ := info_parts Try.infoI
  go_enter Try.func25, Try.ntmps25
  go_wp2_with (at_make; refine wpList_make_full _ rfl _ _ 41 rfl w.heap.size 2 i (.int .i64 0) 1 Try.underlying41 hi hz0 hz1 _ _ _ _ 0 rfl rfl rfl rfl (by omega) (by unfold maxLen; omega) (by simp) ?_)
  intro w1 hown hgrow
  have hch : Chg 0 0 w w1 := Chg.ofGrown hgrow (by simp)
  have hO : OwnI w1 w.heap.size 2 (.slice (some ⟨w.heap.size, 0, none⟩) 0 0) [] := by
    unfold OwnI
    simpa [toList_madeCells_one] using hown
  clear hown hgrow
  go_wp2
  refine wp_loop_rounds 1 ?_; rw [rounds_succ]
  go_wp2
  go_ret
  exact ⟨rfl, hO, hch⟩

/-- A copy of one's own. -/
theorem toInt64S_calls (w : World) {lo hi : Nat} {a : Value} {xs : List Int} (hl : xs.length ≤ 1048576) (h1 : View w lo hi .i64 a xs) :
    Calls Try.prog 25 #[a] w fun e w' => ∃ g, e = .returned (.slice (some ⟨g, 0, none⟩) xs.length xs.length) ∧
      OwnI w' w.heap.size 2 (.slice (some ⟨g, 0, none⟩) xs.length xs.length) xs ∧ Chg 0 0 w w' := by
  obtain ⟨ao, cap, rfl, _, _, h1⟩ := h1
  rcases h1 with rfl | ⟨x, off, rfl, _, _, h1⟩
  · exact (toInt64S_none w ao cap).mono fun e w' h => ⟨_, h⟩
  · exact (toInt64S_some w xs x off cap (by omega) h1).mono fun e w' h => ⟨_, h⟩

/-- The marks k, k + 1, .. -/
def marksI (k n : Nat) : List Int := (List.range n).map fun i => ((k + i : Nat) : Int)
theorem marksI_length (k n : Nat) : (marksI k n).length = n := by simp [marksI]
theorem marksI_succ (k0 k : Nat) : marksI k0 (k + 1) = marksI k0 k ++ [((k0 + k : Nat) : Int)] := by
  simp [marksI, List.range_succ]
theorem marksI_set (k0 k : Nat) (xs : List Int) (h : k < xs.length) :
    ((marksI k0 k ++ xs.drop k).map (Value.int .i64)).set k (.int .i64 ((k0 + k : Nat) : Int)) = (marksI k0 (k + 1) ++ xs.drop (k + 1)).map (Value.int .i64) := by
  have hd : xs.drop k = xs[k] :: xs.drop (k + 1) := by simp
  rw [hd, marksI_succ, List.map_append, List.map_cons, List.set_append]
  simp [marksI_length]

set_option maxRecDepth 20000 in
set_option maxHeartbeats 400000 in
theorem markInt64S_some (w : World) (base : Nat) (e : TypeId) (xs : List Int) (k0 g cap : Nat) (hl : xs.length ≤ 140737488355328) (hk0 : k0 ≤ 140737488355328)
    (h1 : OwnI w base e (.slice (some ⟨g, 0, none⟩) xs.length cap) xs) :
    Calls Try.prog 28 #[.slice (some ⟨g, 0, none⟩) xs.length cap, .int .i64 k0] w fun r w' => r = .returned (.int .i64 ((k0 + xs.length : Nat) : Int)) ∧
      OwnI w' base e (.slice (some ⟨g, 0, none⟩) xs.length cap) (marksI k0 xs.length) ∧ Chg g (g + 1) w w' := by
  go_enter Try.func28, Try.ntmps28
  go_wp2
  go_loopw [1, 5] (fun q i wr => ∃ k : Nat, k ≤ xs.length ∧ i = .int .i64 k ∧ q = .int .i64 ((k0 + k : Nat) : Int) ∧ OwnI wr base e (.slice (some ⟨g, 0, none⟩) xs.length cap) (marksI k0 k ++ xs.drop k) ∧ Chg g (g + 1) w wr) (fun _ i _ => xs.length - (intOf i).toNat)
  case atStart => exact ⟨0, Nat.zero_le _, rfl, rfl, by simpa [marksI] using h1, Chg.refl _ _ _⟩
  case round =>
    obtain ⟨k, hk, rfl, rfl, hown, hch⟩ := hrel
    clear h1
    have hlen : (marksI k0 k ++ xs.drop k).length = xs.length := by simp [marksI_length]; omega
    have hown' : wr.ownsRow base e 1 (.slice (some ⟨g, 0, none⟩) xs.length cap) xs.length ((marksI k0 k ++ xs.drop k).map (Value.int .i64)) := by
      have := hown; unfold OwnI at this; rw [hlen] at this; exact this
    by_cases hlt : k < xs.length
    · have c1 : ∃ u, wr.cell? ⟨g, k, none⟩ = some u := by
        have := World.ownsRow.cellAt hown' k (by omega)
        rw [this]
        exact ⟨_, List.getElem?_eq_getElem (by rw [List.length_map, hlen]; exact hlt)⟩
      obtain ⟨u, c1⟩ := c1
      have f1 : wr.frozen? ⟨g, k, none⟩ = false := World.ownsRow.frozenAt hown' k
      have hst := World.ownsRow.stored hown' k (.int .i64 ((k0 + k : Nat) : Int))
      rw [marksI_set _ _ _ hlt] at hst
      have hlen2 : (marksI k0 (k + 1) ++ xs.drop (k + 1)).length = xs.length := by simp [marksI_length]; omega
      have hi : (k : Int) < (xs.length : Int) := by omega
      have R : OwnI (wr.setCell ⟨g, k, none⟩ (.int .i64 ((k0 + k : Nat) : Int))) base e (.slice (some ⟨g, 0, none⟩) xs.length cap) (marksI k0 (k + 1) ++ xs.drop (k + 1)) := by
        unfold OwnI; rw [hlen2]; exact hst.1
      have R2 : Chg g (g + 1) w (wr.setCell ⟨g, k, none⟩ (.int .i64 ((k0 + k : Nat) : Int))) := hch.setCell (Or.inl ⟨Nat.le_refl _, Nat.lt_succ_self _⟩) _
      have HR : Hid (OwnI (wr.setCell ⟨g, k, none⟩ (.int .i64 ((k0 + k : Nat) : Int))) base e (.slice (some ⟨g, 0, none⟩) xs.length cap) (marksI k0 (k + 1) ++ xs.drop (k + 1))) := R
      clear hst hown hown' hlen hlen2 R hch
      go_wp2
      go_roundw
      case rel => exact ⟨k + 1, by omega, by go_num, by go_num, HR.out, R2⟩
      case measure => simp [intOf]; omega
    · obtain rfl : k = xs.length := by omega
      have HR : Hid (OwnI wr base e (.slice (some ⟨g, 0, none⟩) xs.length cap) (marksI k0 xs.length)) := by
        have := hown; rw [List.drop_length, List.append_nil] at this; exact this
      clear hown hown' hlen
      go_wp2
      go_ret
      exact ⟨ret_int (by omega), HR.out, hch⟩

set_option maxRecDepth 20000 in
set_option maxHeartbeats 400000 in
theorem markInt64S_none (w : World) (ao : Option Addr) (k0 cap : Nat) :
    Calls Try.prog 28 #[.slice ao 0 cap, .int .i64 k0] w fun r w' => r = .returned (.int .i64 (k0 : Int)) ∧ w' = w := by
  go_enter Try.func28, Try.ntmps28
  go_wp2
  refine wp_loop_rounds 1 ?_; rw [rounds_succ]
  go_wp2
  go_ret
  exact ⟨rfl, rfl⟩

/-- Behind markInt64S the slice's own row bears the marks; nothing else has turned. -/
theorem markInt64S_calls (w : World) (base : Nat) (e : TypeId) (v : Value) (xs : List Int) (k0 lo hi : Nat) (hl : xs.length ≤ 140737488355328) (hk0 : k0 ≤ 140737488355328)
    (h1 : OwnI w base e v xs) (hb : ∀ g, v.ownBlock = some g → lo ≤ g ∧ g < hi) :
    Calls Try.prog 28 #[v, .int .i64 k0] w fun r w' => r = .returned (.int .i64 ((k0 + xs.length : Nat) : Int)) ∧ OwnI w' base e v (marksI k0 xs.length) ∧ Chg lo hi w w' ∧ (∀ g, v.ownBlock = some g → Chg g (g + 1) w w') ∧ (v.ownBlock = none → w' = w) := by
  have h0 := h1
  obtain ⟨_, h2⟩ := h1
  rcases h2 with ⟨rfl, hn⟩ | ⟨g, cap, cur, rfl, _⟩
  · obtain rfl : xs = [] := List.eq_nil_of_length_eq_zero hn
    refine (markInt64S_none w none k0 0).mono ?_
    rintro r w' ⟨rfl, rfl⟩
    exact ⟨rfl, h0, Chg.refl _ _ _, fun _ _ => Chg.refl _ _ _, fun _ => rfl⟩
  · refine (markInt64S_some w base e xs k0 g cap hl hk0 h0).mono ?_
    rintro r w' ⟨rfl, ho, hc⟩
    have := hb g rfl
    exact ⟨rfl, ho, hc.widen (Or.inl this.1) (Or.inl (by omega)), fun g' hg' => by cases hg'; exact hc, fun h => by cases h⟩

end Go.Proofs.Ytplfehjaakkldaa
