/- eqFreeRun, eqFreeRunS, markFreeRunS, heldFreeRunS of the laws (made by tools/mkflat.py). -/
import Derived.Test.YtgilnboiipehgaaFlat
import Derived.Deep.RegionWith
namespace Go.Proofs.Ytgilnboiipehgaa
open Go.RowKit

set_option maxRecDepth 20000 in
set_option maxHeartbeats 400000 in
theorem eqFreeRun_calls (w : World) (x0 x1 : Int) :
    Calls Try.prog 16 #[.agg #[.int .i64 x0, .int .i64 x1], .agg #[.int .i64 x0, .int .i64 x1]] w fun e w' => e = .returned (.bool true) ∧ Chg 0 0 w w' := by
  have n0 : (x0 != x0) = false := by simp
  have n1 : (x1 != x1) = false := by simp
  have HC : Hid (Chg 0 0 w ((w.alloc (.cells #[.int .i64 x0, .int .i64 x1] 35)).alloc (.cells #[.int .i64 x0, .int .i64 x1] 35))) := (Chg.alloc (Chg.refl 0 0 w) _).alloc _
  go_enter Try.func16, Try.ntmps16
  go_wp2
  go_ret
  exact ⟨rfl, HC.out⟩

set_option maxRecDepth 20000 in
set_option maxHeartbeats 1000000 in
theorem eqFreeRunS_some (w : World) (fs : List Int) (K : Nat) (b off b' off' cap cap' : Nat) (hl : K ≤ 9223372036854775807)
    (h1 : ∀ j, j < K * 2 → w.cell? ⟨b, off + j, none⟩ = some (.int .i64 (fs.getD j 0))) (h2 : ∀ j, j < K * 2 → w.cell? ⟨b', off' + j, none⟩ = some (.int .i64 (fs.getD j 0))) :
    Calls Try.prog 7 #[.slice (some ⟨b, off, none⟩) K cap, .slice (some ⟨b', off', none⟩) K cap'] w fun e w' => e = .returned (.bool true) ∧ Chg 0 0 w w' := by
  have hne : ((K : Int) != (K : Int)) = false := by simp
  go_enter Try.func7, Try.ntmps7
  go_wp2
  go_loopw [5] (fun i wr => Chg 0 0 w wr ∧ ∃ k : Nat, k ≤ K ∧ i = .int .i64 k) (fun i _ => K - (intOf i).toNat)
  case atStart => exact ⟨Chg.refl _ _ _, 0, Nat.zero_le _, rfl⟩
  case round =>
    obtain ⟨hch, k, hk, rfl⟩ := hrel
    by_cases hlt : k < K
    · have c00 : wr.cell? ⟨b, off + k * 2, none⟩ = some (.int .i64 (fs.getD (k * 2 + 0) 0)) := by
        have := h1 (k * 2 + 0) (by omega)
        rw [show off + (k * 2 + 0) = off + k * 2 by omega] at this
        exact hch.cell this (by omega)
      have c01 : wr.cell? ⟨b, off + k * 2 + 1, none⟩ = some (.int .i64 (fs.getD (k * 2 + 1) 0)) := by
        have := h1 (k * 2 + 1) (by omega)
        rw [show off + (k * 2 + 1) = off + k * 2 + 1 by omega] at this
        exact hch.cell this (by omega)
      have c10 : wr.cell? ⟨b', off' + k * 2, none⟩ = some (.int .i64 (fs.getD (k * 2 + 0) 0)) := by
        have := h2 (k * 2 + 0) (by omega)
        rw [show off' + (k * 2 + 0) = off' + k * 2 by omega] at this
        exact hch.cell this (by omega)
      have c11 : wr.cell? ⟨b', off' + k * 2 + 1, none⟩ = some (.int .i64 (fs.getD (k * 2 + 1) 0)) := by
        have := h2 (k * 2 + 1) (by omega)
        rw [show off' + (k * 2 + 1) = off' + k * 2 + 1 by omega] at this
        exact hch.cell this (by omega)
      generalize fs.getD (k * 2 + 0) 0 = x0 at *
      generalize fs.getD (k * 2 + 1) 0 = x1 at *
      have hi : (k : Int) < (K : Int) := by omega
      have hN := eqFreeRun_calls wr.drew x0 x1
      clear h1 h2
      go_wp2
      go_region_with (go_at_call 16; refine hN.mono ?_; rintro e w1 ⟨rfl, hs⟩)
      all_goals
        have hch' : Chg 0 0 w w1 := hch.drew.trans hs
        clear hs hch hN
        go_wp2
        go_roundw
        case rel => exact ⟨hch', k + 1, by omega, by go_num⟩
        case measure => simp [intOf]; omega
    · clear h1 h2
      go_wp2
      go_ret
      exact ⟨rfl, hch⟩

set_option maxRecDepth 20000 in
set_option maxHeartbeats 400000 in
theorem eqFreeRunS_none (w : World) (ao bo : Option Addr) (cap cap' : Nat) :
    Calls Try.prog 7 #[.slice ao 0 cap, .slice bo 0 cap'] w fun e w' => e = .returned (.bool true) ∧ Chg 0 0 w w' := by
  go_enter Try.func7, Try.ntmps7
  go_wp2
  refine wp_loop_rounds 1 ?_; rw [rounds_succ]
  go_wp2
  go_ret
  exact ⟨rfl, Chg.refl _ _ _⟩

theorem eqFreeRunS_calls (w : World) {lo hi lo' hi' : Nat} {a b : Value} {k : Nat} {fs : List Int} (h1 : FView 2 w lo hi a k fs) (h2 : FView 2 w lo' hi' b k fs) :
    Calls Try.prog 7 #[a, b] w fun e w' => e = .returned (.bool true) ∧ Chg 0 0 w w' := by
  obtain ⟨ao, cap, rfl, _, hl, _, h1⟩ := h1
  obtain ⟨bo, cap', rfl, _, _, _, h2⟩ := h2
  rcases h1 with rfl | ⟨x, off, rfl, _, _, h1⟩
  · exact eqFreeRunS_none w ao bo cap cap'
  · rcases h2 with rfl | ⟨y, off', rfl, _, _, h2⟩
    · exact eqFreeRunS_none w _ bo cap cap'
    · exact eqFreeRunS_some w fs k x off y off' cap cap' hl h1 h2

set_option maxRecDepth 20000 in
set_option maxHeartbeats 400000 in
theorem heldFreeRunS_some (w : World) (K k0 : Nat) (b off cap : Nat) (hl : K ≤ 1048576) (hk0 : k0 ≤ 1048576)
    (h1 : ∀ j, j < K * 2 → w.cell? ⟨b, off + j, none⟩ = some (.int .i64 ((k0 + j : Nat) : Int))) :
    Calls Try.prog 11 #[.slice (some ⟨b, off, none⟩) K cap, .int .i64 k0] w fun e w' => e = .returned (.int .i64 ((k0 + K * 2 : Nat) : Int)) ∧ w' = w := by
  go_enter Try.func11, Try.ntmps11
  go_wp2
  go_loopw [1, 5] (fun q i wr => wr = w ∧ ∃ k : Nat, k ≤ K ∧ i = .int .i64 k ∧ q = .int .i64 ((k0 + k * 2 : Nat) : Int)) (fun _ i _ => K - (intOf i).toNat)
  case atStart => exact ⟨rfl, 0, Nat.zero_le _, rfl, by simp⟩
  case round =>
    obtain ⟨rfl, k, hk, rfl, rfl⟩ := hrel
    by_cases hlt : k < K
    · have c0 : wr.cell? ⟨b, off + k * 2, none⟩ = some (.int .i64 (((k0 + k * 2 : Nat) : Int))) := by
        have := h1 (k * 2 + 0) (by omega)
        rw [show off + (k * 2 + 0) = off + k * 2 by omega, show ((k0 + (k * 2 + 0) : Nat) : Int) = ((k0 + k * 2 : Nat) : Int) by omega] at this
        exact this
      have c1 : wr.cell? ⟨b, off + k * 2 + 1, none⟩ = some (.int .i64 (((k0 + k * 2 : Nat) : Int) + 1)) := by
        have := h1 (k * 2 + 1) (by omega)
        rw [show off + (k * 2 + 1) = off + k * 2 + 1 by omega, show ((k0 + (k * 2 + 1) : Nat) : Int) = ((k0 + k * 2 : Nat) : Int) + 1 by omega] at this
        exact this
      have hi : (k : Int) < (K : Int) := by omega
      obtain ⟨Q, HQ⟩ : ∃ Q : Nat, Hid (k0 + k * 2 = Q) := ⟨_, rfl⟩
      rw [HQ.out] at c0 c1 ⊢
      have hQb : Q ≤ 10000000 := by have := HQ.out; omega
      have n0 : ((Q : Int) != (Q : Int)) = false := by simp
      have n1 : (((Q : Int) + 1) != ((Q : Int) + 1)) = false := by simp
      clear h1
      go_wp2
      go_roundw
      case rel => exact ⟨trivial, k + 1, by omega, by go_num, by have := HQ.out; congr 1; omega⟩
      case measure => simp [intOf]; omega
    · obtain rfl : k = K := by omega
      clear h1
      go_wp2
      go_ret
      exact ⟨ret_int (by omega), rfl⟩

set_option maxRecDepth 20000 in
set_option maxHeartbeats 400000 in
theorem heldFreeRunS_none (w : World) (ao : Option Addr) (k0 cap : Nat) :
    Calls Try.prog 11 #[.slice ao 0 cap, .int .i64 k0] w fun e w' => e = .returned (.int .i64 (k0 : Int)) ∧ w' = w := by
  go_enter Try.func11, Try.ntmps11
  go_wp2
  refine wp_loop_rounds 1 ?_; rw [rounds_succ]
  go_wp2
  go_ret
  exact ⟨rfl, rfl⟩

theorem heldFreeRunS_calls (w : World) {lo hi : Nat} {a : Value} (k0 K : Nat) (hl : K ≤ 1048576) (hk0 : k0 ≤ 1048576) (h1 : FView 2 w lo hi a K (marksF k0 (K * 2))) :
    Calls Try.prog 11 #[a, .int .i64 k0] w fun e w' => e = .returned (.int .i64 ((k0 + K * 2 : Nat) : Int)) ∧ w' = w := by
  obtain ⟨ao, cap, rfl, _, _, _, h1⟩ := h1
  rcases h1 with rfl | ⟨x, off, rfl, _, _, h1⟩
  · simpa using heldFreeRunS_none w ao k0 cap
  · exact heldFreeRunS_some w K k0 x off cap hl hk0 (fun j hj => by rw [h1 j hj, marksF_getD _ _ _ hj])

set_option maxRecDepth 20000 in
set_option maxHeartbeats 1000000 in
theorem markFreeRunS_some (w : World) (base : Nat) (e : TypeId) (fs : List Int) (K k0 g cap : Nat) (hl : K ≤ 1048576) (hk0 : k0 ≤ 1048576) (h1 : OwnF 2 w base e (.slice (some ⟨g, 0, none⟩) K cap) K fs) :
    Calls Try.prog 10 #[.slice (some ⟨g, 0, none⟩) K cap, .int .i64 k0] w fun r w' => r = .returned (.int .i64 ((k0 + K * 2 : Nat) : Int)) ∧ OwnF 2 w' base e (.slice (some ⟨g, 0, none⟩) K cap) K (marksF k0 (K * 2)) ∧ Chg g (g + 1) w w' := by
  have hlen := h1.len
  go_enter Try.func10, Try.ntmps10
  go_wp2
  go_loopw [1, 5] (fun q i wr => ∃ k : Nat, k ≤ K ∧ i = .int .i64 k ∧ q = .int .i64 ((k0 + k * 2 : Nat) : Int) ∧ OwnF 2 wr base e (.slice (some ⟨g, 0, none⟩) K cap) K (marksF k0 (k * 2) ++ fs.drop (k * 2)) ∧ Chg g (g + 1) w wr) (fun _ i _ => K - (intOf i).toNat)
  case atStart => exact ⟨0, Nat.zero_le _, rfl, by simp, by simpa [marksF] using h1, Chg.refl _ _ _⟩
  case round =>
    obtain ⟨k, hk, rfl, rfl, hown, hch⟩ := hrel
    clear h1
    by_cases hlt : k < K
    · have hl2 : (marksF k0 (k * 2) ++ fs.drop (k * 2)).length = K * 2 := hown.len
      obtain ⟨u0, c0⟩ : ∃ u, wr.cell? ⟨g, k * 2, none⟩ = some u := ⟨_, (World.ownsRow.cellAt hown (k * 2) (by omega)).trans (List.getElem?_eq_getElem (by rw [List.length_map, hl2]; omega))⟩
      have f0 := World.ownsRow.frozenAt hown (k * 2)
      obtain ⟨u1, c1⟩ : ∃ u, wr.cell? ⟨g, k * 2 + 1, none⟩ = some u := ⟨_, (World.ownsRow.cellAt hown (k * 2 + 1) (by omega)).trans (List.getElem?_eq_getElem (by rw [List.length_map, hl2]; omega))⟩
      have f1 := World.ownsRow.frozenAt hown (k * 2 + 1)
      have s0 := World.ownsRow.stored hown (k * 2) (.int .i64 ((k0 + (k * 2) : Nat) : Int))
      rw [marksF_set _ _ _ (by omega)] at s0
      have s1 := World.ownsRow.stored s0.1 (k * 2 + 1) (.int .i64 ((k0 + (k * 2 + 1) : Nat) : Int))
      rw [marksF_set _ _ _ (by omega)] at s1
      obtain ⟨Q, HQ⟩ : ∃ Q : Nat, Hid (k0 + k * 2 = Q) := ⟨_, rfl⟩
      have v0 : ((k0 + (k * 2) : Nat) : Int) = (Q : Int) := by have := HQ.out; omega
      have v1 : ((k0 + (k * 2 + 1) : Nat) : Int) = (Q : Int) + 1 := by have := HQ.out; omega
      rw [v0, v1] at s1
      have hi : (k : Int) < (K : Int) := by omega
      have hQb : Q ≤ 10000000 := by have := HQ.out; omega
      have HR : Hid (OwnF 2 ((wr.setCell ⟨g, k * 2, none⟩ (.int .i64 ((Q : Nat) : Int))).setCell ⟨g, k * 2 + 1, none⟩ (.int .i64 (((Q : Nat) : Int) + 1))) base e (.slice (some ⟨g, 0, none⟩) K cap) K (marksF k0 ((k + 1) * 2) ++ fs.drop ((k + 1) * 2))) := by
        show OwnF _ _ _ _ _ _ _
        rw [show (k + 1) * 2 = k * 2 + 1 + 1 by omega]
        exact s1.1
      have HR2 : Hid (Chg g (g + 1) w ((wr.setCell ⟨g, k * 2, none⟩ (.int .i64 ((Q : Nat) : Int))).setCell ⟨g, k * 2 + 1, none⟩ (.int .i64 (((Q : Nat) : Int) + 1)))) := by
        refine Chg.setCell (Chg.setCell (hch) ?_ _) ?_ _ <;> exact Or.inl ⟨Nat.le_refl _, Nat.lt_succ_self _⟩
      rw [HQ.out]
      clear s0 v0 s1 v1 hown hl2 hch hlen
      go_wp2
      go_roundw
      case rel => exact ⟨k + 1, by omega, by go_num, by have := HQ.out; congr 1; omega, HR.out, HR2.out⟩
      case measure => simp [intOf]; omega
    · obtain rfl : k = K := by omega
      have HR : Hid (OwnF 2 wr base e (.slice (some ⟨g, 0, none⟩) k cap) k (marksF k0 (k * 2))) := by
        have := hown; rw [List.drop_eq_nil_of_le (by omega), List.append_nil] at this; exact this
      clear hown hlen
      go_wp2
      go_ret
      exact ⟨ret_int (by omega), HR.out, hch⟩

set_option maxRecDepth 20000 in
set_option maxHeartbeats 400000 in
theorem markFreeRunS_none (w : World) (ao : Option Addr) (k0 cap : Nat) :
    Calls Try.prog 10 #[.slice ao 0 cap, .int .i64 k0] w fun r w' => r = .returned (.int .i64 (k0 : Int)) ∧ w' = w := by
  go_enter Try.func10, Try.ntmps10
  go_wp2
  refine wp_loop_rounds 1 ?_; rw [rounds_succ]
  go_wp2
  go_ret
  exact ⟨rfl, rfl⟩

theorem markFreeRunS_calls (w : World) (base : Nat) (e : TypeId) (v : Value) (fs : List Int) (K k0 lo hi : Nat) (hl : K ≤ 1048576) (hk0 : k0 ≤ 1048576) (h1 : OwnF 2 w base e v K fs) (hb : ∀ g, v.ownBlock = some g → lo ≤ g ∧ g < hi) :
    Calls Try.prog 10 #[v, .int .i64 k0] w fun r w' => r = .returned (.int .i64 ((k0 + K * 2 : Nat) : Int)) ∧ OwnF 2 w' base e v K (marksF k0 (K * 2)) ∧ Chg lo hi w w' := by
  have h0 := h1
  obtain ⟨_, h2⟩ := h1
  rcases h2 with ⟨rfl, hn⟩ | ⟨g, cap, cur, rfl, _⟩
  · subst hn
    refine (markFreeRunS_none w none k0 0).mono ?_
    rintro r w' ⟨rfl, rfl⟩
    have := h0.len
    have hz : fs = [] := List.eq_nil_of_length_eq_zero (by omega)
    subst hz
    exact ⟨by simp, by simpa [marksF] using h0, Chg.refl _ _ _⟩
  · refine (markFreeRunS_some w base e fs K k0 g cap hl hk0 h0).mono ?_
    rintro r w' ⟨rfl, ho, hc⟩
    have := hb g rfl
    exact ⟨rfl, ho, hc.widen (Or.inl this.1) (Or.inl (by omega))⟩

end Go.Proofs.Ytgilnboiipehgaa
