/- Several short texts in one: Own, LaidSys, LaidJour, LawMkfs. -/
import Derived.Test.YtaciallijnhieaaDoorRows
import Derived.Test.YtaciallijnhieaaDoorMem
import Derived.Deep.RegionWith
import Derived.ProofKit
import Derived.OpenShut
import Derived.Carry
import Derived.ChangeOld
import Derived.Below
import Derived.Lib.SmallJoins
import Derived.Test.YtaciallijnhieaaDoorMkBoth
import Derived.ChangeSame
import Derived.ChangeVars
import Derived.OpenVars
import Derived.JoinedOf
import Derived.RowKitTokens
import Derived.LaidLaws
import Derived.LaidHandle
import Derived.Stop.LaidErr
import Derived.Stop.Joined
namespace Go.Proofs.YtaciallijnhieaaDoor
open Go.RowKit

set_option maxRecDepth 20000 in
set_option maxHeartbeats 400000 in
theorem eqByteS_some (w : World) (xs : List Int) (b off b' off' cap cap' : Nat) (hl : xs.length ≤ 9223372036854775807)
    (h1 : ∀ i, i < xs.length → w.cell? ⟨b, off + i, none⟩ = some (.int .u8 (xs.getD i 0)))
    (h2 : ∀ i, i < xs.length → w.cell? ⟨b', off' + i, none⟩ = some (.int .u8 (xs.getD i 0))) :
    Calls Tryd.prog 31 #[.slice (some ⟨b, off, none⟩) xs.length cap, .slice (some ⟨b', off', none⟩) xs.length cap'] w fun e w' => e = .returned (.bool true) ∧ Same w w' := by
  have hne : ((xs.length : Int) != (xs.length : Int)) = false := by simp
  go_enter Tryd.func31, Tryd.ntmps31
  go_wp2
  go_loopw [5] (fun i wr => Same w wr ∧ ∃ k : Nat, k ≤ xs.length ∧ i = .int .i64 k) (fun i _ => xs.length - (intOf i).toNat)
  case atStart => exact ⟨Same.refl _, 0, Nat.zero_le _, rfl⟩
  case round =>
    obtain ⟨hal, k, hk, rfl⟩ := hrel
    have e1 : ∀ a, wr.cell? a = w.cell? a := fun a => hal.cell a
    by_cases hlt : k < xs.length
    · have c1 : wr.cell? ⟨b, off + k, none⟩ = some (.int .u8 (xs.getD k 0)) := (e1 _).trans (h1 k hlt)
      have c2 : wr.cell? ⟨b', off' + k, none⟩ = some (.int .u8 (xs.getD k 0)) := (e1 _).trans (h2 k hlt)
      clear e1
      have hi : (k : Int) < (xs.length : Int) := by omega
      go_wp2
      go_quiet (fail)
      go_wp2
      go_roundw
      case rel => exact ⟨hal.drewN _, k + 1, by omega, by go_num⟩
      case measure => simp [intOf]; omega
    · clear e1
      go_wp2
      go_ret
      exact ⟨rfl, hal⟩

set_option maxRecDepth 20000 in
set_option maxHeartbeats 400000 in
theorem eqByteS_none (w : World) (ao bo : Option Addr) (cap cap' : Nat) :
    Calls Tryd.prog 31 #[.slice ao 0 cap, .slice bo 0 cap'] w fun e w' => e = .returned (.bool true) ∧ Same w w' := by
  go_enter Tryd.func31, Tryd.ntmps31
  go_wp2
  refine wp_loop_rounds 1 ?_; rw [rounds_succ]
  go_wp2
  go_ret
  exact ⟨rfl, Same.refl _⟩

theorem eqByteS_calls (w : World) {lo hi lo' hi' : Nat} {a b : Value} {xs : List Int} (h1 : View w lo hi .u8 a xs) (h2 : View w lo' hi' .u8 b xs) :
    Calls Tryd.prog 31 #[a, b] w fun e w' => e = .returned (.bool true) ∧ Same w w' := by
  obtain ⟨ao, cap, rfl, hl, _, h1⟩ := h1
  obtain ⟨bo, cap', rfl, _, _, h2⟩ := h2
  rcases h1 with rfl | ⟨x, off, rfl, _, _, h1⟩
  · exact eqByteS_none w ao bo cap cap'
  · rcases h2 with rfl | ⟨y, off', rfl, _, _, h2⟩
    · exact eqByteS_none w _ bo cap cap'
    · exact eqByteS_some w xs x off y off' cap cap' hl h1 h2

set_option maxRecDepth 20000 in
set_option maxHeartbeats 400000 in
theorem eqWrite_calls (w : World) {lo hi lo' hi' : Nat} (q : Int) {a b : Value} {xs : List Int} (h1 : View w lo hi .u8 a xs) (h2 : View w lo' hi' .u8 b xs) :
    Calls Tryd.prog 58 #[.agg #[.int .i64 q, a], .agg #[.int .i64 q, b]] w fun e w' => e = .returned (.bool true) ∧ Chg 0 0 w w' := by
  have hne : (q != q) = false := by simp
  go_enter Tryd.func58, Tryd.ntmps58
  go_wp2_with fail
  refine (eqByteS_calls _ (h1.chg ((Chg.alloc (Chg.refl 0 0 w) _).alloc _) (by omega)) (h2.chg ((Chg.alloc (Chg.refl 0 0 w) _).alloc _) (by omega))).mono ?_
  rintro e w1 ⟨rfl, hs⟩
  have hc : Chg 0 0 w w1 := ((Chg.alloc (Chg.refl 0 0 w) _).alloc _).trans (hs.chg 0 0)
  clear hs
  go_wp2
  go_ret
  exact ⟨rfl, hc⟩

set_option maxRecDepth 20000 in
set_option maxHeartbeats 1000000 in
theorem eqWriteS_some (w : World) (ps : List Wr) (lo hi lo' hi' b off b' off' cap cap' : Nat) (hl : ps.length ≤ 9223372036854775807)
    (h1 : ∀ i, i < ps.length → ∃ dv, w.cell? ⟨b, off + i * 2, none⟩ = some (.int .i64 (ps.getD i (0, [])).1) ∧ w.cell? ⟨b, off + i * 2 + 1, none⟩ = some dv ∧ View w lo hi .u8 dv (ps.getD i (0, [])).2)
    (h2 : ∀ i, i < ps.length → ∃ dv, w.cell? ⟨b', off' + i * 2, none⟩ = some (.int .i64 (ps.getD i (0, [])).1) ∧ w.cell? ⟨b', off' + i * 2 + 1, none⟩ = some dv ∧ View w lo' hi' .u8 dv (ps.getD i (0, [])).2) :
    Calls Tryd.prog 32 #[.slice (some ⟨b, off, none⟩) ps.length cap, .slice (some ⟨b', off', none⟩) ps.length cap'] w fun e w' => e = .returned (.bool true) ∧ Chg 0 0 w w' := by
  have hne : ((ps.length : Int) != (ps.length : Int)) = false := by simp
  go_enter Tryd.func32, Tryd.ntmps32
  go_wp2
  go_loopw [5] (fun i wr => Chg 0 0 w wr ∧ ∃ k : Nat, k ≤ ps.length ∧ i = .int .i64 k) (fun i _ => ps.length - (intOf i).toNat)
  case atStart => exact ⟨Chg.refl _ _ _, 0, Nat.zero_le _, rfl⟩
  case round =>
    obtain ⟨hch, k, hk, rfl⟩ := hrel
    by_cases hlt : k < ps.length
    · obtain ⟨d1, c1, c2, v1⟩ := h1 k hlt
      obtain ⟨d2, c3, c4, v2⟩ := h2 k hlt
      clear h1 h2
      generalize (ps.getD k (0, [])).1 = q at *
      generalize (ps.getD k (0, [])).2 = xs at *
      have c1 := hch.cell c1 (by omega)
      have c2 := hch.cell c2 (by omega)
      have c3 := hch.cell c3 (by omega)
      have c4 := hch.cell c4 (by omega)
      have v1 := v1.chg hch (by omega)
      have v2 := v2.chg hch (by omega)
      have hi : (k : Int) < (ps.length : Int) := by omega
      go_wp2
      go_region_with (go_at_call 58; refine (eqWrite_calls _ q (v1.chg (Chg.drew (Chg.refl 0 0 _)) (by omega)) (v2.chg (Chg.drew (Chg.refl 0 0 _)) (by omega))).mono ?_; rintro e w1 ⟨rfl, hs⟩)
      all_goals
        have hch' : Chg 0 0 w w1 := hch.drew.trans hs
        clear hs hch
        go_wp2
        go_roundw
        case rel => exact ⟨hch', k + 1, by omega, by go_num⟩
        case measure => simp [intOf]; omega
    · clear h1 h2
      go_wp2
      go_ret
      exact ⟨rfl, hch⟩

set_option maxRecDepth 20000 in
set_option maxHeartbeats 400000 in
theorem eqWriteS_none (w : World) (ao bo : Option Addr) (cap cap' : Nat) :
    Calls Tryd.prog 32 #[.slice ao 0 cap, .slice bo 0 cap'] w fun e w' => e = .returned (.bool true) ∧ Chg 0 0 w w' := by
  go_enter Tryd.func32, Tryd.ntmps32
  go_wp2
  refine wp_loop_rounds 1 ?_; rw [rounds_succ]
  go_wp2
  go_ret
  exact ⟨rfl, Chg.refl _ _ _⟩

theorem eqWriteS_calls (w : World) {lo hi lo' hi' : Nat} {a b : Value} {ps : List Wr} (h1 : PView w lo hi a ps) (h2 : PView w lo' hi' b ps) :
    Calls Tryd.prog 32 #[a, b] w fun e w' => e = .returned (.bool true) ∧ Chg 0 0 w w' := by
  obtain ⟨ao, cap, rfl, hl, _, h1⟩ := h1
  obtain ⟨bo, cap', rfl, _, _, h2⟩ := h2
  rcases h1 with rfl | ⟨x, off, rfl, _, _, h1⟩
  · exact eqWriteS_none w ao bo cap cap'
  · rcases h2 with rfl | ⟨y, off', rfl, _, _, h2⟩
    · exact eqWriteS_none w _ bo cap cap'
    · exact eqWriteS_some w ps lo hi lo' hi' x off y off' cap cap' hl h1 h2

set_option maxRecDepth 20000 in
set_option maxHeartbeats 400000 in
theorem eqDisk_calls (w : World) {lo hi lo' hi' : Nat} {a b : Value} {d : Dsk} (h1 : DView w lo hi a d) (h2 : DView w lo' hi' b d) :
    Calls Tryd.prog 7 #[a, b] w fun e w' => e = .returned (.bool true) ∧ Chg 0 0 w w' := by
  obtain ⟨dv, pv, rfl, v1, p1⟩ := h1
  obtain ⟨dv', pv', rfl, v2, p2⟩ := h2
  go_enter Tryd.func7, Tryd.ntmps7
  go_wp2_with fail
  refine (eqByteS_calls _ (v1.chg ((Chg.alloc (Chg.refl 0 0 w) _).alloc _) (by omega)) (v2.chg ((Chg.alloc (Chg.refl 0 0 w) _).alloc _) (by omega))).mono ?_
  rintro e w1 ⟨rfl, hs⟩
  have hc : Chg 0 0 w w1 := ((Chg.alloc (Chg.refl 0 0 w) _).alloc _).trans (hs.chg 0 0)
  have p1 := p1.chg hc (by omega)
  have p2 := p2.chg hc (by omega)
  have cc := fun p => hs.cell p
  clear hs v1 v2
  go_wp2_with fail
  refine (eqWriteS_calls _ p1 p2).mono ?_
  rintro e w2 ⟨rfl, hs⟩
  have hc2 := hc.trans hs
  clear hs hc p1 p2 cc
  go_wp2
  go_ret
  exact ⟨rfl, hc2⟩

end Go.Proofs.YtaciallijnhieaaDoor

namespace Go.Proofs.YtaciallijnhieaaDoor
open Go.RowKit

set_option maxRecDepth 20000 in
set_option maxHeartbeats 400000 in
theorem heldByteS_some (w : World) (n k0 : Nat) (b off cap : Nat) (hl : n ≤ 140737488355328) (hk0 : k0 ≤ 140737488355328)
    (h1 : ∀ i, i < n → w.cell? ⟨b, off + i, none⟩ = some (.int .u8 ((marks k0 n).getD i 0))) :
    Calls Tryd.prog 35 #[.slice (some ⟨b, off, none⟩) n cap, .int .i64 k0] w fun e w' => e = .returned (.int .i64 ((k0 + n : Nat) : Int)) ∧ Same w w' := by
  go_enter Tryd.func35, Tryd.ntmps35
  go_wp2
  go_loop [1, 5] (fun q i => ∃ k : Nat, k ≤ n ∧ i = .int .i64 k ∧ q = .int .i64 ((k0 + k : Nat) : Int)) (fun _ i => n - (intOf i).toNat)
  case atStart => exact ⟨0, Nat.zero_le _, rfl, rfl⟩
  case round =>
    obtain ⟨k, hk, rfl, rfl⟩ := hrel
    by_cases hlt : k < n
    · have c1 : w.cell? ⟨b, off + k, none⟩ = some (.int .u8 (((k0 + k : Nat) : Int) % 256)) := by rw [h1 k hlt, marks_getD _ _ _ hlt]
      have hi : (k : Int) < (n : Int) := by omega
      clear h1
      go_wp2
      go_round
      case rel => exact ⟨k + 1, by omega, by go_num, by go_num⟩
      case measure => simp [intOf]; omega
    · clear h1
      go_wp2
      go_ret
      exact ⟨ret_int (by omega), Same.refl _⟩

set_option maxRecDepth 20000 in
set_option maxHeartbeats 400000 in
theorem heldByteS_none (w : World) (ao : Option Addr) (k0 cap : Nat) :
    Calls Tryd.prog 35 #[.slice ao 0 cap, .int .i64 k0] w fun e w' => e = .returned (.int .i64 (k0 : Int)) ∧ Same w w' := by
  go_enter Tryd.func35, Tryd.ntmps35
  go_wp2
  refine wp_loop_rounds 1 ?_; rw [rounds_succ]
  go_wp2
  go_ret
  exact ⟨rfl, Same.refl _⟩

theorem heldByteS_calls (w : World) {lo hi : Nat} {a : Value} (k0 n : Nat) (hk0 : k0 + n ≤ 140737488355328) (h1 : View w lo hi .u8 a (marks k0 n)) :
    Calls Tryd.prog 35 #[a, .int .i64 k0] w fun e w' => e = .returned (.int .i64 ((k0 + n : Nat) : Int)) ∧ Same w w' := by
  obtain ⟨ao, cap, rfl, hl, _, h1⟩ := h1
  rw [marks_length] at *
  rcases h1 with h1 | ⟨x, off, rfl, _, _, h1⟩
  · obtain rfl : n = 0 := by have := congrArg List.length h1; simpa [marks_length] using this
    exact heldByteS_none w ao k0 cap
  · exact heldByteS_some w n k0 x off cap (by omega) (by omega) h1

set_option maxRecDepth 20000 in
set_option maxHeartbeats 400000 in
theorem markByteS_some (w : World) (base : Nat) (e : TypeId) (xs : List Int) (k0 g cap : Nat) (hl : xs.length ≤ 140737488355328) (hk0 : k0 ≤ 140737488355328)
    (h1 : OwnB w base e (.slice (some ⟨g, 0, none⟩) xs.length cap) xs) :
    Calls Tryd.prog 33 #[.slice (some ⟨g, 0, none⟩) xs.length cap, .int .i64 k0] w fun r w' => r = .returned (.int .i64 ((k0 + xs.length : Nat) : Int)) ∧
      OwnB w' base e (.slice (some ⟨g, 0, none⟩) xs.length cap) (marks k0 xs.length) ∧ Chg g (g + 1) w w' := by
  go_enter Tryd.func33, Tryd.ntmps33
  go_wp2
  go_loopw [1, 5] (fun q i wr => ∃ k : Nat, k ≤ xs.length ∧ i = .int .i64 k ∧ q = .int .i64 ((k0 + k : Nat) : Int) ∧ OwnB wr base e (.slice (some ⟨g, 0, none⟩) xs.length cap) (marks k0 k ++ xs.drop k) ∧ Chg g (g + 1) w wr) (fun _ i _ => xs.length - (intOf i).toNat)
  case atStart => exact ⟨0, Nat.zero_le _, rfl, rfl, by simpa [marks] using h1, Chg.refl _ _ _⟩
  case round =>
    obtain ⟨k, hk, rfl, rfl, hown, hch⟩ := hrel
    clear h1
    have hlen : (marks k0 k ++ xs.drop k).length = xs.length := by simp [marks_length]; omega
    have hown' : wr.ownsRow base e 1 (.slice (some ⟨g, 0, none⟩) xs.length cap) xs.length ((marks k0 k ++ xs.drop k).map (Value.int .u8)) := by
      have := hown; unfold OwnB at this; rw [hlen] at this; exact this
    by_cases hlt : k < xs.length
    · have c1 : ∃ u, wr.cell? ⟨g, k, none⟩ = some u := by
        have := World.ownsRow.cellAt hown' k (by omega)
        rw [this]
        exact ⟨_, List.getElem?_eq_getElem (by rw [List.length_map, hlen]; exact hlt)⟩
      obtain ⟨u, c1⟩ := c1
      have f1 : wr.frozen? ⟨g, k, none⟩ = false := World.ownsRow.frozenAt hown' k
      have hst := World.ownsRow.stored hown' k (.int .u8 (((k0 + k : Nat) : Int) % 256))
      rw [marks_set _ _ _ hlt] at hst
      have hlen2 : (marks k0 (k + 1) ++ xs.drop (k + 1)).length = xs.length := by simp [marks_length]; omega
      have hi : (k : Int) < (xs.length : Int) := by omega
      have R : OwnB (wr.setCell ⟨g, k, none⟩ (.int .u8 (((k0 + k : Nat) : Int) % 256))) base e (.slice (some ⟨g, 0, none⟩) xs.length cap) (marks k0 (k + 1) ++ xs.drop (k + 1)) := by
        unfold OwnB; rw [hlen2]; exact hst.1
      have R2 : Chg g (g + 1) w (wr.setCell ⟨g, k, none⟩ (.int .u8 (((k0 + k : Nat) : Int) % 256))) := hch.setCell (Or.inl ⟨Nat.le_refl _, Nat.lt_succ_self _⟩) _
      have HR : Hid (OwnB (wr.setCell ⟨g, k, none⟩ (.int .u8 (((k0 + k : Nat) : Int) % 256))) base e (.slice (some ⟨g, 0, none⟩) xs.length cap) (marks k0 (k + 1) ++ xs.drop (k + 1))) := R
      clear hst hown hown' hlen hlen2 R hch
      go_wp2
      go_roundw
      case rel => exact ⟨k + 1, by omega, by go_num, by go_num, HR.out, R2⟩
      case measure => simp [intOf]; omega
    · obtain rfl : k = xs.length := by omega
      have HR : Hid (OwnB wr base e (.slice (some ⟨g, 0, none⟩) xs.length cap) (marks k0 xs.length)) := by
        have := hown; rw [List.drop_length, List.append_nil] at this; exact this
      clear hown hown' hlen
      go_wp2
      go_ret
      exact ⟨ret_int (by omega), HR.out, hch⟩

set_option maxRecDepth 20000 in
set_option maxHeartbeats 400000 in
theorem markByteS_none (w : World) (ao : Option Addr) (k0 cap : Nat) :
    Calls Tryd.prog 33 #[.slice ao 0 cap, .int .i64 k0] w fun r w' => r = .returned (.int .i64 (k0 : Int)) ∧ w' = w := by
  go_enter Tryd.func33, Tryd.ntmps33
  go_wp2
  refine wp_loop_rounds 1 ?_; rw [rounds_succ]
  go_wp2
  go_ret
  exact ⟨rfl, rfl⟩

/-- Behind markByteS the slice's own row bears the marks; nothing else has turned. -/
theorem markByteS_calls (w : World) (base : Nat) (e : TypeId) (v : Value) (xs : List Int) (k0 lo hi : Nat) (hl : xs.length ≤ 140737488355328) (hk0 : k0 ≤ 140737488355328)
    (h1 : OwnB w base e v xs) (hb : ∀ g, v.ownBlock = some g → lo ≤ g ∧ g < hi) :
    Calls Tryd.prog 33 #[v, .int .i64 k0] w fun r w' => r = .returned (.int .i64 ((k0 + xs.length : Nat) : Int)) ∧ OwnB w' base e v (marks k0 xs.length) ∧ Chg lo hi w w' ∧ (∀ g, v.ownBlock = some g → Chg g (g + 1) w w') ∧ (v.ownBlock = none → w' = w) := by
  have h0 := h1
  obtain ⟨_, h2⟩ := h1
  rcases h2 with ⟨rfl, hn⟩ | ⟨g, cap, cur, rfl, _⟩
  · obtain rfl : xs = [] := List.eq_nil_of_length_eq_zero hn
    refine (markByteS_none w none k0 0).mono ?_
    rintro r w' ⟨rfl, rfl⟩
    exact ⟨rfl, h0, Chg.refl _ _ _, fun _ _ => Chg.refl _ _ _, fun _ => rfl⟩
  · refine (markByteS_some w base e xs k0 g cap hl hk0 h0).mono ?_
    rintro r w' ⟨rfl, ho, hc⟩
    have := hb g rfl
    exact ⟨rfl, ho, hc.widen (Or.inl this.1) (Or.inl (by omega)), fun g' hg' => by cases hg'; exact hc, fun h => by cases h⟩

end Go.Proofs.YtaciallijnhieaaDoor

namespace Go.Proofs.YtaciallijnhieaaDoor
open Go.RowKit

set_option maxRecDepth 20000 in
set_option maxHeartbeats 1000000 in
theorem markWriteS_some (w : World) (base : Nat) (eW eB : TypeId) (hE : eW ≠ eB) (ps : List Wr) (k0 g cap lo hi : Nat) (hl : ps.length ≤ 140737488355328) (hk0 : k0 + cnt ps ≤ 140737488355328)
    (cells : List Value) (dvs : Nat → Value) (h1 : OwnPx w base eW eB (.slice (some ⟨g, 0, none⟩) ps.length cap) ps cells dvs) (hg : lo ≤ g ∧ g < hi)
    (hb : ∀ i g', i < ps.length → (dvs i).ownBlock = some g' → lo ≤ g' ∧ g' < hi) :
    Calls Tryd.prog 34 #[.slice (some ⟨g, 0, none⟩) ps.length cap, .int .i64 k0] w fun r w' => r = .returned (.int .i64 ((k0 + cnt ps : Nat) : Int)) ∧
      (∃ cells', OwnPx w' base eW eB (.slice (some ⟨g, 0, none⟩) ps.length cap) (mkTo k0 ps ps.length) cells' dvs) ∧ Chg lo hi w w' ∧ (∀ m, m ≠ g → (∀ i, i < ps.length → (dvs i).ownBlock ≠ some m) → m < w.heap.size → w'.heap[m]? = w.heap[m]?) := by
  go_enter Tryd.func34, Tryd.ntmps34
  go_wp2
  go_loopw [1, 5] (fun q i wr => ∃ k : Nat, k ≤ ps.length ∧ i = .int .i64 k ∧ q = .int .i64 ((k0 + cnt (ps.take k) : Nat) : Int) ∧
      (∃ cells', OwnPx wr base eW eB (.slice (some ⟨g, 0, none⟩) ps.length cap) (mkTo k0 ps k) cells' dvs) ∧ Chg lo hi w wr ∧ (∀ m, m ≠ g → (∀ i, i < ps.length → (dvs i).ownBlock ≠ some m) → m < w.heap.size → wr.heap[m]? = w.heap[m]?)) (fun _ i _ => ps.length - (intOf i).toNat)
  case atStart => exact ⟨0, Nat.zero_le _, rfl, rfl, ⟨cells, by rw [mkTo_zero]; exact h1⟩, Chg.refl _ _ _, fun _ _ _ _ => rfl⟩
  case round =>
    obtain ⟨k, hk, rfl, rfl, ⟨cells', hown⟩, hch, hrest⟩ := hrel
    clear h1
    by_cases hlt : k < ps.length
    · have hrow := hown.row
      rw [mkTo_length] at hrow
      have hlen : cells'.length = ps.length * 2 := hrow.1
      have c0 : wr.cell? ⟨g, k * 2, none⟩ = some (.int .i64 ((mkTo k0 ps k).getD k (0, [])).1) := by
        rw [World.ownsRow.cellAt hrow (k * 2) (by omega)]; exact hown.at0 k (by rw [mkTo_length]; exact hlt)
      have c1 : wr.cell? ⟨g, k * 2 + 1, none⟩ = some (dvs k) := by
        rw [World.ownsRow.cellAt hrow (k * 2 + 1) (by omega)]; exact hown.at1 k (by rw [mkTo_length]; exact hlt)
      have f0 : wr.frozen? ⟨g, k * 2, none⟩ = false := World.ownsRow.frozenAt hrow (k * 2)
      have hik : (k : Int) < (ps.length : Int) := by omega
      have hcs := cnt_take_succ ps k hlt
      have hcl := cnt_take_le ps (k + 1)
      have hd := hown.data_set hE (k * 2) (.int .i64 ((k0 : Int) + (cnt (ps.take k) : Int))) (i := k) (by rw [mkTo_length]; exact hlt)
      have hold : (mkTo k0 ps k).getD k (0, []) = ps.getD k (0, []) := by rw [mkTo_getD _ _ _ _ hlt, if_neg (Nat.lt_irrefl _)]
      rw [hold] at c0 hd
      have HW : Hid (mkW k0 ps k = (((k0 + cnt (ps.take k) : Nat) : Int), marks (k0 + cnt (ps.take k) + 1) (ps.getD k (0, [])).2.length)) := rfl
      clear hold hrow
      generalize hc : cnt (ps.take k) = c at *
      generalize ps.getD k (0, []) = old at *
      have Hc : Hid (cnt (ps.take k) = c) := hc
      clear hc
      have hbd : k0 + c + 1 + old.2.length ≤ 140737488355328 := by omega
      have Hcs : Hid (cnt (ps.take (k + 1)) = c + (old.2.length + 1)) := hcs
      clear hcs hcl
      go_wp2_with fail
      rw [show (k0 : Int) + (c : Int) + 1 = ((k0 + c + 1 : Nat) : Int) from by omega]
      refine (markByteS_calls _ base eB (dvs k) old.2 (k0 + c + 1) lo hi (by omega) (by omega) hd (hb k · hlt)).mono ?_
      rintro e w2 ⟨rfl, ho, hc1, hc2, hc3⟩
      have hset : (k0 : Int) + (c : Int) = ((k0 + c : Nat) : Int) := by omega
      rw [hset] at hc1 hc2 hc3
      have R1 := hown.step (mkTo_length _ _ _) hlt hE ((k0 + c : Nat) : Int) _ ho hc2 hc3
      rw [← HW.out, mkTo_succ] at R1
      have R2 : Chg lo hi w w2 := (hch.setCell (p := ⟨g, k * 2, none⟩) (Or.inl hg) _).trans hc1
      have R3 : ∀ m, m ≠ g → (∀ i, i < ps.length → (dvs i).ownBlock ≠ some m) → m < w.heap.size → w2.heap[m]? = w.heap[m]? := by
        intro m hm hm2 hm3
        rw [← hrest m hm hm2 hm3, ← Below.heap_setCell wr ⟨g, k * 2, none⟩ (.int .i64 ((k0 + c : Nat) : Int)) m hm]
        cases hb : (dvs k).ownBlock with
        | none => rw [hc3 hb]
        | some g' =>
          refine (hc2 g' hb).block m (Nat.lt_of_lt_of_le hm3 (by have := hch.size; simpa [World.setCell] using this)) ?_
          have : m ≠ g' := fun e => hm2 k hlt (by rw [e]; exact hb)
          omega
      have HR : Hid (∃ cells'', OwnPx w2 base eW eB (.slice (some ⟨g, 0, none⟩) ps.length cap) (mkTo k0 ps (k + 1)) cells'' dvs) := ⟨_, R1⟩
      have HR3 : Hid (∀ m, m ≠ g → (∀ i, i < ps.length → (dvs i).ownBlock ≠ some m) → m < w.heap.size → w2.heap[m]? = w.heap[m]?) := R3
      clear R1 R3 hc1 hc2 hc3 ho hown hrest hch c0 c1 f0 hd hset HW
      go_wp2
      go_roundw
      case rel => exact ⟨k + 1, by omega, by go_num, by rw [Hcs.out]; go_num, HR.out, R2, HR3.out⟩
      case measure => simp [intOf]; omega
    · obtain rfl : k = ps.length := by omega
      have H1 : Hid (∃ cells'', OwnPx wr base eW eB (.slice (some ⟨g, 0, none⟩) ps.length cap) (mkTo k0 ps ps.length) cells'' dvs) := ⟨_, hown⟩
      have H2 : Hid (∀ m, m ≠ g → (∀ i, i < ps.length → (dvs i).ownBlock ≠ some m) → m < w.heap.size → wr.heap[m]? = w.heap[m]?) := hrest
      rw [List.take_length]
      clear hown hrest
      go_wp2
      go_ret
      exact ⟨rfl, H1.out, hch, H2.out⟩

set_option maxRecDepth 20000 in
set_option maxHeartbeats 400000 in
theorem markWriteS_none (w : World) (ao : Option Addr) (k0 cap : Nat) :
    Calls Tryd.prog 34 #[.slice ao 0 cap, .int .i64 k0] w fun r w' => r = .returned (.int .i64 (k0 : Int)) ∧ w' = w := by
  go_enter Tryd.func34, Tryd.ntmps34
  go_wp2
  refine wp_loop_rounds 1 ?_; rw [rounds_succ]
  go_wp2
  go_ret
  exact ⟨rfl, rfl⟩

/-- Behind markWriteS the writes bear the marks; nothing else has turned. -/
theorem markWriteS_calls (w : World) (base : Nat) (eW eB : TypeId) (hE : eW ≠ eB) (v : Value) (ps : List Wr) (k0 lo hi : Nat) (hl : ps.length ≤ 140737488355328) (hk0 : k0 + cnt ps ≤ 140737488355328)
    (cells : List Value) (dvs : Nat → Value) (h1 : OwnPx w base eW eB v ps cells dvs) (hg : ∀ g, v.ownBlock = some g → lo ≤ g ∧ g < hi)
    (hb : ∀ i g', i < ps.length → (dvs i).ownBlock = some g' → lo ≤ g' ∧ g' < hi) :
    Calls Tryd.prog 34 #[v, .int .i64 k0] w fun r w' => r = .returned (.int .i64 ((k0 + cnt ps : Nat) : Int)) ∧
      (∃ cells', OwnPx w' base eW eB v (mkTo k0 ps ps.length) cells' dvs) ∧ Chg lo hi w w' ∧ (∀ m, v.ownBlock ≠ some m → (∀ i, i < ps.length → (dvs i).ownBlock ≠ some m) → m < w.heap.size → w'.heap[m]? = w.heap[m]?) := by
  rcases h1.row.2 with ⟨rfl, hn⟩ | ⟨g, cap, cur, rfl, _⟩
  · obtain rfl : ps = [] := List.eq_nil_of_length_eq_zero hn
    refine (markWriteS_none w none k0 0).mono ?_
    rintro r w' ⟨rfl, rfl⟩
    exact ⟨rfl, ⟨cells, by simpa [mkTo] using h1⟩, Chg.refl _ _ _, fun _ _ _ _ => rfl⟩
  · refine (markWriteS_some w base eW eB hE ps k0 g cap lo hi hl hk0 cells dvs h1 (hg g rfl) hb).mono ?_
    rintro r w' ⟨rfl, ho, hc, hr⟩
    exact ⟨rfl, ho, hc, fun m hm => hr m (fun e => hm (by rw [e]; rfl))⟩

set_option maxRecDepth 20000 in
set_option maxHeartbeats 1000000 in
theorem markDisk_calls (w : World) (eW eB : TypeId) (hE : eW ≠ eB) {v : Value} {d : Dsk} (k0 lo hi : Nat) (hf : d.Fits) (hk0 : k0 + cntD d ≤ 140737488355328) (hhi : hi ≤ w.heap.size)
    (h1 : OwnD w lo hi eW eB v d) :
    Calls Tryd.prog 8 #[v, .int .i64 k0] w fun r w' => r = .returned (.int .i64 ((k0 + cntD d : Nat) : Int)) ∧ OwnD w' lo hi eW eB v (mkD k0 d) ∧ Chg lo hi w w' := by
  obtain ⟨dv, pv, cells, dvs, h⟩ := h1
  obtain ⟨rfl, hdur, hpend, hap, hiD, hiP, hiX⟩ := h
  unfold cntD at hk0
  go_enter Tryd.func8, Tryd.ntmps8
  go_wp2_with fail
  refine (markByteS_calls _ lo eB dv d.dur k0 lo hi hf.dur (by omega) (hdur.chg (Chg.alloc (Chg.refl 0 0 w) _) (by intro g hg; omega)) (fun g hg => ⟨(hdur.lt g hg).1, hiD g hg⟩)).mono ?_
  rintro e w1 ⟨rfl, ho1, hc1, hcx, hcn⟩
  have cc : ∀ o x, (w.alloc (.cells #[dv, pv] 27)).cell? ⟨w.heap.size, o, none⟩ = some x → w1.cell? ⟨w.heap.size, o, none⟩ = some x := fun o x hx => hc1.cell hx (by omega)
  have cb : w1.cell? ⟨w.heap.size, 1, none⟩ = some pv := cc 1 pv (by simp)
  have hp1 : OwnPx w1 lo eW eB pv d.pend cells dvs := by
    have hp0 := hpend.chg (Chg.alloc (Chg.refl 0 0 w) (.cells #[dv, pv] 27)) (by intro g hg; omega) (by intro i g hi hg; omega)
    cases hb : dv.ownBlock with
    | none => rw [hcn hb]; exact hp0
    | some g =>
      refine hp0.chg (hcx g hb) ?_ ?_
      · intro g' hg'
        have : g' ≠ g := by
          intro e
          subst e
          obtain ⟨cur', hcur'⟩ := hdur.elem hb
          rcases hpend.row.2 with ⟨h', _⟩ | ⟨g'', cap', cur, h', hb', hg, _⟩
          · rw [h'] at hg'; cases hg'
          · rw [h'] at hg'; cases hg'
            rw [hg] at hcur'
            simp only [Option.some.injEq, Obj.cells.injEq] at hcur'
            exact hE hcur'.2.1
        omega
      · intro i g' hi' hg'
        have : g' ≠ g := fun e => hap i g hi' hb (by rw [← e]; exact hg')
        omega
  have hch1 : Chg lo hi w w1 := (Chg.alloc (Chg.refl lo hi w) _).trans hc1
  clear cc hcx hcn hc1 hpend hdur
  go_wp2_with fail
  refine (markWriteS_calls _ lo eW eB hE pv d.pend (k0 + d.dur.length) lo hi hf.pend (by omega) cells dvs hp1 (fun g hg => ⟨(World.ownsRow.lt hp1.row g hg).1, hiP g hg⟩) (fun i g hi' hg => ⟨((hp1.data i hi').lt g hg).1, hiX i g hi' hg⟩)).mono ?_
  rintro e w2 ⟨rfl, ⟨cells', hp2⟩, hc2, hr⟩
  have hd2 : OwnB w2 lo eB dv (marks k0 d.dur.length) := by
    obtain ⟨h1, h2⟩ := ho1
    refine ⟨h1, ?_⟩
    rcases h2 with h2 | ⟨g, cap, cur, hv, hg, hh, r⟩
    · exact Or.inl h2
    · refine Or.inr ⟨g, cap, cur, hv, hg, ?_, r⟩
      have hdb : dv.ownBlock = some g := by rw [hv]; rfl
      rw [hr g ?_ ?_ (Array.getElem?_eq_some_iff.1 hh).1]
      · exact hh
      · intro e
        rcases hp1.row.2 with ⟨h', _⟩ | ⟨g'', cap', cur', h', hb', hg', _⟩
        · rw [h'] at e; cases e
        · rw [h'] at e; cases e
          rw [hh] at hg'
          simp only [Option.some.injEq, Obj.cells.injEq] at hg'
          exact hE hg'.2.1.symm
      · exact fun i hi' => hap i g hi' hdb
  have hch2 := hch1.trans hc2
  have H1 : Hid (OwnD w2 lo hi eW eB (.agg #[dv, pv]) (mkD k0 d)) :=
    ⟨dv, pv, cells', dvs, rfl, hd2, hp2, by simpa [mkD, mkTo_length] using hap, hiD, hiP, by simpa [mkD, mkTo_length] using hiX⟩
  clear hr hp1 hp2 hd2 ho1 hc2 hch1 cb hap hiX hiP hiD
  go_wp2
  go_ret
  exact ⟨ret_int (by unfold cntD; omega), H1.out, hch2⟩

end Go.Proofs.YtaciallijnhieaaDoor

namespace Go.Proofs.YtaciallijnhieaaDoor
open Go.RowKit

set_option maxRecDepth 20000 in
set_option maxHeartbeats 1000000 in
theorem heldWriteS_some (w : World) (ps : List Wr) (k0 lo hi b off cap : Nat) (hl : ps.length ≤ 140737488355328) (hk0 : k0 + cnt ps ≤ 140737488355328)
    (h1 : ∀ i, i < ps.length → ∃ dv, w.cell? ⟨b, off + i * 2, none⟩ = some (.int .i64 ((mkTo k0 ps ps.length).getD i (0, [])).1) ∧ w.cell? ⟨b, off + i * 2 + 1, none⟩ = some dv ∧ View w lo hi .u8 dv ((mkTo k0 ps ps.length).getD i (0, [])).2) :
    Calls Tryd.prog 36 #[.slice (some ⟨b, off, none⟩) ps.length cap, .int .i64 k0] w fun e w' => e = .returned (.int .i64 ((k0 + cnt ps : Nat) : Int)) ∧ Same w w' := by
  go_enter Tryd.func36, Tryd.ntmps36
  go_wp2
  go_loopw [1, 5] (fun q i wr => Same w wr ∧ ∃ k : Nat, k ≤ ps.length ∧ i = .int .i64 k ∧ q = .int .i64 ((k0 + cnt (ps.take k) : Nat) : Int)) (fun _ i _ => ps.length - (intOf i).toNat)
  case atStart => exact ⟨Same.refl _, 0, Nat.zero_le _, rfl, rfl⟩
  case round =>
    obtain ⟨hal, k, hk, rfl, rfl⟩ := hrel
    by_cases hlt : k < ps.length
    · obtain ⟨d1, c1, c2, v1⟩ := h1 k hlt
      clear h1
      rw [mkTo_getD _ _ _ _ hlt, if_pos hlt] at c1 v1
      unfold mkW at c1 v1
      have hcs := cnt_take_succ ps k hlt
      have hcl := cnt_take_le ps (k + 1)
      have c1 := (hal.cell _).trans c1
      have c2 := (hal.cell _).trans c2
      have v1 := v1.same hal
      have hik : (k : Int) < (ps.length : Int) := by omega
      generalize cnt (ps.take k) = c at *
      generalize (ps.getD k (0, [])).2.length = n at *
      have hbd : k0 + c + 1 + n ≤ 140737488355328 := by omega
      have Hcs : Hid (cnt (ps.take (k + 1)) = c + (n + 1)) := hcs
      clear hcs hcl
      go_wp2_with fail
      rw [show (k0 : Int) + (c : Int) + 1 = ((k0 + c + 1 : Nat) : Int) from by omega]
      refine (heldByteS_calls _ (k0 + c + 1) n (by omega) v1).mono ?_
      rintro e w1 ⟨rfl, hs⟩
      have hs' := hal.trans hs
      clear hs hal v1 c1 c2
      go_wp2
      go_roundw
      case rel => exact ⟨hs', k + 1, by omega, by go_num, by rw [Hcs.out]; go_num⟩
      case measure => simp [intOf]; omega
    · obtain rfl : k = ps.length := by omega
      clear h1
      rw [List.take_length]
      go_wp2
      go_ret
      exact ⟨rfl, hal⟩

set_option maxRecDepth 20000 in
set_option maxHeartbeats 400000 in
theorem heldWriteS_none (w : World) (ao : Option Addr) (k0 cap : Nat) :
    Calls Tryd.prog 36 #[.slice ao 0 cap, .int .i64 k0] w fun e w' => e = .returned (.int .i64 (k0 : Int)) ∧ Same w w' := by
  go_enter Tryd.func36, Tryd.ntmps36
  go_wp2
  refine wp_loop_rounds 1 ?_; rw [rounds_succ]
  go_wp2
  go_ret
  exact ⟨rfl, Same.refl _⟩

theorem heldWriteS_calls (w : World) {lo hi : Nat} {a : Value} (ps : List Wr) (k0 : Nat) (hk0 : k0 + cnt ps ≤ 140737488355328) (h1 : PView w lo hi a (mkTo k0 ps ps.length)) :
    Calls Tryd.prog 36 #[a, .int .i64 k0] w fun e w' => e = .returned (.int .i64 ((k0 + cnt ps : Nat) : Int)) ∧ Same w w' := by
  obtain ⟨ao, cap, rfl, hl, _, h1⟩ := h1
  rw [mkTo_length] at *
  rcases h1 with h1 | ⟨x, off, rfl, _, _, h1⟩
  · obtain rfl : ps = [] := by have := congrArg List.length h1; rw [mkTo_length] at this; exact List.eq_nil_of_length_eq_zero this
    exact heldWriteS_none w ao k0 cap
  · exact heldWriteS_some w ps k0 lo hi x off cap (by have := cnt_ge ps; omega) hk0 h1

set_option maxRecDepth 20000 in
set_option maxHeartbeats 1000000 in
theorem heldDisk_calls (w : World) {v : Value} (d : Dsk) (k0 : Nat) {lo hi : Nat} (hk0 : k0 + cntD d ≤ 140737488355328) (h1 : DView w lo hi v (mkD k0 d)) :
    Calls Tryd.prog 9 #[v, .int .i64 k0] w fun r w' => r = .returned (.int .i64 ((k0 + cntD d : Nat) : Int)) ∧ Chg 0 0 w w' := by
  obtain ⟨dv, pv, rfl, v1, p1⟩ := h1
  unfold cntD at hk0
  go_enter Tryd.func9, Tryd.ntmps9
  go_wp2_with fail
  refine (heldByteS_calls _ k0 d.dur.length (by omega) (v1.chg (Chg.alloc (Chg.refl 0 0 w) _) (by omega))).mono ?_
  rintro e w1 ⟨rfl, hs⟩
  have hc : Chg 0 0 w w1 := (Chg.alloc (Chg.refl 0 0 w) _).trans (hs.chg 0 0)
  have p1 := p1.chg hc (by omega)
  have cc := fun p => hs.cell p
  clear hs v1
  go_wp2_with fail
  refine (heldWriteS_calls _ d.pend (k0 + d.dur.length) (by omega) p1).mono ?_
  rintro e w2 ⟨rfl, hs⟩
  have hc2 := hc.trans (hs.chg 0 0)
  clear hs hc p1 cc
  go_wp2
  go_ret
  exact ⟨ret_int (by unfold cntD; omega), hc2⟩

end Go.Proofs.YtaciallijnhieaaDoor

namespace Go.Proofs.YtaciallijnhieaaDoor
open Go.ChangeShapes Go.WideShapes Go.ChangeAt Go.RowKit Go.Joins

theorem array3 {α : Type} {cs : Array α} (h : cs.size = 3) : ∃ c0 c1 c2, cs = #[c0, c1, c2] := by
  obtain ⟨l⟩ := cs
  match l, h with
  | [c0, c1, c2], _ => exact ⟨c0, c1, c2, rfl⟩

set_option maxRecDepth 20000 in
theorem geo_of_trod {H : Type} {enc : TypeId × Value → H} {W : World} {base : Nat} {v : Value} {dd : DataW H} {p : List MemPlace} (hv : Value.okWide Tryd.prog W .any base 23 v)
    (h : DataW.Trod enc Tryd.prog W 0 (fun _ => true) true 23 v dd p) : ∃ b l n : Int, v = .agg #[.int .i64 b, .int .i64 l, .int .i64 n] := by
  obtain ⟨cs, rfl, hsz⟩ := okWide_struct Tryd.underlying23 hv
  obtain ⟨c0, c1, c2, rfl⟩ := array3 (hsz.trans (by kernel_rfl))
  obtain ⟨fuel, hf⟩ := h
  obtain ⟨xs, n, _, _, _, hlen, hx⟩ := DataW.trod_struct Tryd.underlying23 hf
  match xs, hlen with
  | [y0, y1, y2], _ =>
  have hc : Tryd.prog.cellsOf 2 = 1 := by kernel_rfl
  have t0 := hx 0 _ rfl
  have t1 := hx 1 _ rfl
  have t2 := hx 2 _ rfl
  obtain ⟨q0, h0, _⟩ := DataW.trod_int Tryd.underlying2 t0
  obtain ⟨q1, h1, _⟩ := DataW.trod_int Tryd.underlying2 t1
  obtain ⟨q2, h2, _⟩ := DataW.trod_int Tryd.underlying2 t2
  simp [hc, Value.cells] at h0 h1 h2
  exact ⟨q0, q1, q2, by rw [h0, h1, h2]⟩

end Go.Proofs.YtaciallijnhieaaDoor

namespace Go.Proofs.YtaciallijnhieaaDoor
open Go.ChangeShapes Go.WideShapes Go.ChangeAt Go.RowKit
theorem own : ownKnob Tryd.prog.godebug = none := by kernel_rfl
theorem laidOut : laidOutB Tryd.prog = true := by kernel_rfl
end Go.Proofs.YtaciallijnhieaaDoor

namespace Go.Proofs.YtaciallijnhieaaDoor
open Go.ChangeShapes Go.WideShapes Go.RowKit

/-- The magic. -/
theorem sys_of_laid {W : World} {r : List (String × DataW Unit)} (h : laidMet Tryd.prog (("loop.example/s01525/impl.systemMagic", .agg [.lit (.int .u8 102), .lit (.int .u8 115), .lit (.int .u8 121), .lit (.int .u8 115)]) :: r) W) :
    W.cell? ⟨0, 0, none⟩ = some (.int .u8 102) ∧ W.cell? ⟨0, 1, none⟩ = some (.int .u8 115) ∧ W.cell? ⟨0, 2, none⟩ = some (.int .u8 121) ∧ W.cell? ⟨0, 3, none⟩ = some (.int .u8 115) := by
  obtain ⟨ps, ⟨g0, t0, cs0, f0, p0, q0, hg0, ht0, hv0, hd0, _, _⟩, _, _⟩ := h
  have eg : Tryd.prog.globalNamed "loop.example/s01525/impl.systemMagic" = some 0 := by kernel_rfl
  obtain rfl := Option.some.inj (eg.symm.trans hg0)
  have et : (Tryd.prog.globals[(0 : Nat)]?).map (·.type) = some 60 := by kernel_rfl
  obtain rfl := Option.some.inj (et.symm.trans ht0)
  obtain ⟨xs, m, _, ex, hl, hn, hi⟩ := DataW.trod_array Tryd.underlying60 hd0
  have c1 : Tryd.prog.cellsOf 5 = 1 := by kernel_rfl
  rw [c1] at hi
  simp only [Nat.mul_one] at hi
  have hx : (xs.map (·.1)) = [.lit (.int .u8 102), .lit (.int .u8 115), .lit (.int .u8 121), .lit (.int .u8 115)] := by
    have := congrArg Prod.fst ex
    simpa using this.symm
  have cell : ∀ i n, i < 4 → (xs.map (·.1))[i]? = some (.lit (.int .u8 n)) → cs0[i]? = some (.int .u8 n) := by
    intro i n h4 hxi
    rw [List.getElem?_map] at hxi
    cases hxe : xs[i]? with
    | none => rw [hxe] at hxi; cases hxi
    | some x =>
      rw [hxe] at hxi
      have h1 := hi i h4
      rw [hxe] at h1
      obtain ⟨k, ek, ed, _⟩ := DataW.trod_int Tryd.underlying5 h1
      simp only [Option.map_some, Option.some.injEq] at hxi
      rw [ed] at hxi
      simp only [DataW.lit.injEq, Lit.int.injEq, true_and] at hxi
      have h0 : ((cs0.toList.drop i).take 1)[0]? = some (.int .u8 k) := by rw [ek]; rfl
      rw [List.getElem?_take, if_pos (by omega), List.getElem?_drop, Nat.add_zero, Array.getElem?_toList] at h0
      rw [h0, hxi]
  have v := fun i => World.var?_cell hg0 hv0 i
  refine ⟨?_, ?_, ?_, ?_⟩
  · rw [v 0]; exact cell 0 102 (by omega) (by rw [hx]; rfl)
  · rw [v 1]; exact cell 1 115 (by omega) (by rw [hx]; rfl)
  · rw [v 2]; exact cell 2 121 (by omega) (by rw [hx]; rfl)
  · rw [v 3]; exact cell 3 115 (by omega) (by rw [hx]; rfl)

end Go.Proofs.YtaciallijnhieaaDoor

namespace Go.Proofs.YtaciallijnhieaaDoor
open Go.ChangeShapes Go.WideShapes Go.RowKit

/-- The magic. -/
theorem jour_of_laid {W : World} {r : List (String × DataW Unit)} (h : laidMet Tryd.prog (("loop.example/s01525/impl.journalMagic", .agg [.lit (.int .u8 106), .lit (.int .u8 108), .lit (.int .u8 111), .lit (.int .u8 103)]) :: r) W) :
    W.cell? ⟨1, 0, none⟩ = some (.int .u8 106) ∧ W.cell? ⟨1, 1, none⟩ = some (.int .u8 108) ∧ W.cell? ⟨1, 2, none⟩ = some (.int .u8 111) ∧ W.cell? ⟨1, 3, none⟩ = some (.int .u8 103) := by
  obtain ⟨ps, ⟨g0, t0, cs0, f0, p0, q0, hg0, ht0, hv0, hd0, _, _⟩, _, _⟩ := h
  have eg : Tryd.prog.globalNamed "loop.example/s01525/impl.journalMagic" = some 1 := by kernel_rfl
  obtain rfl := Option.some.inj (eg.symm.trans hg0)
  have et : (Tryd.prog.globals[(1 : Nat)]?).map (·.type) = some 60 := by kernel_rfl
  obtain rfl := Option.some.inj (et.symm.trans ht0)
  obtain ⟨xs, m, _, ex, hl, hn, hi⟩ := DataW.trod_array Tryd.underlying60 hd0
  have c1 : Tryd.prog.cellsOf 5 = 1 := by kernel_rfl
  rw [c1] at hi
  simp only [Nat.mul_one] at hi
  have hx : (xs.map (·.1)) = [.lit (.int .u8 106), .lit (.int .u8 108), .lit (.int .u8 111), .lit (.int .u8 103)] := by
    have := congrArg Prod.fst ex
    simpa using this.symm
  have cell : ∀ i n, i < 4 → (xs.map (·.1))[i]? = some (.lit (.int .u8 n)) → cs0[i]? = some (.int .u8 n) := by
    intro i n h4 hxi
    rw [List.getElem?_map] at hxi
    cases hxe : xs[i]? with
    | none => rw [hxe] at hxi; cases hxi
    | some x =>
      rw [hxe] at hxi
      have h1 := hi i h4
      rw [hxe] at h1
      obtain ⟨k, ek, ed, _⟩ := DataW.trod_int Tryd.underlying5 h1
      simp only [Option.map_some, Option.some.injEq] at hxi
      rw [ed] at hxi
      simp only [DataW.lit.injEq, Lit.int.injEq, true_and] at hxi
      have h0 : ((cs0.toList.drop i).take 1)[0]? = some (.int .u8 k) := by rw [ek]; rfl
      rw [List.getElem?_take, if_pos (by omega), List.getElem?_drop, Nat.add_zero, Array.getElem?_toList] at h0
      rw [h0, hxi]
  have v := fun i => World.var?_cell hg0 hv0 i
  refine ⟨?_, ?_, ?_, ?_⟩
  · rw [v 0]; exact cell 0 106 (by omega) (by rw [hx]; rfl)
  · rw [v 1]; exact cell 1 108 (by omega) (by rw [hx]; rfl)
  · rw [v 2]; exact cell 2 111 (by omega) (by rw [hx]; rfl)
  · rw [v 3]; exact cell 3 103 (by omega) (by rw [hx]; rfl)

end Go.Proofs.YtaciallijnhieaaDoor

namespace Go.Proofs.YtaciallijnhieaaDoor
open Go.ChangeShapes Go.WideShapes Go.ChangeAt Go.RowKit

theorem splice_up {xs ys : List Int} {o a c : Nat} (h : xs.length ≤ a) (h' : ys.length ≤ c) : (splice xs o ys).length ≤ a + c := by
  unfold splice; simp only [List.length_append, List.length_take, List.length_drop]; omega
theorem mkfsD_cnt (b l n : Int) : cntD (mkfsD b l n) ≤ 1048576 := by
  unfold mkfsD
  split
  · rename_i h
    obtain ⟨p, q, r, rfl, rfl, rfl, hg, hd⟩ := geo_nat h
    obtain ⟨h1, h2, h3, h4, h5, h6⟩ := id hg
    have e1 : upN p 512 = (p + 511) / 512 := rfl
    have e2 : upN (r * 32) 64 = (r * 32 + 63) / 64 := rfl
    have e3 : dataAt p q r = 3 + q + upN p 512 + upN (r * 32) 64 := rfl
    have hl : (mkfsN p q r).length ≤ p * 64 + 64 + 64 + 64 + 64 * upN p 512 + 64 := by
      unfold mkfsN mkDur
      refine splice_up (splice_up (splice_up (splice_up (splice_up (Nat.le_of_eq List.length_replicate) (Nat.le_of_eq (fsL_len hg))) (Nat.le_of_eq (mkJ_len (by omega) (by omega)))) (Nat.le_of_eq (inoMap_len (by omega)))) (Nat.le_of_eq (blkMap_len (by omega) (by omega) (by omega)))) (Nat.le_of_eq rootL_len)
    simp only [Int.toNat_natCast, cntD]
    have hp : cnt ([] : List Wr) = 0 := rfl
    rw [hp]
    omega
  · simp [Dsk.none, cntD, cnt]
theorem mkfs_fits {d : Dsk} (h : cntD d ≤ 1048576) : d.Fits := by
  unfold cntD at h
  have h1 := cnt_ge d.pend
  refine ⟨by omega, by omega, fun i hi => ?_⟩
  have := cnt_take_succ d.pend i hi
  have := cnt_take_le d.pend (i + 1)
  omega

set_option maxRecDepth 20000 in
set_option maxHeartbeats 4000000 in
theorem lawMkfs_walk (w : World) (b l n : Int) (hs : SysM w) (m0 : w.cell? ⟨1, 0, none⟩ = some (.int .u8 106)) (m1 : w.cell? ⟨1, 1, none⟩ = some (.int .u8 108)) (m2 : w.cell? ⟨1, 2, none⟩ = some (.int .u8 111)) (m3 : w.cell? ⟨1, 3, none⟩ = some (.int .u8 103)) :
    Calls Tryd.prog 3 #[geoV b l n] w fun e w' => e = .returned (.bool true) ∧ Below w.heap.size w w' := by
  have hcnt := mkfsD_cnt b l n
  have HS : Hid (∀ W, Calls Tryd.prog 4 #[geoV b l n] W fun e w' => ∃ v, e = .returned v ∧ OwnD w' W.heap.size w'.heap.size 105 5 v (mkfsD b l n) ∧ Chg 0 0 W w') := fun W => specMkfs_calls W b l n
  have HI : Hid (∀ W, Chg 0 0 w W → Calls Tryd.prog 6 #[geoV b l n] W fun e w' => ∃ v, e = .returned v ∧ OwnD w' W.heap.size w'.heap.size 105 5 v (mkfsD b l n) ∧ Chg 0 0 W w') := fun W h => implMkfs_calls W b l n (hs.chg h) (h.cell m0 (by omega)) (h.cell m1 (by omega)) (h.cell m2 (by omega)) (h.cell m3 (by omega))
  generalize mkfsD b l n = X at *
  have hfit := mkfs_fits hcnt
  have HFit : Hid X.Fits := hfit
  clear hs m0 m1 m2 m3 hfit
  have hA : Chg 0 0 w (w.alloc (.cells #[.int .i64 b, .int .i64 l, .int .i64 n] 23)) := Chg.alloc (Chg.refl 0 0 w) _
  have B0 := heap_new w (.cells #[.int .i64 b, .int .i64 l, .int .i64 n] 23)
  have s0 : (w.alloc (.cells #[.int .i64 b, .int .i64 l, .int .i64 n] 23)).heap.size = w.heap.size + 1 := by simp
  have HB0 : Hid ((w.alloc (.cells #[.int .i64 b, .int .i64 l, .int .i64 n] 23)).heap[w.heap.size]? = some (.cells #[.int .i64 b, .int .i64 l, .int .i64 n] 23 (0, 0))) := B0
  have HA0 : Hid (Chg 0 0 w (w.alloc (.cells #[.int .i64 b, .int .i64 l, .int .i64 n] 23))) := hA
  clear hA B0
  obtain ⟨q0, q1, q2⟩ := geo3 HB0.out
  go_enter Tryd.func3, Tryd.ntmps3
  go_wp2_with fail
  clear q0 q1 q2
  generalize w.alloc (.cells #[.int .i64 b, .int .i64 l, .int .i64 n] 23) = w0 at *
  refine (toGeometry_calls _ b l n).mono ?_
  rintro e w1 ⟨rfl, h1⟩
  have HA1 : Hid (Chg 0 0 w w1) := HA0.out.trans h1
  have s1 := h1.size
  have HB1 : Hid (w1.heap[w.heap.size]? = some (.cells #[.int .i64 b, .int .i64 l, .int .i64 n] 23 (0, 0))) := (h1.block _ (by omega) (by omega)).trans HB0.out
  clear h1 HA0 HB0
  go_wp2_with fail
  refine (HS.out _).mono ?_
  rintro e w2 ⟨vs, rfl, os, h2⟩
  have HA2 : Hid (Chg 0 0 w w2) := HA1.out.trans h2
  have s2 := h2.size
  have HB2 : Hid (w2.heap[w.heap.size]? = some (.cells #[.int .i64 b, .int .i64 l, .int .i64 n] 23 (0, 0))) := (h2.block _ (by omega) (by omega)).trans HB1.out
  have VS2 : Hid (DView w2 w1.heap.size w2.heap.size vs X) := os.view HFit.out
  obtain ⟨sa, sl, sc, sa', sl', sc', rfl⟩ := os.agg
  clear os
  clear h2 HA1 HB1
  have h3 : Chg 0 0 w2 (w2.alloc (.cells #[.slice sa sl sc, .slice sa' sl' sc'] 27)) := Chg.alloc (Chg.refl 0 0 _) _
  have HA3 : Hid (Chg 0 0 w (w2.alloc (.cells #[.slice sa sl sc, .slice sa' sl' sc'] 27))) := HA2.out.trans h3
  have s3 : (w2.alloc (.cells #[.slice sa sl sc, .slice sa' sl' sc'] 27)).heap.size = w2.heap.size + 1 := by simp
  have HB3 : Hid ((w2.alloc (.cells #[.slice sa sl sc, .slice sa' sl' sc'] 27)).heap[w.heap.size]? = some (.cells #[.int .i64 b, .int .i64 l, .int .i64 n] 23 (0, 0))) := (h3.block _ (by omega) (by omega)).trans HB2.out
  have VS3 : Hid (DView (w2.alloc (.cells #[.slice sa sl sc, .slice sa' sl' sc'] 27)) w1.heap.size w2.heap.size (.agg #[.slice sa sl sc, .slice sa' sl' sc']) X) := VS2.out.chg h3 (by omega)
  have BS3 : Hid ((w2.alloc (.cells #[.slice sa sl sc, .slice sa' sl' sc'] 27)).heap[w2.heap.size]? = some (.cells #[.slice sa sl sc, .slice sa' sl' sc'] 27 (0, 0))) := heap_new _ _
  clear h3 HA2 HB2 VS2
  obtain ⟨q0, q1, q2⟩ := geo3 HB3.out
  go_wp2_with fail
  clear q0 q1 q2
  generalize w2.alloc (.cells #[.slice sa sl sc, .slice sa' sl' sc'] 27) = w3 at *
  refine (toGeometry_calls _ b l n).mono ?_
  rintro e w4 ⟨rfl, h4⟩
  have HA4 : Hid (Chg 0 0 w w4) := HA3.out.trans h4
  have s4 := h4.size
  have HB4 : Hid (w4.heap[w.heap.size]? = some (.cells #[.int .i64 b, .int .i64 l, .int .i64 n] 23 (0, 0))) := (h4.block _ (by omega) (by omega)).trans HB3.out
  have BS4 : Hid (w4.heap[w2.heap.size]? = some (.cells #[.slice sa sl sc, .slice sa' sl' sc'] 27 (0, 0))) := (h4.block _ (by omega) (by omega)).trans BS3.out
  have VS4 : Hid (DView w4 w1.heap.size w2.heap.size (.agg #[.slice sa sl sc, .slice sa' sl' sc']) X) := VS3.out.chg h4 (by omega)
  clear h4 HA3 HB3 BS3 VS3
  go_wp2_with fail
  refine (HI.out _ HA4.out).mono ?_
  rintro e w5 ⟨vg, rfl, og, h5⟩
  have HA5 : Hid (Chg 0 0 w w5) := HA4.out.trans h5
  have s5 := h5.size
  have HB5 : Hid (w5.heap[w.heap.size]? = some (.cells #[.int .i64 b, .int .i64 l, .int .i64 n] 23 (0, 0))) := (h5.block _ (by omega) (by omega)).trans HB4.out
  have BS5 : Hid (w5.heap[w2.heap.size]? = some (.cells #[.slice sa sl sc, .slice sa' sl' sc'] 27 (0, 0))) := (h5.block _ (by omega) (by omega)).trans BS4.out
  have VS5 : Hid (DView w5 w1.heap.size w2.heap.size (.agg #[.slice sa sl sc, .slice sa' sl' sc']) X) := VS4.out.chg h5 (by omega)
  have VG5 : Hid (DView w5 w4.heap.size w5.heap.size vg X) := og.view HFit.out
  obtain ⟨ga, gl, gc, ga', gl', gc', rfl⟩ := og.agg
  have HG5 : Hid (OwnD w5 w4.heap.size w5.heap.size 105 5 (.agg #[.slice ga gl gc, .slice ga' gl' gc']) X) := og
  clear og
  clear h5 HA4 HB4 BS4 VS4
  have h6 : Chg 0 0 w5 (w5.alloc (.cells #[.slice ga gl gc, .slice ga' gl' gc'] 27)) := Chg.alloc (Chg.refl 0 0 _) _
  have HA6 : Hid (Chg 0 0 w (w5.alloc (.cells #[.slice ga gl gc, .slice ga' gl' gc'] 27))) := HA5.out.trans h6
  have s6 : (w5.alloc (.cells #[.slice ga gl gc, .slice ga' gl' gc'] 27)).heap.size = w5.heap.size + 1 := by simp
  have HB6 : Hid ((w5.alloc (.cells #[.slice ga gl gc, .slice ga' gl' gc'] 27)).heap[w.heap.size]? = some (.cells #[.int .i64 b, .int .i64 l, .int .i64 n] 23 (0, 0))) := (h6.block _ (by omega) (by omega)).trans HB5.out
  have BS6 : Hid ((w5.alloc (.cells #[.slice ga gl gc, .slice ga' gl' gc'] 27)).heap[w2.heap.size]? = some (.cells #[.slice sa sl sc, .slice sa' sl' sc'] 27 (0, 0))) := (h6.block _ (by omega) (by omega)).trans BS5.out
  have VS6 : Hid (DView (w5.alloc (.cells #[.slice ga gl gc, .slice ga' gl' gc'] 27)) w1.heap.size w2.heap.size (.agg #[.slice sa sl sc, .slice sa' sl' sc']) X) := VS5.out.chg h6 (by omega)
  have VG6 : Hid (DView (w5.alloc (.cells #[.slice ga gl gc, .slice ga' gl' gc'] 27)) w4.heap.size w5.heap.size (.agg #[.slice ga gl gc, .slice ga' gl' gc']) X) := VG5.out.chg h6 (by omega)
  have HG6 : Hid (OwnD (w5.alloc (.cells #[.slice ga gl gc, .slice ga' gl' gc'] 27)) w4.heap.size w5.heap.size 105 5 (.agg #[.slice ga gl gc, .slice ga' gl' gc']) X) := HG5.out.chg h6 (by omega)
  have BG6 : Hid ((w5.alloc (.cells #[.slice ga gl gc, .slice ga' gl' gc'] 27)).heap[w5.heap.size]? = some (.cells #[.slice ga gl gc, .slice ga' gl' gc'] 27 (0, 0))) := heap_new _ _
  clear h6 HA5 HB5 BS5 VS5 VG5 HG5
  obtain ⟨x0, x1⟩ := two_first BG6.out
  obtain ⟨y0, y1⟩ := two_first BS6.out
  go_wp2_with fail
  clear x0 x1 y0 y1
  generalize w5.alloc (.cells #[.slice ga gl gc, .slice ga' gl' gc'] 27) = w6 at *
  refine (eqDisk_calls _ VG6.out VS6.out).mono ?_
  rintro e w7 ⟨rfl, h7⟩
  have HA7 : Hid (Chg 0 0 w w7) := HA6.out.trans h7
  have s7 := h7.size
  have HB7 : Hid (w7.heap[w.heap.size]? = some (.cells #[.int .i64 b, .int .i64 l, .int .i64 n] 23 (0, 0))) := (h7.block _ (by omega) (by omega)).trans HB6.out
  have BS7 : Hid (w7.heap[w2.heap.size]? = some (.cells #[.slice sa sl sc, .slice sa' sl' sc'] 27 (0, 0))) := (h7.block _ (by omega) (by omega)).trans BS6.out
  have BG7 : Hid (w7.heap[w5.heap.size]? = some (.cells #[.slice ga gl gc, .slice ga' gl' gc'] 27 (0, 0))) := (h7.block _ (by omega) (by omega)).trans BG6.out
  have VS7 : Hid (DView w7 w1.heap.size w2.heap.size (.agg #[.slice sa sl sc, .slice sa' sl' sc']) X) := VS6.out.chg h7 (by omega)
  have HG7 : Hid (OwnD w7 w4.heap.size w5.heap.size 105 5 (.agg #[.slice ga gl gc, .slice ga' gl' gc']) X) := HG6.out.chg h7 (by omega)
  clear h7 HA6 HB6 BS6 BG6 VS6 VG6 HG6
  obtain ⟨x0, x1⟩ := two_first BG7.out
  go_wp2_with fail
  clear x0 x1
  refine (markDisk_calls _ _ _ (by decide) 1 _ _ HFit.out (by omega) (by omega) HG7.out).mono ?_
  rintro e w8 ⟨rfl, om, h8⟩
  have HA8 : Hid (Chg 0 0 w w8) := HA7.out.step h8 (by have := HA7.out.size; omega)
  have s8 := h8.size
  have HB8 : Hid (w8.heap[w.heap.size]? = some (.cells #[.int .i64 b, .int .i64 l, .int .i64 n] 23 (0, 0))) := (h8.block _ (by omega) (by omega)).trans HB7.out
  have BS8 : Hid (w8.heap[w2.heap.size]? = some (.cells #[.slice sa sl sc, .slice sa' sl' sc'] 27 (0, 0))) := (h8.block _ (by omega) (by omega)).trans BS7.out
  have BG8 : Hid (w8.heap[w5.heap.size]? = some (.cells #[.slice ga gl gc, .slice ga' gl' gc'] 27 (0, 0))) := (h8.block _ (by omega) (by omega)).trans BG7.out
  have VS8 : Hid (DView w8 w1.heap.size w2.heap.size (.agg #[.slice sa sl sc, .slice sa' sl' sc']) X) := VS7.out.chg h8 (by omega)
  have VM8 : Hid (DView w8 w4.heap.size w5.heap.size (.agg #[.slice ga gl gc, .slice ga' gl' gc']) (mkD 1 X)) := om.view (mkD_fits HFit.out 1)
  clear om
  clear h8 HA7 HB7 BS7 BG7 VS7 HG7
  obtain ⟨x0, x1⟩ := two_first BG8.out
  go_wp2_with fail
  clear x0 x1
  refine (heldDisk_calls _ X 1 (by omega) VM8.out).mono ?_
  rintro e w9 ⟨rfl, h9⟩
  have HA9 : Hid (Chg 0 0 w w9) := HA8.out.trans h9
  have s9 := h9.size
  have HB9 : Hid (w9.heap[w.heap.size]? = some (.cells #[.int .i64 b, .int .i64 l, .int .i64 n] 23 (0, 0))) := (h9.block _ (by omega) (by omega)).trans HB8.out
  have BS9 : Hid (w9.heap[w2.heap.size]? = some (.cells #[.slice sa sl sc, .slice sa' sl' sc'] 27 (0, 0))) := (h9.block _ (by omega) (by omega)).trans BS8.out
  have BG9 : Hid (w9.heap[w5.heap.size]? = some (.cells #[.slice ga gl gc, .slice ga' gl' gc'] 27 (0, 0))) := (h9.block _ (by omega) (by omega)).trans BG8.out
  have VS9 : Hid (DView w9 w1.heap.size w2.heap.size (.agg #[.slice sa sl sc, .slice sa' sl' sc']) X) := VS8.out.chg h9 (by omega)
  clear h9 HA8 HB8 BS8 BG8 VS8 VM8
  have hne : (((1 + cntD X : Nat) : Int) != ((1 + cntD X : Nat) : Int)) = false := by simp
  have hk0 : ¬ (((1 + cntD X : Nat) : Int) < 0) := by omega
  obtain ⟨q0, q1, q2⟩ := geo3 HB9.out
  go_wp2_with fail
  clear q0 q1 q2
  clear hne hk0
  refine (toGeometry_calls _ b l n).mono ?_
  rintro e w10 ⟨rfl, h10⟩
  have HA10 : Hid (Chg 0 0 w w10) := HA9.out.trans h10
  have s10 := h10.size
  have HB10 : Hid (w10.heap[w.heap.size]? = some (.cells #[.int .i64 b, .int .i64 l, .int .i64 n] 23 (0, 0))) := (h10.block _ (by omega) (by omega)).trans HB9.out
  have BS10 : Hid (w10.heap[w2.heap.size]? = some (.cells #[.slice sa sl sc, .slice sa' sl' sc'] 27 (0, 0))) := (h10.block _ (by omega) (by omega)).trans BS9.out
  have BG10 : Hid (w10.heap[w5.heap.size]? = some (.cells #[.slice ga gl gc, .slice ga' gl' gc'] 27 (0, 0))) := (h10.block _ (by omega) (by omega)).trans BG9.out
  have VS10 : Hid (DView w10 w1.heap.size w2.heap.size (.agg #[.slice sa sl sc, .slice sa' sl' sc']) X) := VS9.out.chg h10 (by omega)
  clear h10 HA9 HB9 BS9 BG9 VS9
  go_wp2_with fail
  refine (HI.out _ HA10.out).mono ?_
  rintro e w11 ⟨vh, rfl, oh, h11⟩
  have HA11 : Hid (Chg 0 0 w w11) := HA10.out.trans h11
  have s11 := h11.size
  have HB11 : Hid (w11.heap[w.heap.size]? = some (.cells #[.int .i64 b, .int .i64 l, .int .i64 n] 23 (0, 0))) := (h11.block _ (by omega) (by omega)).trans HB10.out
  have BS11 : Hid (w11.heap[w2.heap.size]? = some (.cells #[.slice sa sl sc, .slice sa' sl' sc'] 27 (0, 0))) := (h11.block _ (by omega) (by omega)).trans BS10.out
  have BG11 : Hid (w11.heap[w5.heap.size]? = some (.cells #[.slice ga gl gc, .slice ga' gl' gc'] 27 (0, 0))) := (h11.block _ (by omega) (by omega)).trans BG10.out
  have VS11 : Hid (DView w11 w1.heap.size w2.heap.size (.agg #[.slice sa sl sc, .slice sa' sl' sc']) X) := VS10.out.chg h11 (by omega)
  have VH11 : Hid (DView w11 w10.heap.size w11.heap.size vh X) := oh.view HFit.out
  obtain ⟨ha, hl, hc, ha', hl', hc', rfl⟩ := oh.agg
  clear oh
  clear h11 HA10 HB10 BS10 BG10 VS10
  have h12 : Chg 0 0 w11 (w11.alloc (.cells #[.slice ha hl hc, .slice ha' hl' hc'] 27)) := Chg.alloc (Chg.refl 0 0 _) _
  have HA12 : Hid (Chg 0 0 w (w11.alloc (.cells #[.slice ha hl hc, .slice ha' hl' hc'] 27))) := HA11.out.trans h12
  have s12 : (w11.alloc (.cells #[.slice ha hl hc, .slice ha' hl' hc'] 27)).heap.size = w11.heap.size + 1 := by simp
  have HB12 : Hid ((w11.alloc (.cells #[.slice ha hl hc, .slice ha' hl' hc'] 27)).heap[w.heap.size]? = some (.cells #[.int .i64 b, .int .i64 l, .int .i64 n] 23 (0, 0))) := (h12.block _ (by omega) (by omega)).trans HB11.out
  have BS12 : Hid ((w11.alloc (.cells #[.slice ha hl hc, .slice ha' hl' hc'] 27)).heap[w2.heap.size]? = some (.cells #[.slice sa sl sc, .slice sa' sl' sc'] 27 (0, 0))) := (h12.block _ (by omega) (by omega)).trans BS11.out
  have BG12 : Hid ((w11.alloc (.cells #[.slice ha hl hc, .slice ha' hl' hc'] 27)).heap[w5.heap.size]? = some (.cells #[.slice ga gl gc, .slice ga' gl' gc'] 27 (0, 0))) := (h12.block _ (by omega) (by omega)).trans BG11.out
  have VS12 : Hid (DView (w11.alloc (.cells #[.slice ha hl hc, .slice ha' hl' hc'] 27)) w1.heap.size w2.heap.size (.agg #[.slice sa sl sc, .slice sa' sl' sc']) X) := VS11.out.chg h12 (by omega)
  have VH12 : Hid (DView (w11.alloc (.cells #[.slice ha hl hc, .slice ha' hl' hc'] 27)) w10.heap.size w11.heap.size (.agg #[.slice ha hl hc, .slice ha' hl' hc']) X) := VH11.out.chg h12 (by omega)
  have BH12 : Hid ((w11.alloc (.cells #[.slice ha hl hc, .slice ha' hl' hc'] 27)).heap[w11.heap.size]? = some (.cells #[.slice ha hl hc, .slice ha' hl' hc'] 27 (0, 0))) := heap_new _ _
  clear h12 HA11 HB11 BS11 BG11 VS11 VH11
  obtain ⟨x0, x1⟩ := two_first BH12.out
  obtain ⟨y0, y1⟩ := two_first BS12.out
  go_wp2_with fail
  clear x0 x1 y0 y1
  generalize w11.alloc (.cells #[.slice ha hl hc, .slice ha' hl' hc'] 27) = w12 at *
  refine (eqDisk_calls _ VH12.out VS12.out).mono ?_
  rintro e w13 ⟨rfl, h13⟩
  have HA13 : Hid (Chg 0 0 w w13) := HA12.out.trans h13
  have s13 := h13.size
  have HB13 : Hid (w13.heap[w.heap.size]? = some (.cells #[.int .i64 b, .int .i64 l, .int .i64 n] 23 (0, 0))) := (h13.block _ (by omega) (by omega)).trans HB12.out
  have BS13 : Hid (w13.heap[w2.heap.size]? = some (.cells #[.slice sa sl sc, .slice sa' sl' sc'] 27 (0, 0))) := (h13.block _ (by omega) (by omega)).trans BS12.out
  have BG13 : Hid (w13.heap[w5.heap.size]? = some (.cells #[.slice ga gl gc, .slice ga' gl' gc'] 27 (0, 0))) := (h13.block _ (by omega) (by omega)).trans BG12.out
  have BH13 : Hid (w13.heap[w11.heap.size]? = some (.cells #[.slice ha hl hc, .slice ha' hl' hc'] 27 (0, 0))) := (h13.block _ (by omega) (by omega)).trans BH12.out
  have VS13 : Hid (DView w13 w1.heap.size w2.heap.size (.agg #[.slice sa sl sc, .slice sa' sl' sc']) X) := VS12.out.chg h13 (by omega)
  have VH13 : Hid (DView w13 w10.heap.size w11.heap.size (.agg #[.slice ha hl hc, .slice ha' hl' hc']) X) := VH12.out.chg h13 (by omega)
  clear h13 HA12 HB12 BS12 BG12 BH12 VS12 VH12
  go_wp2
  go_ret
  exact ⟨rfl, HA13.out.below (by omega)⟩

/-- What the row lists. -/
abbrev lt : List (String × DataW Unit) := Rows.fnExactMkfsRow.laid

theorem jour_of_row {W : World} (h : laidMetH Tryd.prog lt W) :
    W.cell? ⟨1, 0, none⟩ = some (.int .u8 106) ∧ W.cell? ⟨1, 1, none⟩ = some (.int .u8 108) ∧ W.cell? ⟨1, 2, none⟩ = some (.int .u8 111) ∧ W.cell? ⟨1, 3, none⟩ = some (.int .u8 103) := by
  have h' : laidMet Tryd.prog [("loop.example/s01525/impl.journalMagic", Rows.laid_loop_example_s01525_impl_journalMagic), ("loop.example/s01525/impl.systemMagic", Rows.laid_loop_example_s01525_impl_systemMagic)] W := h
  exact jour_of_laid h'
theorem sys_of_row {W : World} (h : laidMetH Tryd.prog lt W) : SysM W := by
  have h' : laidMet Tryd.prog [("loop.example/s01525/impl.journalMagic", Rows.laid_loop_example_s01525_impl_journalMagic), ("loop.example/s01525/impl.systemMagic", Rows.laid_loop_example_s01525_impl_systemMagic)] W := h
  exact sys_of_laid h'.tail

/-- A world that meets the condition. -/
noncomputable def laidWorld (os : Os) : World :=
  let w0 := World.holding Tryd.prog os ⟨#[], #[], []⟩
  { w0 with heap := (w0.heap.modify 0 fun
      | .cells _ t frozen => .cells #[.int .u8 102, .int .u8 115, .int .u8 121, .int .u8 115] t frozen
      | o => o).modify 1 fun
      | .cells _ t frozen => .cells #[.int .u8 106, .int .u8 108, .int .u8 111, .int .u8 103] t frozen
      | o => o }

theorem laidWorld_met (os : Os) (args : Array Value) : laidMetH Tryd.prog lt ((laidWorld os).forCall (fun _ _ => 0) ⟨#[], args, []⟩).memory :=
  laidMetH_of_parts (laidMet_of_run (ps := [.cell 1 0, .cell 1 1, .cell 1 2, .cell 1 3, .cell 0 0, .cell 0 1, .cell 0 2, .cell 0 3]) 8 (by kernel_rfl) (by kernel_rfl) (by kernel_rfl)) (by kernel_rfl)

set_option maxRecDepth 100000 in
theorem lawMkfs_lifted (os : Os) (started : os.Started) (H : Type) (enc : TypeId × Value → H) :
    ReturnsInHanded {} Tryd.checked os 3 .any (fun w args => (Rows.fnExactMkfsSpec.pre enc Tryd.prog Tryd.f3 [] false w args ∧ laidMetH Tryd.prog lt w) ∧ sizedMet enc Tryd.prog Tryd.f3 (OpenSpec.ofChange Rows.fnExactMkfsSpec) false w args)
      (Rows.fnExactMkfsSpec.post enc Tryd.prog Tryd.f3 false true false false) := by
  refine returnsInHanded_of_change_and (C := Tryd.checked) (X := fun w _ => laidMetH Tryd.prog lt w) (fun _ _ _ hh h => h.of_heap hh) own started (by kernel_rfl) Tryd.func3
    (ChangeSpec.witness_at (enc := enc) (C := Tryd.checked) (os := os) (X := fun w _ => laidMetH Tryd.prog lt w) false (laidWorld os) #[.agg #[.int .i64 0, .int .i64 0, .int .i64 0]] 8 rfl (by kernel_rfl) (by kernel_rfl) (by kernel_rfl) (by kernel_rfl) (by kernel_rfl) (laidWorld_met os _)) ?_
  intro W base args ds gs before hval0 hW _ _ hL _
  have hval : ∀ (j : Nat) t v, Tryd.f3.params[j]? = some t → args[j]? = some v → Value.okWide Tryd.prog W .any base t v := hval0
  have hW' := hW
  obtain ⟨p, q, hA0, hV0, rfl, hfz, hnd⟩ := hW
  have hA : DataW.TrodAll enc Tryd.prog W 0 (fun _ => true) true Tryd.f3.params.toList args.toList ds p := hA0
  rw [Tryd.params3] at hA hval
  obtain ⟨v0, vs0, d0, ds0, p0, q0, hargs, rfl, rfl, h0, r0⟩ := trodAll_cons hA
  obtain ⟨rfl, rfl, rfl⟩ := trodAll_nil r0
  obtain rfl : args = #[v0] := by cases args; simp_all
  obtain ⟨g1, g2, rfl⟩ : ∃ g1 g2, gs = [g1, g2] := by
    match gs, hV0 with
    | [g1, g2], _ => exact ⟨g1, g2, rfl⟩
  have k0 := h0
  have lt0 : ∀ x ∈ p0, x.block < W.heap.size := by obtain ⟨m, hm⟩ := k0; exact DataW.trod_lt m _ _ _ hm
  obtain ⟨b, l, n, rfl⟩ := geo_of_trod (hval 0 23 v0 rfl rfl) h0
  clear hA0 hval0
  obtain ⟨m0, m1, m2, m3⟩ := jour_of_row hL
  refine (lawMkfs_walk W b l n (sys_of_row hL) m0 m1 m2 m3).mono fun e W' ⟨he, bel⟩ => ?_
  subst he
  exact ⟨_, rfl, _, _, _, [], _, _, hW', trodAll_mk1 (shut_bool Tryd.underlying4 _), (trodAll_cons_mk (Below.trod laidOut (by kernel_rfl) (of_decide_eq_true (by kernel_rfl)) k0 bel lt0) trodAll_mk0), Below.trodVars laidOut bel (by kernel_rfl) hV0, bel.frame _, fun h => by cases h⟩

theorem fnExactMkfs_row : Rows.FnExactMkfsSaid :=
  OpenClaim.holds_of_wide 3 Tryd.f3 rfl rfl rfl rfl rfl rfl rfl ⟨rfl, rfl, rfl, rfl, rfl⟩ rfl rfl rfl rfl rfl (by kernel_rfl) Tryd.func3 (by kernel_rfl)
    (of_decide_eq_true (by kernel_rfl)) (by unfold Func.isWrapper; first | (rw [if_pos (by decide +kernel)]; kernel_rfl) | (rw [if_neg (by decide +kernel)]; exact ⟨rfl, rfl⟩))
    (fun os started H enc _ => lawMkfs_lifted os started H enc)
#print axioms fnExactMkfs_row
end Go.Proofs.YtaciallijnhieaaDoor
