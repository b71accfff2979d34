/- Several short texts in one: MkBoth, Eq, MarkB. -/
import Derived.Test.YtmfkgnifkkkkiaaDoorSpecMk
import Derived.Test.YtmfkgnifkkkkiaaDoorRows
import Derived.Test.YtmfkgnifkkkkiaaDoorMem
import Derived.Deep.RegionWith
namespace Go.Proofs.YtmfkgnifkkkkiaaDoor
open Go.RowKit

set_option maxRecDepth 20000 in
set_option maxHeartbeats 1000000 in
theorem implMk_bad (w : World) (b l n : Int) (hv : geoB b l n = false) :
    Calls Tryd.prog 6 #[geoV b l n] w fun e w' => ∃ v, e = .returned v ∧ OwnD w' w.heap.size w'.heap.size 105 5 v Dsk.none ∧ Chg 0 0 w w' := by
  have hA : Chg 0 0 w ((w.alloc (.cells #[.int .i64 b, .int .i64 l, .int .i64 n] 29)).alloc (.cells #[.slice none 0 0, .slice none 0 0] 27)) := (Chg.alloc (Chg.refl 0 0 w) _).alloc _
  obtain ⟨z, b0, b1⟩ := alloc2 w (.cells #[.int .i64 b, .int .i64 l, .int .i64 n] 29) (.cells #[.slice none 0 0, .slice none 0 0] 27)
  have hN := implValidGeometry_calls ((w.alloc (.cells #[.int .i64 b, .int .i64 l, .int .i64 n] 29)).alloc (.cells #[.slice none 0 0, .slice none 0 0] 27)) b l n
  rw [hv] at hN
  clear hv
  go_enter Tryd.func6, Tryd.ntmps6
  go_wp2_with fail
  generalize (w.alloc (.cells #[.int .i64 b, .int .i64 l, .int .i64 n] 29)).alloc (.cells #[.slice none 0 0, .slice none 0 0] 27) = w0 at *
  refine hN.mono ?_
  rintro e w1 ⟨rfl, h1⟩
  have B1 := (h1.block (w.heap.size + 1) (by omega) (by omega)).trans b1
  have s1 := h1.size
  have hC := hA.trans h1
  obtain ⟨y0, y1, yf0, yf1⟩ := two_cells B1
  have HC : Hid (Chg 0 0 w ((w1.setCell ⟨w.heap.size + 1, 0, none⟩ (.slice none 0 0)).setCell ⟨w.heap.size + 1, 1, none⟩ (.slice none 0 0))) := hC.step (Chg.set2 _ _ _ _) (by omega)
  clear hN h1 b0 b1 hA hC B1
  go_wp2
  exact bodyPost_ret (v := .agg #[.slice none 0 0, .slice none 0 0]) (by simp [results, Tryd.results6, go_sem, y0, y1]) rfl ⟨_, rfl, OwnD.none _ _ _ _ _, HC.out⟩

set_option maxRecDepth 20000 in
set_option maxHeartbeats 1000000 in
theorem specMk_bad (w : World) (b l n : Int) (hv : geoB b l n = false) :
    Calls Tryd.prog 4 #[geoV b l n] w fun e w' => ∃ v, e = .returned v ∧ OwnD w' w.heap.size w'.heap.size 105 5 v Dsk.none ∧ Chg 0 0 w w' := by
  have hA : Chg 0 0 w ((w.alloc (.cells #[.int .i64 b, .int .i64 l, .int .i64 n] 29)).alloc (.cells #[.slice none 0 0, .slice none 0 0] 27)) := (Chg.alloc (Chg.refl 0 0 w) _).alloc _
  obtain ⟨z, b0, b1⟩ := alloc2 w (.cells #[.int .i64 b, .int .i64 l, .int .i64 n] 29) (.cells #[.slice none 0 0, .slice none 0 0] 27)
  have hN := specValidGeometry_calls ((w.alloc (.cells #[.int .i64 b, .int .i64 l, .int .i64 n] 29)).alloc (.cells #[.slice none 0 0, .slice none 0 0] 27)) b l n
  rw [hv] at hN
  clear hv
  go_enter Tryd.func4, Tryd.ntmps4
  go_wp2_with fail
  generalize (w.alloc (.cells #[.int .i64 b, .int .i64 l, .int .i64 n] 29)).alloc (.cells #[.slice none 0 0, .slice none 0 0] 27) = w0 at *
  refine hN.mono ?_
  rintro e w1 ⟨rfl, h1⟩
  have B1 := (h1.block (w.heap.size + 1) (by omega) (by omega)).trans b1
  have s1 := h1.size
  have hC := hA.trans h1
  obtain ⟨y0, y1, yf0, yf1⟩ := two_cells B1
  have HC : Hid (Chg 0 0 w ((w1.setCell ⟨w.heap.size + 1, 0, none⟩ (.slice none 0 0)).setCell ⟨w.heap.size + 1, 1, none⟩ (.slice none 0 0))) := hC.step (Chg.set2 _ _ _ _) (by omega)
  clear hN h1 b0 b1 hA hC B1
  go_wp2
  exact bodyPost_ret (v := .agg #[.slice none 0 0, .slice none 0 0]) (by simp [results, Tryd.results4, go_sem, y0, y1]) rfl ⟨_, rfl, OwnD.none _ _ _ _ _, HC.out⟩

/-- The disk that Mkfs makes. -/
def mkfsN (b l n : Nat) : List Int := mkDur b l n (2 + l) (3 + l) (upN b 512) (3 + l + upN b 512) (dataAt b l n)
def mkfsD (b l n : Int) : Dsk := if geoB b l n = true then ⟨mkfsN b.toNat l.toNat n.toNat, []⟩ else Dsk.none

theorem geo_nat {b l n : Int} (h : geoB b l n = true) : ∃ p q r : Nat, b = p ∧ l = q ∧ n = r ∧ GeoIn (p : Int) (q : Int) (r : Int) ∧ dataAt p q r < p := by
  have hb := geo_in h
  obtain ⟨h1, h2, h3, h4, h5, h6⟩ := id hb
  refine ⟨b.toNat, l.toNat, n.toNat, by omega, by omega, by omega, ?_, ?_⟩
  · exact ⟨by omega, by omega, by omega, by omega, by omega, by omega⟩
  · unfold geoB at h; rw [Bool.and_eq_true, decide_eq_true_eq, decide_eq_true_eq] at h; exact h.2
theorem mkfsD_yes {p q r : Nat} (h : geoB p q r = true) : mkfsD p q r = ⟨mkfsN p q r, []⟩ := by unfold mkfsD; rw [if_pos h]; simp

theorem specMkfs_calls (w : World) (b l n : Int) :
    Calls Tryd.prog 4 #[geoV b l n] w fun e w' => ∃ v, e = .returned v ∧ OwnD w' w.heap.size w'.heap.size 105 5 v (mkfsD b l n) ∧ Chg 0 0 w w' := by
  cases h : geoB b l n with
  | false => unfold mkfsD; rw [h]; exact specMk_bad w b l n h
  | true =>
    obtain ⟨p, q, r, rfl, rfl, rfl, hg, hd⟩ := geo_nat h
    obtain ⟨h1, h2, h3, h4, h5, h6⟩ := id hg
    have e1 : upN p 512 = (p + 511) / 512 := rfl
    have e2 : upN (r * 32) 64 = (r * 32 + 63) / 64 := rfl
    have e3 : dataAt p q r = 3 + q + upN p 512 + upN (r * 32) 64 := rfl
    rw [mkfsD_yes h]
    exact specMk_good w p q r (2 + q) (3 + q) (upN p 512) (3 + q + upN p 512) (upN (r * 32) 64) (dataAt p q r) ((p : Int) - dataAt p q r) hg h rfl rfl (by omega) rfl (by omega) hd (by omega) (by omega) (by omega)
theorem implMkfs_calls (w : World) (b l n : Int) (hs : SysM w) (m0 : w.cell? ⟨1, 0, none⟩ = some (.int .u8 106)) (m1 : w.cell? ⟨1, 1, none⟩ = some (.int .u8 108)) (m2 : w.cell? ⟨1, 2, none⟩ = some (.int .u8 111)) (m3 : w.cell? ⟨1, 3, none⟩ = some (.int .u8 103)) :
    Calls Tryd.prog 6 #[geoV b l n] w fun e w' => ∃ v, e = .returned v ∧ OwnD w' w.heap.size w'.heap.size 105 5 v (mkfsD b l n) ∧ Chg 0 0 w w' := by
  cases h : geoB b l n with
  | false => unfold mkfsD; rw [h]; exact implMk_bad w b l n h
  | true =>
    obtain ⟨p, q, r, rfl, rfl, rfl, hg, hd⟩ := geo_nat h
    obtain ⟨h1, h2, h3, h4, h5, h6⟩ := id hg
    have e1 : upN p 512 = (p + 511) / 512 := rfl
    have e2 : upN (r * 32) 64 = (r * 32 + 63) / 64 := rfl
    have e3 : dataAt p q r = 3 + q + upN p 512 + upN (r * 32) 64 := rfl
    rw [mkfsD_yes h]
    exact mkfs_good w p q r (2 + q) (3 + q) (upN p 512) (3 + q + upN p 512) (upN (r * 32) 64) (dataAt p q r) ((p : Int) - dataAt p q r) hg h rfl rfl (by omega) rfl (by omega) hd (by omega) (by omega) (by omega) hs m0 m1 m2 m3

end Go.Proofs.YtmfkgnifkkkkiaaDoor

namespace Go.Proofs.YtmfkgnifkkkkiaaDoor
open Go.RowKit

set_option maxRecDepth 20000 in
set_option maxHeartbeats 400000 in
theorem eqByteS_some (w : World) (xs : List Int) (b off b' off' cap cap' : Nat) (hl : xs.length ≤ 9223372036854775807)
    (h1 : ∀ i, i < xs.length → w.cell? ⟨b, off + i, none⟩ = some (.int .u8 (xs.getD i 0)))
    (h2 : ∀ i, i < xs.length → w.cell? ⟨b', off' + i, none⟩ = some (.int .u8 (xs.getD i 0))) :
    Calls Tryd.prog 31 #[.slice (some ⟨b, off, none⟩) xs.length cap, .slice (some ⟨b', off', none⟩) xs.length cap'] w fun e w' => e = .returned (.bool true) ∧ Same w w' := by
  have hne : ((xs.length : Int) != (xs.length : Int)) = false := by simp
  go_enter Tryd.func31, Tryd.ntmps31
  go_wp2
  go_loopw [5] (fun i wr => Same w wr ∧ ∃ k : Nat, k ≤ xs.length ∧ i = .int .i64 k) (fun i _ => xs.length - (intOf i).toNat)
  case atStart => exact ⟨Same.refl _, 0, Nat.zero_le _, rfl⟩
  case round =>
    obtain ⟨hal, k, hk, rfl⟩ := hrel
    have e1 : ∀ a, wr.cell? a = w.cell? a := fun a => hal.cell a
    by_cases hlt : k < xs.length
    · have c1 : wr.cell? ⟨b, off + k, none⟩ = some (.int .u8 (xs.getD k 0)) := (e1 _).trans (h1 k hlt)
      have c2 : wr.cell? ⟨b', off' + k, none⟩ = some (.int .u8 (xs.getD k 0)) := (e1 _).trans (h2 k hlt)
      clear e1
      have hi : (k : Int) < (xs.length : Int) := by omega
      go_wp2
      go_quiet (fail)
      go_wp2
      go_roundw
      case rel => exact ⟨hal.drewN _, k + 1, by omega, by go_num⟩
      case measure => simp [intOf]; omega
    · clear e1
      go_wp2
      go_ret
      exact ⟨rfl, hal⟩

set_option maxRecDepth 20000 in
set_option maxHeartbeats 400000 in
theorem eqByteS_none (w : World) (ao bo : Option Addr) (cap cap' : Nat) :
    Calls Tryd.prog 31 #[.slice ao 0 cap, .slice bo 0 cap'] w fun e w' => e = .returned (.bool true) ∧ Same w w' := by
  go_enter Tryd.func31, Tryd.ntmps31
  go_wp2
  refine wp_loop_rounds 1 ?_; rw [rounds_succ]
  go_wp2
  go_ret
  exact ⟨rfl, Same.refl _⟩

theorem eqByteS_calls (w : World) {lo hi lo' hi' : Nat} {a b : Value} {xs : List Int} (h1 : View w lo hi .u8 a xs) (h2 : View w lo' hi' .u8 b xs) :
    Calls Tryd.prog 31 #[a, b] w fun e w' => e = .returned (.bool true) ∧ Same w w' := by
  obtain ⟨ao, cap, rfl, hl, _, h1⟩ := h1
  obtain ⟨bo, cap', rfl, _, _, h2⟩ := h2
  rcases h1 with rfl | ⟨x, off, rfl, _, _, h1⟩
  · exact eqByteS_none w ao bo cap cap'
  · rcases h2 with rfl | ⟨y, off', rfl, _, _, h2⟩
    · exact eqByteS_none w _ bo cap cap'
    · exact eqByteS_some w xs x off y off' cap cap' hl h1 h2

set_option maxRecDepth 20000 in
set_option maxHeartbeats 400000 in
theorem eqWrite_calls (w : World) {lo hi lo' hi' : Nat} (q : Int) {a b : Value} {xs : List Int} (h1 : View w lo hi .u8 a xs) (h2 : View w lo' hi' .u8 b xs) :
    Calls Tryd.prog 58 #[.agg #[.int .i64 q, a], .agg #[.int .i64 q, b]] w fun e w' => e = .returned (.bool true) ∧ Chg 0 0 w w' := by
  have hne : (q != q) = false := by simp
  go_enter Tryd.func58, Tryd.ntmps58
  go_wp2_with fail
  refine (eqByteS_calls _ (h1.chg ((Chg.alloc (Chg.refl 0 0 w) _).alloc _) (by omega)) (h2.chg ((Chg.alloc (Chg.refl 0 0 w) _).alloc _) (by omega))).mono ?_
  rintro e w1 ⟨rfl, hs⟩
  have hc : Chg 0 0 w w1 := ((Chg.alloc (Chg.refl 0 0 w) _).alloc _).trans (hs.chg 0 0)
  clear hs
  go_wp2
  go_ret
  exact ⟨rfl, hc⟩

set_option maxRecDepth 20000 in
set_option maxHeartbeats 1000000 in
theorem eqWriteS_some (w : World) (ps : List Wr) (lo hi lo' hi' b off b' off' cap cap' : Nat) (hl : ps.length ≤ 9223372036854775807)
    (h1 : ∀ i, i < ps.length → ∃ dv, w.cell? ⟨b, off + i * 2, none⟩ = some (.int .i64 (ps.getD i (0, [])).1) ∧ w.cell? ⟨b, off + i * 2 + 1, none⟩ = some dv ∧ View w lo hi .u8 dv (ps.getD i (0, [])).2)
    (h2 : ∀ i, i < ps.length → ∃ dv, w.cell? ⟨b', off' + i * 2, none⟩ = some (.int .i64 (ps.getD i (0, [])).1) ∧ w.cell? ⟨b', off' + i * 2 + 1, none⟩ = some dv ∧ View w lo' hi' .u8 dv (ps.getD i (0, [])).2) :
    Calls Tryd.prog 32 #[.slice (some ⟨b, off, none⟩) ps.length cap, .slice (some ⟨b', off', none⟩) ps.length cap'] w fun e w' => e = .returned (.bool true) ∧ Chg 0 0 w w' := by
  have hne : ((ps.length : Int) != (ps.length : Int)) = false := by simp
  go_enter Tryd.func32, Tryd.ntmps32
  go_wp2
  go_loopw [5] (fun i wr => Chg 0 0 w wr ∧ ∃ k : Nat, k ≤ ps.length ∧ i = .int .i64 k) (fun i _ => ps.length - (intOf i).toNat)
  case atStart => exact ⟨Chg.refl _ _ _, 0, Nat.zero_le _, rfl⟩
  case round =>
    obtain ⟨hch, k, hk, rfl⟩ := hrel
    by_cases hlt : k < ps.length
    · obtain ⟨d1, c1, c2, v1⟩ := h1 k hlt
      obtain ⟨d2, c3, c4, v2⟩ := h2 k hlt
      clear h1 h2
      generalize (ps.getD k (0, [])).1 = q at *
      generalize (ps.getD k (0, [])).2 = xs at *
      have c1 := hch.cell c1 (by omega)
      have c2 := hch.cell c2 (by omega)
      have c3 := hch.cell c3 (by omega)
      have c4 := hch.cell c4 (by omega)
      have v1 := v1.chg hch (by omega)
      have v2 := v2.chg hch (by omega)
      have hi : (k : Int) < (ps.length : Int) := by omega
      go_wp2
      go_region_with (go_at_call 58; refine (eqWrite_calls _ q (v1.chg (Chg.drew (Chg.refl 0 0 _)) (by omega)) (v2.chg (Chg.drew (Chg.refl 0 0 _)) (by omega))).mono ?_; rintro e w1 ⟨rfl, hs⟩)
      all_goals
        have hch' : Chg 0 0 w w1 := hch.drew.trans hs
        clear hs hch
        go_wp2
        go_roundw
        case rel => exact ⟨hch', k + 1, by omega, by go_num⟩
        case measure => simp [intOf]; omega
    · clear h1 h2
      go_wp2
      go_ret
      exact ⟨rfl, hch⟩

set_option maxRecDepth 20000 in
set_option maxHeartbeats 400000 in
theorem eqWriteS_none (w : World) (ao bo : Option Addr) (cap cap' : Nat) :
    Calls Tryd.prog 32 #[.slice ao 0 cap, .slice bo 0 cap'] w fun e w' => e = .returned (.bool true) ∧ Chg 0 0 w w' := by
  go_enter Tryd.func32, Tryd.ntmps32
  go_wp2
  refine wp_loop_rounds 1 ?_; rw [rounds_succ]
  go_wp2
  go_ret
  exact ⟨rfl, Chg.refl _ _ _⟩

theorem eqWriteS_calls (w : World) {lo hi lo' hi' : Nat} {a b : Value} {ps : List Wr} (h1 : PView w lo hi a ps) (h2 : PView w lo' hi' b ps) :
    Calls Tryd.prog 32 #[a, b] w fun e w' => e = .returned (.bool true) ∧ Chg 0 0 w w' := by
  obtain ⟨ao, cap, rfl, hl, _, h1⟩ := h1
  obtain ⟨bo, cap', rfl, _, _, h2⟩ := h2
  rcases h1 with rfl | ⟨x, off, rfl, _, _, h1⟩
  · exact eqWriteS_none w ao bo cap cap'
  · rcases h2 with rfl | ⟨y, off', rfl, _, _, h2⟩
    · exact eqWriteS_none w _ bo cap cap'
    · exact eqWriteS_some w ps lo hi lo' hi' x off y off' cap cap' hl h1 h2

set_option maxRecDepth 20000 in
set_option maxHeartbeats 400000 in
theorem eqDisk_calls (w : World) {lo hi lo' hi' : Nat} {a b : Value} {d : Dsk} (h1 : DView w lo hi a d) (h2 : DView w lo' hi' b d) :
    Calls Tryd.prog 7 #[a, b] w fun e w' => e = .returned (.bool true) ∧ Chg 0 0 w w' := by
  obtain ⟨dv, pv, rfl, v1, p1⟩ := h1
  obtain ⟨dv', pv', rfl, v2, p2⟩ := h2
  go_enter Tryd.func7, Tryd.ntmps7
  go_wp2_with fail
  refine (eqByteS_calls _ (v1.chg ((Chg.alloc (Chg.refl 0 0 w) _).alloc _) (by omega)) (v2.chg ((Chg.alloc (Chg.refl 0 0 w) _).alloc _) (by omega))).mono ?_
  rintro e w1 ⟨rfl, hs⟩
  have hc : Chg 0 0 w w1 := ((Chg.alloc (Chg.refl 0 0 w) _).alloc _).trans (hs.chg 0 0)
  have p1 := p1.chg hc (by omega)
  have p2 := p2.chg hc (by omega)
  have cc := fun p => hs.cell p
  clear hs v1 v2
  go_wp2_with fail
  refine (eqWriteS_calls _ p1 p2).mono ?_
  rintro e w2 ⟨rfl, hs⟩
  have hc2 := hc.trans hs
  clear hs hc p1 p2 cc
  go_wp2
  go_ret
  exact ⟨rfl, hc2⟩

end Go.Proofs.YtmfkgnifkkkkiaaDoor

namespace Go.Proofs.YtmfkgnifkkkkiaaDoor
open Go.RowKit

set_option maxRecDepth 20000 in
set_option maxHeartbeats 400000 in
theorem heldByteS_some (w : World) (n k0 : Nat) (b off cap : Nat) (hl : n ≤ 140737488355328) (hk0 : k0 ≤ 140737488355328)
    (h1 : ∀ i, i < n → w.cell? ⟨b, off + i, none⟩ = some (.int .u8 ((marks k0 n).getD i 0))) :
    Calls Tryd.prog 35 #[.slice (some ⟨b, off, none⟩) n cap, .int .i64 k0] w fun e w' => e = .returned (.int .i64 ((k0 + n : Nat) : Int)) ∧ Same w w' := by
  go_enter Tryd.func35, Tryd.ntmps35
  go_wp2
  go_loop [1, 5] (fun q i => ∃ k : Nat, k ≤ n ∧ i = .int .i64 k ∧ q = .int .i64 ((k0 + k : Nat) : Int)) (fun _ i => n - (intOf i).toNat)
  case atStart => exact ⟨0, Nat.zero_le _, rfl, rfl⟩
  case round =>
    obtain ⟨k, hk, rfl, rfl⟩ := hrel
    by_cases hlt : k < n
    · have c1 : w.cell? ⟨b, off + k, none⟩ = some (.int .u8 (((k0 + k : Nat) : Int) % 256)) := by rw [h1 k hlt, marks_getD _ _ _ hlt]
      have hi : (k : Int) < (n : Int) := by omega
      clear h1
      go_wp2
      go_round
      case rel => exact ⟨k + 1, by omega, by go_num, by go_num⟩
      case measure => simp [intOf]; omega
    · clear h1
      go_wp2
      go_ret
      exact ⟨ret_int (by omega), Same.refl _⟩

set_option maxRecDepth 20000 in
set_option maxHeartbeats 400000 in
theorem heldByteS_none (w : World) (ao : Option Addr) (k0 cap : Nat) :
    Calls Tryd.prog 35 #[.slice ao 0 cap, .int .i64 k0] w fun e w' => e = .returned (.int .i64 (k0 : Int)) ∧ Same w w' := by
  go_enter Tryd.func35, Tryd.ntmps35
  go_wp2
  refine wp_loop_rounds 1 ?_; rw [rounds_succ]
  go_wp2
  go_ret
  exact ⟨rfl, Same.refl _⟩

theorem heldByteS_calls (w : World) {lo hi : Nat} {a : Value} (k0 n : Nat) (hk0 : k0 + n ≤ 140737488355328) (h1 : View w lo hi .u8 a (marks k0 n)) :
    Calls Tryd.prog 35 #[a, .int .i64 k0] w fun e w' => e = .returned (.int .i64 ((k0 + n : Nat) : Int)) ∧ Same w w' := by
  obtain ⟨ao, cap, rfl, hl, _, h1⟩ := h1
  rw [marks_length] at *
  rcases h1 with h1 | ⟨x, off, rfl, _, _, h1⟩
  · obtain rfl : n = 0 := by have := congrArg List.length h1; simpa [marks_length] using this
    exact heldByteS_none w ao k0 cap
  · exact heldByteS_some w n k0 x off cap (by omega) (by omega) h1

set_option maxRecDepth 20000 in
set_option maxHeartbeats 400000 in
theorem markByteS_some (w : World) (base : Nat) (e : TypeId) (xs : List Int) (k0 g cap : Nat) (hl : xs.length ≤ 140737488355328) (hk0 : k0 ≤ 140737488355328)
    (h1 : OwnB w base e (.slice (some ⟨g, 0, none⟩) xs.length cap) xs) :
    Calls Tryd.prog 33 #[.slice (some ⟨g, 0, none⟩) xs.length cap, .int .i64 k0] w fun r w' => r = .returned (.int .i64 ((k0 + xs.length : Nat) : Int)) ∧
      OwnB w' base e (.slice (some ⟨g, 0, none⟩) xs.length cap) (marks k0 xs.length) ∧ Chg g (g + 1) w w' := by
  go_enter Tryd.func33, Tryd.ntmps33
  go_wp2
  go_loopw [1, 5] (fun q i wr => ∃ k : Nat, k ≤ xs.length ∧ i = .int .i64 k ∧ q = .int .i64 ((k0 + k : Nat) : Int) ∧ OwnB wr base e (.slice (some ⟨g, 0, none⟩) xs.length cap) (marks k0 k ++ xs.drop k) ∧ Chg g (g + 1) w wr) (fun _ i _ => xs.length - (intOf i).toNat)
  case atStart => exact ⟨0, Nat.zero_le _, rfl, rfl, by simpa [marks] using h1, Chg.refl _ _ _⟩
  case round =>
    obtain ⟨k, hk, rfl, rfl, hown, hch⟩ := hrel
    clear h1
    have hlen : (marks k0 k ++ xs.drop k).length = xs.length := by simp [marks_length]; omega
    have hown' : wr.ownsRow base e 1 (.slice (some ⟨g, 0, none⟩) xs.length cap) xs.length ((marks k0 k ++ xs.drop k).map (Value.int .u8)) := by
      have := hown; unfold OwnB at this; rw [hlen] at this; exact this
    by_cases hlt : k < xs.length
    · have c1 : ∃ u, wr.cell? ⟨g, k, none⟩ = some u := by
        have := World.ownsRow.cellAt hown' k (by omega)
        rw [this]
        exact ⟨_, List.getElem?_eq_getElem (by rw [List.length_map, hlen]; exact hlt)⟩
      obtain ⟨u, c1⟩ := c1
      have f1 : wr.frozen? ⟨g, k, none⟩ = false := World.ownsRow.frozenAt hown' k
      have hst := World.ownsRow.stored hown' k (.int .u8 (((k0 + k : Nat) : Int) % 256))
      rw [marks_set _ _ _ hlt] at hst
      have hlen2 : (marks k0 (k + 1) ++ xs.drop (k + 1)).length = xs.length := by simp [marks_length]; omega
      have hi : (k : Int) < (xs.length : Int) := by omega
      have R : OwnB (wr.setCell ⟨g, k, none⟩ (.int .u8 (((k0 + k : Nat) : Int) % 256))) base e (.slice (some ⟨g, 0, none⟩) xs.length cap) (marks k0 (k + 1) ++ xs.drop (k + 1)) := by
        unfold OwnB; rw [hlen2]; exact hst.1
      have R2 : Chg g (g + 1) w (wr.setCell ⟨g, k, none⟩ (.int .u8 (((k0 + k : Nat) : Int) % 256))) := hch.setCell (Or.inl ⟨Nat.le_refl _, Nat.lt_succ_self _⟩) _
      have HR : Hid (OwnB (wr.setCell ⟨g, k, none⟩ (.int .u8 (((k0 + k : Nat) : Int) % 256))) base e (.slice (some ⟨g, 0, none⟩) xs.length cap) (marks k0 (k + 1) ++ xs.drop (k + 1))) := R
      clear hst hown hown' hlen hlen2 R hch
      go_wp2
      go_roundw
      case rel => exact ⟨k + 1, by omega, by go_num, by go_num, HR.out, R2⟩
      case measure => simp [intOf]; omega
    · obtain rfl : k = xs.length := by omega
      have HR : Hid (OwnB wr base e (.slice (some ⟨g, 0, none⟩) xs.length cap) (marks k0 xs.length)) := by
        have := hown; rw [List.drop_length, List.append_nil] at this; exact this
      clear hown hown' hlen
      go_wp2
      go_ret
      exact ⟨ret_int (by omega), HR.out, hch⟩

set_option maxRecDepth 20000 in
set_option maxHeartbeats 400000 in
theorem markByteS_none (w : World) (ao : Option Addr) (k0 cap : Nat) :
    Calls Tryd.prog 33 #[.slice ao 0 cap, .int .i64 k0] w fun r w' => r = .returned (.int .i64 (k0 : Int)) ∧ w' = w := by
  go_enter Tryd.func33, Tryd.ntmps33
  go_wp2
  refine wp_loop_rounds 1 ?_; rw [rounds_succ]
  go_wp2
  go_ret
  exact ⟨rfl, rfl⟩

/-- Behind markByteS the slice's own row bears the marks; nothing else has turned. -/
theorem markByteS_calls (w : World) (base : Nat) (e : TypeId) (v : Value) (xs : List Int) (k0 lo hi : Nat) (hl : xs.length ≤ 140737488355328) (hk0 : k0 ≤ 140737488355328)
    (h1 : OwnB w base e v xs) (hb : ∀ g, v.ownBlock = some g → lo ≤ g ∧ g < hi) :
    Calls Tryd.prog 33 #[v, .int .i64 k0] w fun r w' => r = .returned (.int .i64 ((k0 + xs.length : Nat) : Int)) ∧ OwnB w' base e v (marks k0 xs.length) ∧ Chg lo hi w w' ∧ (∀ g, v.ownBlock = some g → Chg g (g + 1) w w') ∧ (v.ownBlock = none → w' = w) := by
  have h0 := h1
  obtain ⟨_, h2⟩ := h1
  rcases h2 with ⟨rfl, hn⟩ | ⟨g, cap, cur, rfl, _⟩
  · obtain rfl : xs = [] := List.eq_nil_of_length_eq_zero hn
    refine (markByteS_none w none k0 0).mono ?_
    rintro r w' ⟨rfl, rfl⟩
    exact ⟨rfl, h0, Chg.refl _ _ _, fun _ _ => Chg.refl _ _ _, fun _ => rfl⟩
  · refine (markByteS_some w base e xs k0 g cap hl hk0 h0).mono ?_
    rintro r w' ⟨rfl, ho, hc⟩
    have := hb g rfl
    exact ⟨rfl, ho, hc.widen (Or.inl this.1) (Or.inl (by omega)), fun g' hg' => by cases hg'; exact hc, fun h => by cases h⟩

end Go.Proofs.YtmfkgnifkkkkiaaDoor
