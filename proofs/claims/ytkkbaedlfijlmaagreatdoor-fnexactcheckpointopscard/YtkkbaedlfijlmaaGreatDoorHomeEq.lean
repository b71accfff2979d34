/- Several short texts in one: HomeTo, HomeEq. -/
import Derived.Test.YtkkbaedlfijlmaaGreatDoorToB
import Derived.Test.YtkkbaedlfijlmaaGreatDoorEqB
import Derived.Deep.RegionWith
namespace Go.Proofs.YtkkbaedlfijlmaaGreatDoor
open Go.RowKit

theorem Tryz.infoH : (Tryz.prog.info? 46).map (fun i => (i.zero, i.size, i.bytes)) = some (some (.agg #[.int .i64 0, .slice none 0 0]), 2, 32) := by kernel_rfl
set_option maxRecDepth 20000 in
set_option maxHeartbeats 400000 in
theorem toHome_calls (w : World) {lo hi : Nat} (q : Int) {a : Value} {xs : List Int} (hl : xs.length ≤ 1048576) (h1 : View w lo hi .u8 a xs) :
    Calls Tryz.prog 18 #[.agg #[.int .i64 q, a]] w fun e w' => ∃ g, e = .returned (.agg #[.int .i64 q, .slice (some ⟨g, 0, none⟩) xs.length xs.length]) ∧
      OwnB w' w.heap.size 5 (.slice (some ⟨g, 0, none⟩) xs.length xs.length) xs ∧ Chg 0 0 w w' := by
  have v0 := h1
  obtain ⟨ao, cap, rfl, _, _, h1⟩ := h1
  clear h1
  go_enter Tryz.func18, Tryz.ntmps18
  go_wp2_with fail
  obtain ⟨z1, z2, z3, z4⟩ := alloc3 w (.cells #[.int .i64 q, .slice ao xs.length cap] 40) (.cells #[.int .i64 0, .slice none 0 0] 46) (.cells #[.int .i64 q, .slice none 0 0] 46)
  have hw3 : Chg 0 0 w (((w.alloc (.cells #[.int .i64 q, .slice ao xs.length cap] 40)).alloc (.cells #[.int .i64 0, .slice none 0 0] 46)).alloc (.cells #[.int .i64 q, .slice none 0 0] 46)) := (((Chg.alloc (Chg.refl 0 0 w) _).alloc _).alloc _)
  have v3 := v0.chg hw3 (by omega)
  generalize (((w.alloc (.cells #[.int .i64 q, .slice ao xs.length cap] 40)).alloc (.cells #[.int .i64 0, .slice none 0 0] 46)).alloc (.cells #[.int .i64 q, .slice none 0 0] 46)) = w3 at *
  refine (toByteS_calls _ hl v3).mono ?_
  rintro e w1 ⟨g, rfl, ho, hc⟩
  have hg := (ho.lt g rfl).1
  have hch : Chg 0 0 w w1 := hw3.trans hc
  obtain ⟨r0, r1, r2, r3⟩ := two_cells ((hc.block (w.heap.size + 1) (by omega) (by omega)).trans z3)
  obtain ⟨t0, t1, t2, t3⟩ := two_cells ((hc.block (w.heap.size + 1 + 1) (by omega) (by omega)).trans z4)
  have HO : Hid (OwnB w1 w.heap.size 5 (.slice (some ⟨g, 0, none⟩) xs.length xs.length) xs) := ho.base (fun g' hg' => by cases hg'; show w.heap.size ≤ g; omega)
  clear ho hc hw3 v3 z2 z3 z4 v0
  go_wp2
  refine bodyPost_ret (v := .agg #[.int .i64 q, .slice (some ⟨g, 0, none⟩) xs.length xs.length]) (by simp [results, Tryz.results18, go_sem, r0, r1]) rfl ⟨g, rfl, ?_, ?_⟩
  · have n1 : (Value.slice (some ⟨g, 0, none⟩) xs.length xs.length).ownBlock ≠ some (w.heap.size + 1 + 1) := by simp [Value.ownBlock]; omega
    have n2 : (Value.slice (some ⟨g, 0, none⟩) xs.length xs.length).ownBlock ≠ some (w.heap.size + 1) := by simp [Value.ownBlock]; omega
    exact ((HO.out.set n1 _).set n2 _).set n2 _
  · exact ((hch.setCell (Or.inr (by show w.heap.size ≤ w.heap.size + 1 + 1; omega)) _).setCell (Or.inr (by show w.heap.size ≤ w.heap.size + 1; omega)) _).setCell (Or.inr (by show w.heap.size ≤ w.heap.size + 1; omega)) _

theorem pair_take_set (ps : List Wr) (k : Nat) (h : k < ps.length) : (ps.take k ++ List.replicate (ps.length - k) (0, [])).set k (ps.getD k (0, [])) = ps.take (k + 1) ++ List.replicate (ps.length - (k + 1)) (0, []) := by
  have e : ps.length - k = (ps.length - (k + 1)) + 1 := by omega
  rw [e, List.replicate_succ, List.set_append]
  simp only [List.length_take, Nat.min_eq_left (Nat.le_of_lt h), Nat.lt_irrefl, if_false, Nat.sub_self, List.set_cons_zero]
  have e2 : ps.getD k (0, []) = ps[k] := by simp [List.getD_eq_getElem?_getD, h]
  rw [List.take_succ_eq_append_getElem h, List.append_assoc, e2]
  rfl


theorem made2_get (z0 z1 : Value) (n i : Nat) (h : i < n) : (madeCells #[z0, z1] (n * 2)).toList[i * 2]? = some z0 ∧ (madeCells #[z0, z1] (n * 2)).toList[i * 2 + 1]? = some z1 := by
  have h1 : i * 2 < n * 2 := by omega
  have h2 : i * 2 + 1 < n * 2 := by omega
  have m1 : i * 2 % 2 = 0 := by omega
  have m2 : (i * 2 + 1) % 2 = 1 := by omega
  constructor
  · simp [madeCells, h1, m1]
  · simp [madeCells, h2, m2]

set_option maxRecDepth 20000 in
set_option maxHeartbeats 1000000 in
theorem toHomeS_some (w : World) (ps : List Wr) (lo hi b off cap : Nat) (hl : cnt ps ≤ 1048576)
    (h1 : ∀ i, i < ps.length → ∃ dv, w.cell? ⟨b, off + i * 2, none⟩ = some (.int .i64 (ps.getD i (0, [])).1) ∧ w.cell? ⟨b, off + i * 2 + 1, none⟩ = some dv ∧ View w lo hi .u8 dv (ps.getD i (0, [])).2) :
    Calls Tryz.prog 7 #[.slice (some ⟨b, off, none⟩) ps.length cap] w fun e w' => ∃ g, e = .returned (.slice (some ⟨g, 0, none⟩) ps.length ps.length) ∧
      (∃ cells dvs, OwnPx w' w.heap.size 46 5 (.slice (some ⟨g, 0, none⟩) ps.length ps.length) ps cells dvs) ∧ Chg 0 0 w w' := by
  obtain ⟨i, hi, hz0, hz1, hz2⟩ := info_parts Tryz.infoH
  have hlp := cnt_ge ps
  go_enter Tryz.func7, Tryz.ntmps7
  go_wp2_with (at_make; refine wpList_make_full _ rfl _ _ 30 rfl w.heap.size 46 i (.agg #[.int .i64 0, .slice none 0 0]) 2 Tryz.underlying30 hi hz0 hz1 _ _ _ _ ps.length rfl rfl rfl rfl (by rw [hz2]; omega) (by unfold maxLen; omega) (by simp) ?_)
  intro w1 hown hgrow
  have hch : Chg 0 0 w w1 := Chg.ofGrown hgrow (by simp)
  have hO : OwnPx w1 w.heap.size 46 5 (.slice (some ⟨w.heap.size, 0, none⟩) ps.length ps.length) (ps.take 0 ++ List.replicate (ps.length - 0) (0, [])) (madeCells #[.int .i64 0, .slice none 0 0] (ps.length * 2)).toList (fun _ => .slice none 0 0) := by
    simp only [List.take_zero, List.nil_append, Nat.sub_zero]
    refine ⟨by rw [List.length_replicate]; exact hown, ?_, ?_, ?_, ?_⟩
    · intro i hi
      rw [List.length_replicate] at hi
      rw [(made2_get _ _ _ _ hi).1]; simp [List.getD_eq_getElem?_getD, hi]
    · intro i hi
      rw [List.length_replicate] at hi
      exact (made2_get _ _ _ _ hi).2
    · intro i hi
      rw [List.length_replicate] at hi
      simp only [List.getD_eq_getElem?_getD, List.getElem?_replicate, hi, if_true, Option.getD_some]
      exact OwnB.nil _ _ _
    · intro i j g _ _ h; cases h
  clear hown hgrow
  go_wp2
  go_loopw [4] (fun i wr => ∃ k : Nat, k ≤ ps.length ∧ i = .int .i64 k ∧ (∃ cells dvs, OwnPx wr w.heap.size 46 5 (.slice (some ⟨w.heap.size, 0, none⟩) ps.length ps.length) (ps.take k ++ List.replicate (ps.length - k) (0, [])) cells dvs) ∧ Chg 0 0 w wr) (fun i _ => ps.length - (intOf i).toNat)
  case atStart => exact ⟨0, Nat.zero_le _, rfl, ⟨_, _, hO⟩, hch⟩
  case round =>
    obtain ⟨k, hk, rfl, ⟨cells, dvs, hown⟩, hc⟩ := hrel
    clear hO hch
    have hlen : (ps.take k ++ List.replicate (ps.length - k) ((0, []) : Wr)).length = ps.length := by simp; omega
    by_cases hlt : k < ps.length
    · obtain ⟨d1, c1, c2, v1⟩ := h1 k hlt
      clear h1
      have Hput := pair_take_set ps k hlt
      have hxl : (ps.getD k (0, [])).2.length ≤ 1048576 := by have := cnt_take_succ ps k hlt; have := cnt_take_le ps (k + 1); omega
      have HP : Hid ((ps.take k ++ List.replicate (ps.length - k) (0, [])).set k ((ps.getD k (0, [])).1, (ps.getD k (0, [])).2) = ps.take (k + 1) ++ List.replicate (ps.length - (k + 1)) (0, [])) := Hput
      clear Hput
      generalize (ps.getD k (0, [])).1 = q at *
      generalize (ps.getD k (0, [])).2 = xs at *
      have c1 := hc.cell c1 (by omega)
      have c2 := hc.cell c2 (by omega)
      have v1 := v1.chg hc (by omega)
      have hik : (k : Int) < (ps.length : Int) := by omega
      go_wp2_with fail
      refine (toHome_calls _ q hxl v1).mono ?_
      rintro e w2 ⟨g, rfl, ho, hs⟩
      have hsz := hc.size
      have hgb := (ho.lt g rfl).1
      have hown2 := hown.chg hs (by intro g _; omega) (by intro i g _ _; omega)
      have hrow2 := hown2.row
      rw [hlen] at hrow2
      have hcl : cells.length = ps.length * 2 := hrow2.1
      have e0 : ∃ u, w2.cell? ⟨w.heap.size, k * 2, none⟩ = some u := ⟨_, (World.ownsRow.cellAt hrow2 (k * 2) (by omega)).trans (List.getElem?_eq_getElem (by omega))⟩
      have e1 : ∃ u, w2.cell? ⟨w.heap.size, k * 2 + 1, none⟩ = some u := ⟨_, (World.ownsRow.cellAt hrow2 (k * 2 + 1) (by omega)).trans (List.getElem?_eq_getElem (by omega))⟩
      obtain ⟨u0, e0⟩ := e0
      obtain ⟨u1, e1⟩ := e1
      have f0 := World.ownsRow.frozenAt hrow2 (k * 2)
      have f1 := World.ownsRow.frozenAt hrow2 (k * 2 + 1)
      have hp := hown2.put hlen hlt (by decide) q xs _ (ho.base (fun g' hg' => by cases hg'; show w.heap.size ≤ g; omega)) (by
        intro i g' hi hg' e
        have := ((hown.data i (by rw [hlen]; exact hi)).lt g' hg').2
        cases e
        simp at this hgb; omega)
      rw [HP.out] at hp
      have HR : Hid (∃ cells' dvs', OwnPx ((w2.setCell ⟨w.heap.size, k * 2, none⟩ (.int .i64 q)).setCell ⟨w.heap.size, k * 2 + 1, none⟩ (.slice (some ⟨g, 0, none⟩) xs.length xs.length)) w.heap.size 46 5 (.slice (some ⟨w.heap.size, 0, none⟩) ps.length ps.length) (ps.take (k + 1) ++ List.replicate (ps.length - (k + 1)) (0, [])) cells' dvs') := ⟨_, _, hp⟩
      have HR2 : Hid (Chg 0 0 w ((w2.setCell ⟨w.heap.size, k * 2, none⟩ (.int .i64 q)).setCell ⟨w.heap.size, k * 2 + 1, none⟩ (.slice (some ⟨g, 0, none⟩) xs.length xs.length))) :=
        ((hc.trans hs).setCell (Or.inr (Nat.le_refl _)) _).setCell (Or.inr (Nat.le_refl _)) _
      clear hp hown hown2 hrow2 hcl ho hs hc v1 c1 c2 HP hlen
      go_wp2
      go_roundw
      case rel => exact ⟨k + 1, by omega, by go_num, HR.out, HR2.out⟩
      case measure => simp [intOf]; omega
    · obtain rfl : k = ps.length := by omega
      have HR : Hid (∃ cells dvs, OwnPx wr w.heap.size 46 5 (.slice (some ⟨w.heap.size, 0, none⟩) ps.length ps.length) ps cells dvs) := by
        have := hown; rw [List.take_length, Nat.sub_self, List.replicate_zero, List.append_nil] at this; exact ⟨_, _, this⟩
      clear hown hlen h1
      go_wp2
      go_ret
      exact ⟨_, rfl, HR.out, hc⟩

set_option maxRecDepth 20000 in
set_option maxHeartbeats 400000 in
theorem toHomeS_none (w : World) (ao : Option Addr) (cap : Nat) :
    Calls Tryz.prog 7 #[.slice ao 0 cap] w fun e w' => ∃ g, e = .returned (.slice (some ⟨g, 0, none⟩) 0 0) ∧
      (∃ cells dvs, OwnPx w' w.heap.size 46 5 (.slice (some ⟨g, 0, none⟩) 0 0) [] cells dvs) ∧ Chg 0 0 w w' := by
  obtain ⟨i, hi, hz0, hz1, hz2⟩ := info_parts Tryz.infoH
  go_enter Tryz.func7, Tryz.ntmps7
  go_wp2_with (at_make; refine wpList_make_full _ rfl _ _ 30 rfl w.heap.size 46 i (.agg #[.int .i64 0, .slice none 0 0]) 2 Tryz.underlying30 hi hz0 hz1 _ _ _ _ 0 rfl rfl rfl rfl (by omega) (by unfold maxLen; omega) (by simp) ?_)
  intro w1 hown hgrow
  have hch : Chg 0 0 w w1 := Chg.ofGrown hgrow (by simp)
  have hO : ∃ cells dvs, OwnPx w1 w.heap.size 46 5 (.slice (some ⟨w.heap.size, 0, none⟩) 0 0) [] cells dvs :=
    ⟨_, fun _ => .slice none 0 0, hown, by simp, by simp, by simp, by simp⟩
  have HO : Hid (∃ cells dvs, OwnPx w1 w.heap.size 46 5 (.slice (some ⟨w.heap.size, 0, none⟩) 0 0) [] cells dvs) := hO
  clear hown hgrow hO
  go_wp2
  refine wp_loop_rounds 1 ?_; rw [rounds_succ]
  go_wp2
  go_ret
  exact ⟨_, rfl, HO.out, hch⟩

theorem toHomeS_calls (w : World) {lo hi : Nat} {a : Value} {ps : List Wr} (hl : cnt ps ≤ 1048576) (h1 : PView w lo hi a ps) :
    Calls Tryz.prog 7 #[a] w fun e w' => ∃ g, e = .returned (.slice (some ⟨g, 0, none⟩) ps.length ps.length) ∧
      (∃ cells dvs, OwnPx w' w.heap.size 46 5 (.slice (some ⟨g, 0, none⟩) ps.length ps.length) ps cells dvs) ∧ Chg 0 0 w w' := by
  obtain ⟨ao, cap, rfl, _, _, h1⟩ := h1
  rcases h1 with rfl | ⟨x, off, rfl, _, _, h1⟩
  · exact toHomeS_none w ao cap
  · exact toHomeS_some w ps lo hi x off cap hl h1

theorem OwnPx.base {w : World} {base base' : Nat} {eW eB : TypeId} {v : Value} {ps : List Wr} {cells : List Value} {dvs : Nat → Value} (h : OwnPx w base eW eB v ps cells dvs) (hb : base' ≤ base) : OwnPx w base' eW eB v ps cells dvs := by
  refine ⟨?_, h.at0, h.at1, fun i hi => (h.data i hi).base (fun g hg => Nat.le_trans hb ((h.data i hi).lt g hg).1), h.apart⟩
  obtain ⟨h1, h2⟩ := h.row
  refine ⟨h1, ?_⟩
  rcases h2 with h2 | ⟨g, cap, cur, hv, hg, r⟩
  · exact Or.inl h2
  · exact Or.inr ⟨g, cap, cur, hv, by omega, r⟩

theorem OwnPx.lt {w : World} {base : Nat} {eW eB : TypeId} {v : Value} {ps : List Wr} {cells : List Value} {dvs : Nat → Value} (h : OwnPx w base eW eB v ps cells dvs) : ∀ g, v.ownBlock = some g → base ≤ g ∧ g < w.heap.size := World.ownsRow.lt h.row

theorem OwnPx.set {w : World} {base : Nat} {eW eB : TypeId} {v : Value} {ps : List Wr} {cells : List Value} {dvs : Nat → Value} (h : OwnPx w base eW eB v ps cells dvs) {p : Addr} (hp : p.block < base) (u : Value) : OwnPx (w.setCell p u) base eW eB v ps cells dvs := by
  refine ⟨ownsRow_setCell_other h.row ?_ u, h.at0, h.at1, fun i hi => (h.data i hi).set ?_ u, h.apart⟩
  · intro e; have := (h.lt _ e).1; omega
  · intro e; have := ((h.data i hi).lt _ e).1; omega

end Go.Proofs.YtkkbaedlfijlmaaGreatDoor

namespace Go.Proofs.YtkkbaedlfijlmaaGreatDoor
open Go.RowKit

set_option maxRecDepth 20000 in
set_option maxHeartbeats 400000 in
theorem eqHome_calls (w : World) {lo hi lo' hi' : Nat} (q : Int) {a b : Value} {xs : List Int} (h1 : View w lo hi .u8 a xs) (h2 : View w lo' hi' .u8 b xs) :
    Calls Tryz.prog 23 #[.agg #[.int .i64 q, a], .agg #[.int .i64 q, b]] w fun e w' => e = .returned (.bool true) ∧ Chg 0 0 w w' := by
  have hne : (q != q) = false := by simp
  go_enter Tryz.func23, Tryz.ntmps23
  go_wp2_with fail
  refine (eqByteS_calls _ (h1.chg ((Chg.alloc (Chg.refl 0 0 w) _).alloc _) (by omega)) (h2.chg ((Chg.alloc (Chg.refl 0 0 w) _).alloc _) (by omega))).mono ?_
  rintro e w1 ⟨rfl, hs⟩
  have hc : Chg 0 0 w w1 := ((Chg.alloc (Chg.refl 0 0 w) _).alloc _).trans (hs.chg 0 0)
  clear hs
  go_wp2
  go_ret
  exact ⟨rfl, hc⟩

set_option maxRecDepth 20000 in
set_option maxHeartbeats 1000000 in
theorem eqHomeS_some (w : World) (ps : List Wr) (lo hi lo' hi' b off b' off' cap cap' : Nat) (hl : ps.length ≤ 9223372036854775807)
    (h1 : ∀ i, i < ps.length → ∃ dv, w.cell? ⟨b, off + i * 2, none⟩ = some (.int .i64 (ps.getD i (0, [])).1) ∧ w.cell? ⟨b, off + i * 2 + 1, none⟩ = some dv ∧ View w lo hi .u8 dv (ps.getD i (0, [])).2)
    (h2 : ∀ i, i < ps.length → ∃ dv, w.cell? ⟨b', off' + i * 2, none⟩ = some (.int .i64 (ps.getD i (0, [])).1) ∧ w.cell? ⟨b', off' + i * 2 + 1, none⟩ = some dv ∧ View w lo' hi' .u8 dv (ps.getD i (0, [])).2) :
    Calls Tryz.prog 10 #[.slice (some ⟨b, off, none⟩) ps.length cap, .slice (some ⟨b', off', none⟩) ps.length cap'] w fun e w' => e = .returned (.bool true) ∧ Chg 0 0 w w' := by
  have hne : ((ps.length : Int) != (ps.length : Int)) = false := by simp
  go_enter Tryz.func10, Tryz.ntmps10
  go_wp2
  go_loopw [5] (fun i wr => Chg 0 0 w wr ∧ ∃ k : Nat, k ≤ ps.length ∧ i = .int .i64 k) (fun i _ => ps.length - (intOf i).toNat)
  case atStart => exact ⟨Chg.refl _ _ _, 0, Nat.zero_le _, rfl⟩
  case round =>
    obtain ⟨hch, k, hk, rfl⟩ := hrel
    by_cases hlt : k < ps.length
    · obtain ⟨d1, c1, c2, v1⟩ := h1 k hlt
      obtain ⟨d2, c3, c4, v2⟩ := h2 k hlt
      clear h1 h2
      generalize (ps.getD k (0, [])).1 = q at *
      generalize (ps.getD k (0, [])).2 = xs at *
      have c1 := hch.cell c1 (by omega)
      have c2 := hch.cell c2 (by omega)
      have c3 := hch.cell c3 (by omega)
      have c4 := hch.cell c4 (by omega)
      have v1 := v1.chg hch (by omega)
      have v2 := v2.chg hch (by omega)
      have hi : (k : Int) < (ps.length : Int) := by omega
      go_wp2
      go_region_with (go_at_call 23; refine (eqHome_calls _ q (v1.chg (Chg.drew (Chg.refl 0 0 _)) (by omega)) (v2.chg (Chg.drew (Chg.refl 0 0 _)) (by omega))).mono ?_; rintro e w1 ⟨rfl, hs⟩)
      all_goals
        have hch' : Chg 0 0 w w1 := hch.drew.trans hs
        clear hs hch
        go_wp2
        go_roundw
        case rel => exact ⟨hch', k + 1, by omega, by go_num⟩
        case measure => simp [intOf]; omega
    · clear h1 h2
      go_wp2
      go_ret
      exact ⟨rfl, hch⟩

set_option maxRecDepth 20000 in
set_option maxHeartbeats 400000 in
theorem eqHomeS_none (w : World) (ao bo : Option Addr) (cap cap' : Nat) :
    Calls Tryz.prog 10 #[.slice ao 0 cap, .slice bo 0 cap'] w fun e w' => e = .returned (.bool true) ∧ Chg 0 0 w w' := by
  go_enter Tryz.func10, Tryz.ntmps10
  go_wp2
  refine wp_loop_rounds 1 ?_; rw [rounds_succ]
  go_wp2
  go_ret
  exact ⟨rfl, Chg.refl _ _ _⟩

theorem eqHomeS_calls (w : World) {lo hi lo' hi' : Nat} {a b : Value} {ps : List Wr} (h1 : PView w lo hi a ps) (h2 : PView w lo' hi' b ps) :
    Calls Tryz.prog 10 #[a, b] w fun e w' => e = .returned (.bool true) ∧ Chg 0 0 w w' := by
  obtain ⟨ao, cap, rfl, hl, _, h1⟩ := h1
  obtain ⟨bo, cap', rfl, _, _, h2⟩ := h2
  rcases h1 with rfl | ⟨x, off, rfl, _, _, h1⟩
  · exact eqHomeS_none w ao bo cap cap'
  · rcases h2 with rfl | ⟨y, off', rfl, _, _, h2⟩
    · exact eqHomeS_none w _ bo cap cap'
    · exact eqHomeS_some w ps lo hi lo' hi' x off y off' cap cap' hl h1 h2

end Go.Proofs.YtkkbaedlfijlmaaGreatDoor
